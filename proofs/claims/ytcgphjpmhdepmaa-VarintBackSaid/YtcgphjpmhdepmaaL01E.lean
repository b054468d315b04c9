/- The statement of layer 1 that what is put is cut as it was, as a walk. -/
import Derived.Test.YtcgphjpmhdepmaaL01C
import Derived.Test.YtcgphjpmhdepmaaReg
namespace Go.Proofs.Ytcgphjpmhdepmaa
open Go.RowKit
set_option linter.unusedVariables false
set_option linter.unusedSimpArgs false
theorem rd_take {w : World} {ao : Option Addr} {n cap : Nat} {l : List UInt8} (h : Rd w (.slice ao n cap) l) (k : Nat) (hk : k ≤ n) : Rd w (.slice ao k cap) (l.take k) := by
  obtain ⟨ao', cap', he, h2, h3, h4, h5⟩ := h
  cases he
  have hlen : (l.take k).length = k := by simp; omega
  refine ⟨ao, cap, by rw [hlen], by omega, h3, h4, ?_⟩
  intro h0
  rw [hlen] at h0 ⊢
  obtain ⟨b, off, rfl, hb, hc⟩ := h5 (by omega)
  refine ⟨b, off, rfl, hb, ?_⟩
  intro i hi
  rw [hc i (by omega)]
  simp [List.getD, hi]
set_option maxRecDepth 100000 in
set_option maxHeartbeats 2000000 in
theorem back_any (v w : Int) (t : Value) (l : List UInt8) (W : World) (hv : (Lit.int .u64 v).wf = true) (hw : (Lit.int .i64 w).wf = true) (h : Rd W t l) :
    Calls Try.prog 8 #[.int .u64 v, .int .i64 w, t] W fun e w' => e = .returned (.bool true) ∧ Below W.heap.size W w' := by
  obtain ⟨i0, hi0, hz0, hz1, hz2⟩ := info_parts u8info
  have hu := u64_of_wf hv
  obtain ⟨n, rfl, hn⟩ := nat_of_u64 hu
  have hi := i64_of_wf hw
  have hz := zigN_u64 hi
  have hzn : zigN w < 18446744073709551616 := by have := hz.2; omega
  have B : Below W.heap.size W W := Below.refl _ _
  clear hv hw
  go_enter Try.func8, Try.ntmps8
  go_wp2_with fail
  refine (few_any t l _ h).mono ?_
  rintro e w' ⟨⟨t', rfl, ht⟩, rfl⟩
  have hlen : (l.take 2000).length ≤ 2000 := by simp; omega
  clear h
  generalize l.take 2000 = l' at *
  have ht0 := ht
  obtain ⟨ao, cap, rfl, c1, c2, c3, c4⟩ := ht0
  have C3 := Lib.hid c3
  have C4 := Lib.hid c4
  clear c3 c4
  have HN := Lib.hid hn
  have HZ := Lib.hid hzn
  clear hn hzn
  go_wp2_with fail
  refine (put_at _ n rfl hu _).mono ?_
  rintro e W1 ⟨g1, m1, cap1, rfl, hm1, hl1, o1, b1⟩
  have hl1 := hl1.out
  subst hl1
  have B := B.trans (b1.mono B.size)
  have r1 := own_rd o1
  have hp1 := putL_len n
  have hp2 := putL_len (zigN w)
  have P1 := Lib.hid (cut_put HN.out l')
  have P2 := Lib.hid (cut_put HZ.out l')
  obtain ⟨⟨z, k, g⟩, hr⟩ : ∃ r, cutL l' = r := ⟨_, rfl⟩
  have HR := Lib.hid hr
  obtain ⟨f1, f2, f3, f4, f5, _⟩ := cutL_facts hr
  clear hr
  have uz : U64 (z : Int) := ⟨by omega, by omega⟩
  clear f1
  have hg : (0 < g ∧ z ≤ 0 ∧ k ≤ 0) ∨ (g ≤ 0 ∧ 0 < k) := by omega
  clear f4 f5
  rcases hg with ⟨hg, hzz, hkk⟩ | ⟨hg, hk⟩
  · go_wp2_with (first
      | (at_builtin; refine wpList_app_rd W rfl (.tmp 23) (.tmp 24) 24 rfl W.heap.size 5 i0 (.int .u8 0) 1 Try.underlying24 hi0 hz0 hz1 hz2 rfl _ 0 [] rfl (World.ownsRow_lit _ #[] 0 B.size (by decide) rfl) _ (putL n) rfl (r1.below ((Below.refl _ _).alloc (Nat.le_refl _) _) (Nat.le_refl _)) (by unfold maxLen; omega) (by omega) (Nat.le_refl _) (B.alloc B.size _) ?_; intro v1 W2 o2 B2; clear o1 r1 b1; rw [Nat.zero_add, List.nil_append] at o2)
      | (at_builtin; refine wpList_app_rd W rfl (.tmp 25) (.tmp 26) 24 rfl W.heap.size 5 i0 (.int .u8 0) 1 Try.underlying24 hi0 hz0 hz1 hz2 rfl _ (putL n).length ((putL n).map bv) rfl o2 _ l' rfl (ht.below B2 (Nat.le_refl _)) (by unfold maxLen; omega) (by omega) (Nat.le_refl _) B2 ?_; intro v2 W3 o3 B3; clear o2; rw [← List.map_append] at o3; obtain ⟨g3, cap3, rfl, _, _⟩ := slice_of_own o3 (by omega); have r3 := own_rd o3; clear o3)
      | (go_at_call 19; refine (cut_at _ _ n (putL n).length 0 P1 _ r3).mono ?_; rintro e w' ⟨rfl, rfl⟩; clear r3)
      | (go_at_call 16; refine (putInt_any w hi _).mono ?_; rintro e W4 ⟨g4, m4, cap4, rfl, hm4, hl4, o4, b4⟩; have hl4 := hl4.out; subst hl4; have B4 := B3.trans (b4.mono B3.size); have r4 := own_rd o4)
      | (at_builtin; refine wpList_app_rd W rfl (.tmp 35) (.tmp 36) 24 rfl W.heap.size 5 i0 (.int .u8 0) 1 Try.underlying24 hi0 hz0 hz1 hz2 rfl _ 0 [] rfl (World.ownsRow_lit _ #[] 0 B4.size (by decide) rfl) _ (putL (zigN w)) rfl (r4.below ((Below.refl _ _).alloc (Nat.le_refl _) _) (Nat.le_refl _)) (by unfold maxLen; omega) (by omega) (Nat.le_refl _) (B4.alloc B4.size _) ?_; intro v5 W5 o5 B5; clear o4 r4 b4; rw [Nat.zero_add, List.nil_append] at o5)
      | (at_builtin; refine wpList_app_rd W rfl (.tmp 37) (.tmp 38) 24 rfl W.heap.size 5 i0 (.int .u8 0) 1 Try.underlying24 hi0 hz0 hz1 hz2 rfl _ (putL (zigN w)).length ((putL (zigN w)).map bv) rfl o5 _ l' rfl (ht.below B5 (Nat.le_refl _)) (by unfold maxLen; omega) (by omega) (Nat.le_refl _) B5 ?_; intro v6 W6 o6 B6; clear o5; rw [← List.map_append] at o6; obtain ⟨g6, cap6, rfl, _, _⟩ := slice_of_own o6 (by omega); have r6 := own_rd o6; clear o6)
      | (go_at_call 20; refine (cutInt_at _ _ (zigN w) (putL (zigN w)).length 0 P2 _ r6).mono ?_; rintro e w' ⟨rfl, rfl⟩; rw [zig_unzig]; clear r6)
      | (go_at_call 19; refine (cut_at _ _ z k g HR _ (ht.below B6 (Nat.le_refl _))).mono ?_; rintro e w' ⟨rfl, rfl⟩)
      | (go_at_call 12; refine (awake_any _).mono ?_; rintro e W7 ⟨rfl, b7⟩; have B7 := B6.trans (b7.mono B6.size)))
    go_ret
    exact ⟨rfl, B7⟩
  · have hpc := put_cut (show cutL l' = (z, k, 0) from by rw [HR.out, show g = 0 from by omega])
    have EQ := Lib.hid hpc.1
    clear hpc
    go_wp2_with (first
      | (at_builtin; refine wpList_app_rd W rfl (.tmp 23) (.tmp 24) 24 rfl W.heap.size 5 i0 (.int .u8 0) 1 Try.underlying24 hi0 hz0 hz1 hz2 rfl _ 0 [] rfl (World.ownsRow_lit _ #[] 0 B.size (by decide) rfl) _ (putL n) rfl (r1.below ((Below.refl _ _).alloc (Nat.le_refl _) _) (Nat.le_refl _)) (by unfold maxLen; omega) (by omega) (Nat.le_refl _) (B.alloc B.size _) ?_; intro v1 W2 o2 B2; clear o1 r1 b1; rw [Nat.zero_add, List.nil_append] at o2)
      | (at_builtin; refine wpList_app_rd W rfl (.tmp 25) (.tmp 26) 24 rfl W.heap.size 5 i0 (.int .u8 0) 1 Try.underlying24 hi0 hz0 hz1 hz2 rfl _ (putL n).length ((putL n).map bv) rfl o2 _ l' rfl (ht.below B2 (Nat.le_refl _)) (by unfold maxLen; omega) (by omega) (Nat.le_refl _) B2 ?_; intro v2 W3 o3 B3; clear o2; rw [← List.map_append] at o3; obtain ⟨g3, cap3, rfl, _, _⟩ := slice_of_own o3 (by omega); have r3 := own_rd o3; clear o3)
      | (go_at_call 19; refine (cut_at _ _ n (putL n).length 0 P1 _ r3).mono ?_; rintro e w' ⟨rfl, rfl⟩; clear r3)
      | (go_at_call 16; refine (putInt_any w hi _).mono ?_; rintro e W4 ⟨g4, m4, cap4, rfl, hm4, hl4, o4, b4⟩; have hl4 := hl4.out; subst hl4; have B4 := B3.trans (b4.mono B3.size); have r4 := own_rd o4)
      | (at_builtin; refine wpList_app_rd W rfl (.tmp 35) (.tmp 36) 24 rfl W.heap.size 5 i0 (.int .u8 0) 1 Try.underlying24 hi0 hz0 hz1 hz2 rfl _ 0 [] rfl (World.ownsRow_lit _ #[] 0 B4.size (by decide) rfl) _ (putL (zigN w)) rfl (r4.below ((Below.refl _ _).alloc (Nat.le_refl _) _) (Nat.le_refl _)) (by unfold maxLen; omega) (by omega) (Nat.le_refl _) (B4.alloc B4.size _) ?_; intro v5 W5 o5 B5; clear o4 r4 b4; rw [Nat.zero_add, List.nil_append] at o5)
      | (at_builtin; refine wpList_app_rd W rfl (.tmp 37) (.tmp 38) 24 rfl W.heap.size 5 i0 (.int .u8 0) 1 Try.underlying24 hi0 hz0 hz1 hz2 rfl _ (putL (zigN w)).length ((putL (zigN w)).map bv) rfl o5 _ l' rfl (ht.below B5 (Nat.le_refl _)) (by unfold maxLen; omega) (by omega) (Nat.le_refl _) B5 ?_; intro v6 W6 o6 B6; clear o5; rw [← List.map_append] at o6; obtain ⟨g6, cap6, rfl, _, _⟩ := slice_of_own o6 (by omega); have r6 := own_rd o6; clear o6)
      | (go_at_call 20; refine (cutInt_at _ _ (zigN w) (putL (zigN w)).length 0 P2 _ r6).mono ?_; rintro e w' ⟨rfl, rfl⟩; rw [zig_unzig]; clear r6)
      | (go_at_call 19; refine (cut_at _ _ z k g HR _ (ht.below B6 (Nat.le_refl _))).mono ?_; rintro e w' ⟨rfl, rfl⟩))
    have B7 := B6.drew
    clear B2 B3 B4 B5 P1 P2 HN HZ HR C3 C4 hp1 hp2 hm1 hm4 hl1 hl4 hi hz hu
    have d1 : decide ((1 : Int) ≤ (k : Int)) = true := by simp; omega
    have d2 : decide ((k : Int) ≤ (l'.length : Int)) = true := by simp; omega
    have i1 : (0 : Int) ≤ (k : Int) := by omega
    have i2 : (k : Int) ≤ (cap : Int) := by omega
    refine g_start (by kernel_rfl) ?_
    refine g_take (i := 0) (d := (some 89)) (v := ?_) rfl rfl (by kernel_rfl) (fun _ _ _ h => h) (by rfl) (fun w' hb' => ?_) ?_
    rotate_left
    · (try go_simp); (try with_reducible rfl)
    try simp only [Act.put, List.setIfInBounds_toArray, List.set_cons_zero, List.set_cons_succ]
    refine g_take (i := 1) (d := (some 90)) (v := ?_) rfl rfl (by kernel_rfl) (fun _ _ _ h => h) (by rfl) (fun w' hb' => ?_) ?_
    rotate_left
    · (try go_simp); (try with_reducible rfl)
    try simp only [Act.put, List.setIfInBounds_toArray, List.set_cons_zero, List.set_cons_succ]
    refine g_take (i := 2) (d := (some 91)) (v := ?_) rfl rfl (by kernel_rfl) (fun _ _ _ h => h) (by rfl) (fun w' hb' => ?_) ?_
    rotate_left
    · (try go_simp); (try with_reducible rfl)
    try simp only [Act.put, List.setIfInBounds_toArray, List.set_cons_zero, List.set_cons_succ]
    refine g_take (i := 3) (d := (some 92)) (v := ?_) rfl rfl (by kernel_rfl) (fun _ _ _ h => h) (by rfl) (fun w' hb' => ?_) ?_
    rotate_left
    · (try go_simp); (try with_reducible rfl)
    try simp only [Act.put, List.setIfInBounds_toArray, List.set_cons_zero, List.set_cons_succ]
    refine g_take (i := 4) (d := (some 93)) (v := ?_) rfl rfl (by kernel_rfl) (fun _ _ _ h => h) (by rfl) (fun w' hb' => ?_) ?_
    rotate_left
    · (try go_simp); (try with_reducible rfl)
    try simp only [Act.put, List.setIfInBounds_toArray, List.set_cons_zero, List.set_cons_succ]
    refine g_take (i := 5) (d := (some 94)) (v := ?_) rfl rfl (by kernel_rfl) (fun _ _ _ h => h) (by rfl) (fun w' hb' => ?_) ?_
    rotate_left
    · (try go_simp); (try with_reducible rfl)
    try simp only [Act.put, List.setIfInBounds_toArray, List.set_cons_zero, List.set_cons_succ]
    refine g_take (i := 6) (d := (some 95)) (v := ?_) rfl rfl (by kernel_rfl) (fun _ _ _ h => h) (by rfl) (fun w' hb' => ?_) ?_
    rotate_left
    · (try go_simp); (try with_reducible rfl)
    try simp only [Act.put, List.setIfInBounds_toArray, List.set_cons_zero, List.set_cons_succ]
    refine g_take (i := 7) (d := (some 96)) (v := ?_) rfl rfl (by kernel_rfl) (fun _ _ _ h => h) (by rfl) (fun w' hb' => ?_) ?_
    rotate_left
    · (try go_simp); (try with_reducible rfl)
    try simp only [Act.put, List.setIfInBounds_toArray, List.set_cons_zero, List.set_cons_succ]
    refine g_take (i := 8) (d := (some 97)) (v := ?_) rfl rfl (by kernel_rfl) (fun _ _ _ h => h) (by rfl) (fun w' hb' => ?_) ?_
    rotate_left
    · (try go_simp); (try with_reducible rfl)
    try simp only [Act.put, List.setIfInBounds_toArray, List.set_cons_zero, List.set_cons_succ]
    refine g_take (i := 9) (d := (some 98)) (v := ?_) rfl rfl (by kernel_rfl) (fun _ _ _ h => h) (by rfl) (fun w' hb' => ?_) ?_
    rotate_left
    · (try go_simp); (try with_reducible rfl)
    try simp only [Act.put, List.setIfInBounds_toArray, List.set_cons_zero, List.set_cons_succ]
    refine g_take (i := 12) (d := (some 101)) (v := ?_) rfl rfl (by kernel_rfl) (fun _ _ _ h => h) (by rfl) (fun w' hb' => ?_) ?_
    rotate_left
    · (try go_simp); (try with_reducible rfl)
    try simp only [Act.put, List.setIfInBounds_toArray, List.set_cons_zero, List.set_cons_succ]
    refine g_take (i := 13) (d := (some 102)) (v := ?_) rfl rfl (by kernel_rfl) (fun _ _ _ h => h) (by rfl) (fun w' hb' => ?_) ?_
    rotate_left
    · (try go_simp); (try with_reducible rfl)
    try simp only [Act.put, List.setIfInBounds_toArray, List.set_cons_zero, List.set_cons_succ]
    refine g_take (i := 14) (d := (some 103)) (v := ?_) rfl rfl (by kernel_rfl) (fun _ _ _ h => h) (by rfl) (fun w' hb' => ?_) ?_
    rotate_left
    · (try go_simp); (try with_reducible rfl)
    try simp only [Act.put, List.setIfInBounds_toArray, List.set_cons_zero, List.set_cons_succ]
    refine g_take (i := 15) (d := (some 104)) (v := ?_) rfl rfl (by kernel_rfl) (fun _ _ _ h => h) (by rfl) (fun w' hb' => ?_) ?_
    rotate_left
    · have kk := cv (rd_take (ht.below (B7.trans (hb'.mono B7.size)) (Nat.le_refl _)) k f2); (try go_simp); (try with_reducible rfl)
    try simp only [Act.put, List.setIfInBounds_toArray, List.set_cons_zero, List.set_cons_succ]
    refine g_run (i := 10) rfl (by kernel_rfl) (by rfl) (fun K hK => ?_)
    go_simp; refine (put_at _ z rfl uz _).mono ?_; rintro e W8 ⟨g8, m8, cap8, rfl, _, _, o8, b8⟩; refine hK _ _ ⟨b8, ?_⟩; have B7 := B7.trans (b8.mono B7.size); have r8 := own_rd o8; rw [EQ.out] at r8; clear hK K b8 o8
    try simp only [Act.put, List.setIfInBounds_toArray, List.set_cons_zero, List.set_cons_succ]
    refine g_take (i := 11) (d := (some 100)) (v := ?_) rfl rfl (by kernel_rfl) (fun _ _ _ h => h) (by rfl) (fun w' hb' => ?_) ?_
    rotate_left
    · have kk := cv (r8.below hb' (Nat.le_refl _)); (try go_simp); (try with_reducible rfl)
    try simp only [Act.put, List.setIfInBounds_toArray, List.set_cons_zero, List.set_cons_succ]
    refine g_take (i := 16) (d := (some 105)) (v := ?_) rfl rfl (by kernel_rfl) (fun _ _ _ h => h) (by rfl) (fun w' hb' => ?_) ?_
    rotate_left
    · (try go_simp); (try with_reducible rfl)
    try simp only [Act.put, List.setIfInBounds_toArray, List.set_cons_zero, List.set_cons_succ]
    refine g_take (i := 17) (d := (some 106)) (v := ?_) rfl rfl (by kernel_rfl) (fun _ _ _ h => h) (by rfl) (fun w' hb' => ?_) ?_
    rotate_left
    · (try go_simp); (try with_reducible rfl)
    try simp only [Act.put, List.setIfInBounds_toArray, List.set_cons_zero, List.set_cons_succ]
    refine g_take (i := 18) (d := (some 107)) (v := ?_) rfl rfl (by kernel_rfl) (fun _ _ _ h => h) (by rfl) (fun w' hb' => ?_) ?_
    rotate_left
    · (try go_simp); (try with_reducible rfl)
    try simp only [Act.put, List.setIfInBounds_toArray, List.set_cons_zero, List.set_cons_succ]
    refine g_run (i := 19) rfl (by kernel_rfl) (by rfl) (fun K hK => ?_)
    go_simp; refine (awake_any _).mono ?_; rintro e W9 ⟨rfl, b9⟩; refine hK _ _ ⟨b9, ?_⟩; have B7 := B7.trans (b9.mono B7.size); clear hK K b9
    try simp only [Act.put, List.setIfInBounds_toArray, List.set_cons_zero, List.set_cons_succ]
    refine g_take (i := 20) (d := (some 109)) (v := ?_) rfl rfl (by kernel_rfl) (fun _ _ _ h => h) (by rfl) (fun w' hb' => ?_) ?_
    rotate_left
    · (try go_simp); (try with_reducible rfl)
    try simp only [Act.put, List.setIfInBounds_toArray, List.set_cons_zero, List.set_cons_succ]
    refine g_take (i := 21) (d := (some 6)) (v := ?_) rfl rfl (by kernel_rfl) (fun _ _ _ h => h) (by rfl) (fun w' hb' => ?_) ?_
    rotate_left
    · (try go_simp); (try with_reducible rfl)
    try simp only [Act.put, List.setIfInBounds_toArray, List.set_cons_zero, List.set_cons_succ]
    refine g_done (by kernel_rfl) ?_
    go_wp2
    go_ret
    exact ⟨rfl, B7⟩
end Go.Proofs.Ytcgphjpmhdepmaa
