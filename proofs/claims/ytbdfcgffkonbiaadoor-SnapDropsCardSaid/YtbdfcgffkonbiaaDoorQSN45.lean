/- Snaps: the document's At, Drop, Same. Written by wip/tools/gen14i.py. -/
import Derived.Test.YtbdfcgffkonbiaaDoorQSN40
namespace Go.Proofs.YtbdfcgffkonbiaaDoor
open Go Go.RowKit
set_option linter.unusedVariables false
set_option linter.unusedSimpArgs false
/-- The first place of a number from a place on; -1: there is none. -/
def ixQ (L : List Sn) (q : Int) : Int := match L.findIdx? (fun x => decide (x.q = q)) with | some i => (i : Int) | none => -1
theorem ixQ_at {L : List Sn} {q : Int} {k : Nat} (hk : k < L.length) (h : L[k].q = q) (hb : ∀ i (hi : i < L.length), i < k → L[i].q ≠ q) : ixQ L q = k := by
  unfold ixQ
  rw [List.findIdx?_eq_some_iff_getElem.2 ⟨hk, by simpa using h, fun j hj => by simpa using hb j (by omega) hj⟩]
theorem ixQ_none {L : List Sn} {q : Int} (h : ∀ i (hi : i < L.length), L[i].q ≠ q) : ixQ L q = -1 := by
  unfold ixQ
  rw [List.findIdx?_eq_none_iff.2 (fun x hx => by obtain ⟨i, hi, rfl⟩ := List.getElem_of_mem hx; simpa using h i hi)]
set_option maxRecDepth 100000 in
set_option maxHeartbeats 1000000 in
theorem refAt14_any (v : Value) (L : List Sn) (q : Int) (w : World) (h : RdK 36 snC w v L) (h10 : L.length ≤ 100) :
    Calls Tryd.prog 48 #[v, .int .i64 q] w fun e w' => e = .returned (.int .i64 (ixQ L q)) ∧ w = w' := by
  obtain ⟨ao, cap, rfl, hc, hm, hr⟩ := RdK.open h
  have HRD := Lib.hid (show RdK 36 snC w (.slice ao L.length cap) L from hr)
  obtain ⟨R, hR⟩ : ∃ R, R = ixQ L q := ⟨_, rfl⟩
  rw [← hR]
  have HR := Lib.hid hR
  clear h hr hR
  go_enter Tryd.func48, Tryd.ntmps48
  go_wp2_with fail
  go_loopw [5] (fun i wr => ∃ k : Nat, k ≤ L.length ∧ i = .int .i64 (k : Int) ∧ Hid (∀ i (hi : i < L.length), i < k → L[i].q ≠ q) ∧ wr = w) (fun i _ => 200 - (intOf i).toNat)
  case atStart => exact ⟨0, Nat.zero_le _, rfl, Lib.hid (fun i _ h => by omega), rfl⟩
  case round =>
    obtain ⟨k, hk, rfl, HA, rfl⟩ := hrel
    by_cases hlt : k < L.length
    · obtain ⟨b, off, rfl, hb, hcx0⟩ := RdK.cell snC_len HRD.out k hlt
      obtain ⟨x, hx⟩ : ∃ x, x = L[k]'hlt := ⟨_, rfl⟩
      rw [← hx] at hcx0
      have cq := sn_q (show ∀ i, i < 36 → wr.cell? ⟨b, off + k * 36 + i, none⟩ = (snC x)[i]? from fun i hi => by rw [Nat.add_assoc]; exact hcx0 i hi)
      clear hcx0
      have HX := Lib.hid hx
      clear hx
      by_cases hq : x.q = q
      · have t1 : (x.q == q) = true := by simp [hq]
        have t2 : decide (x.q = q) = true := by simp [hq]
        have E := Lib.hid (show R = (k : Int) by rw [HR.out]; exact ixQ_at hlt (by rw [← HX.out]; exact hq) HA.out)
        clear hq
        go_wp2_with fail
        go_ret
        exact ⟨by rw [E.out]; rfl, rfl⟩
      · have t1 : (x.q == q) = false := by simp [hq]
        have t2 : decide (x.q = q) = false := by simp [hq]
        have HN := Lib.hid (show ∀ i (hi : i < L.length), i < k + 1 → L[i].q ≠ q from fun i hi hik => by
          rcases Nat.lt_or_eq_of_le (show i ≤ k by omega) with h4 | h4
          · exact HA.out i hi h4
          · subst h4; rw [← HX.out]; exact hq)
        clear hq
        go_wp2_with fail
        exact ⟨⟨k + 1, by omega, by push_cast; rfl, HN, trivial⟩, by simp [intOf]; omega⟩
    · obtain rfl : k = L.length := by omega
      have E := Lib.hid (show R = -1 by rw [HR.out]; exact ixQ_none (fun i hi => HA.out i hi hi))
      go_wp2_with fail
      go_ret
      exact ⟨by rw [E.out]; rfl, rfl⟩
theorem wpList_build1 {P : Program} {ops : Array Oper} {rest : List Oper} {o : Oper} {a : Act} {w : World} {Q : Exit → Act → World → Prop} (hgd : o.guard = none) (t : TypeId) (x : Operand) (ho : o.op = .buildSlice t 1 #[(0, x)]) (cs : Array Value) (hx : a.eval x = .agg cs) (r : Value) (w' : World)
    (hrun : (Instr.buildSlice t 1 #[(0, .agg cs)]).run P w = .ok r w') (h : wpList P ops Q rest (a.put o.dst r) w') : wpList P ops Q (o :: rest) a w :=
  wpList_plain hgd fun _ hK => op_build1 t x ho cs hx r w' hrun (hK _ _ h)
/-- What is left of a list, snap by snap. -/
def dropF (L : List Sn) (q : Int) (k : Nat) : List Sn := (List.range k).flatMap fun i => if q ≤ (L.getD i sn0).q ∨ i + 1 = L.length then [L.getD i sn0] else []
theorem dropF_succ (L : List Sn) (q : Int) (k : Nat) : dropF L q (k + 1) = dropF L q k ++ (if q ≤ (L.getD k sn0).q ∨ k + 1 = L.length then [L.getD k sn0] else []) := by
  unfold dropF; rw [List.range_succ, List.flatMap_append]; simp
theorem dropF_len (L : List Sn) (q : Int) : ∀ k, (dropF L q k).length ≤ k
  | 0 => by simp [dropF]
  | k + 1 => by
    rw [dropF_succ, List.length_append]
    have := dropF_len L q k
    split <;> simp <;> omega
set_option maxRecDepth 100000 in
set_option maxHeartbeats 1000000 in
theorem refDrop14_any (v : Value) (L : List Sn) (q : Int) (w : World) (h : RdK 36 snC w v L) (h10 : L.length ≤ 100) :
    Calls Tryd.prog 51 #[v, .int .i64 q] w (OwnSn w (dropF L q L.length)) := by
  obtain ⟨i0, hi, hz0, hz1, hz2⟩ := snap_info
  obtain ⟨ao, cap, rfl, hc, hm, hr⟩ := RdK.open h
  have HRD := Lib.hid (show RdK 36 snC w (.slice ao L.length cap) L from hr)
  have HBs := Lib.hid hbs_one
  obtain ⟨Z, hZ⟩ : ∃ Z, Z = OwnSn w (dropF L q L.length) := ⟨_, rfl⟩
  rw [← hZ]
  have HZ := Lib.hid hZ
  clear h hr hZ
  go_enter Tryd.func51, Tryd.ntmps51
  go_wp2_with fail
  go_loopw [5, 6] (fun o i wr => ∃ (k : Nat) (acc : List Sn), k ≤ L.length ∧ i = .int .i64 (k : Int) ∧ Hid (acc = dropF L q k) ∧ acc.length ≤ k ∧ wr.ownsRow w.heap.size 77 36 o acc.length (acc.flatMap snC) ∧ Below w.heap.size w wr) (fun _ i _ => 200 - (intOf i).toNat)
  case atStart => exact ⟨0, [], Nat.zero_le _, rfl, Lib.hid rfl, Nat.le_refl _, World.ownsRow_nil _ _ _ _, Below.refl _ _⟩
  case round =>
    obtain ⟨k, acc, hk, rfl, HA, hac, own, bel⟩ := hrel
    by_cases hlt : k < L.length
    · obtain ⟨b, off, rfl, hb, hcx0⟩ := RdK.cell snC_len (HRD.out.below bel (Nat.le_refl _)) k hlt
      obtain ⟨x, hx⟩ : ∃ x, x = L[k]'hlt := ⟨_, rfl⟩
      rw [← hx] at hcx0
      have hcx := (show ∀ i, i < 36 → wr.cell? ⟨b, off + k * 36 + i, none⟩ = (snC x)[i]? from fun i hi => by rw [Nat.add_assoc]; exact hcx0 i hi)
      have cq := sn_q hcx
      have RG := sn_range hcx
      have f1 : IntKind.i64.wrap ((L.length : Int) - 1) = (L.length : Int) - 1 := by rw [IntKind.wrap_i64]; omega
      have HX := Lib.hid (show L.getD k sn0 = x by rw [getD_at hlt, hx])
      clear hcx0 hcx hx
      by_cases hq : q ≤ x.q
      · have t1 : decide (q ≤ x.q) = true := decide_eq_true hq
        have HN := Lib.hid (show acc ++ [x] = dropF L q (k + 1) by rw [dropF_succ, ← HA.out, HX.out, if_pos (.inl hq)])
        clear hq
        go_wp2_with (first | ((with_reducible refine wpList_load_part (o := ⟨some 31, _, _, _, _, _⟩) rfl 77 (.tmp 30) rfl _ (off + k * 36) rfl (snV x) _ RG Tryd.underlying77 rfl (infoSN x) ?_)) | ((with_reducible refine wpList_build1 (o := ⟨some 32, _, _, _, _, _⟩) rfl 70 (.tmp 31) rfl (snV x) rfl _ _ (HBs.out x wr) ?_)) | (at_builtin; refine wpList_app1k snC_len (by decide) w rfl (.tmp 27) (.tmp 32) 70 rfl w.heap.size 77 i0 (.agg zSN) 544 Tryd.underlying70 hi hz0 hz1 hz2 rfl _ acc rfl own 77 x (snC x) rfl rfl snC_one (by unfold maxLen; omega) (by omega) (Nat.le_refl _) bel ?_; intro vq w1 own2 hb2 hq2; clear hq2))
        exact ⟨⟨k + 1, acc ++ [x], by omega, by push_cast; rfl, HN, by simp; omega, own2, hb2⟩, by simp [intOf]; omega⟩
      · have t1 : decide (q ≤ x.q) = false := decide_eq_false hq
        by_cases hl : k + 1 = L.length
        · have t2 : ((k : Int) == (L.length : Int) - 1) = true := by simp; omega
          have t3 : decide ((k : Int) = (L.length : Int) - 1) = true := by simp; omega
          have HN := Lib.hid (show acc ++ [x] = dropF L q (k + 1) by rw [dropF_succ, ← HA.out, HX.out, if_pos (.inr hl)])
          clear hq hl
          go_wp2_with (first | ((with_reducible refine wpList_load_part (o := ⟨some 31, _, _, _, _, _⟩) rfl 77 (.tmp 30) rfl _ (off + k * 36) rfl (snV x) _ RG Tryd.underlying77 rfl (infoSN x) ?_)) | ((with_reducible refine wpList_build1 (o := ⟨some 32, _, _, _, _, _⟩) rfl 70 (.tmp 31) rfl (snV x) rfl _ _ (HBs.out x wr) ?_)) | (at_builtin; refine wpList_app1k snC_len (by decide) w rfl (.tmp 27) (.tmp 32) 70 rfl w.heap.size 77 i0 (.agg zSN) 544 Tryd.underlying70 hi hz0 hz1 hz2 rfl _ acc rfl own 77 x (snC x) rfl rfl snC_one (by unfold maxLen; omega) (by omega) (Nat.le_refl _) bel ?_; intro vq w1 own2 hb2 hq2; clear hq2))
          exact ⟨⟨k + 1, acc ++ [x], by omega, by push_cast; rfl, HN, by simp; omega, own2, hb2⟩, by simp [intOf]; omega⟩
        · have t2 : ((k : Int) == (L.length : Int) - 1) = false := by simp; omega
          have t3 : decide ((k : Int) = (L.length : Int) - 1) = false := by simp; omega
          have HN := Lib.hid (show acc = dropF L q (k + 1) by rw [dropF_succ, ← HA.out, HX.out, if_neg (by rintro (h | h); exact hq h; exact hl h), List.append_nil])
          clear hq hl
          go_wp2_with fail
          exact ⟨⟨k + 1, acc, by omega, by push_cast; rfl, HN, by omega, own, bel⟩, by simp [intOf]; omega⟩
    · obtain rfl : k = L.length := by omega
      go_wp2_with fail
      show Z (.returned _) _
      rw [HZ.out, ← HA.out]
      exact ⟨_, rfl, own, bel⟩
/-- Two lists tell the same snaps. -/
def EqSn (A B : List Sn) : Prop := A.length = B.length ∧ ∀ i (h : i < A.length) (h2 : i < B.length), A[i].q = B[i].q ∧ A[i].s = B[i].s
set_option maxRecDepth 100000 in
set_option maxHeartbeats 1000000 in
theorem same14_yes (v u : Value) (A B : List Sn) (w : World) (h : RdK 36 snC w v A) (h2 : RdK 36 snC w u B) (ha : RdSn w A) (hb : RdSn w B) (hl : LenSn A) (he : EqSn A B) (h100 : A.length ≤ 100) :
    Calls Tryd.prog 44 #[v, u] w fun e w' => e = .returned (.bool true) ∧ Below w.heap.size w w' := by
  obtain ⟨ao, cap, rfl, hc, hm, hr⟩ := RdK.open h
  obtain ⟨bo, cap2, rfl, hc2, hm2, hr2⟩ := RdK.open h2
  have HRA := Lib.hid (show RdK 36 snC w (.slice ao A.length cap) A from hr)
  have HRB := Lib.hid (show RdK 36 snC w (.slice bo B.length cap2) B from hr2)
  have HAS := Lib.hid ha
  have HBS := Lib.hid hb
  have HLA := Lib.hid hl
  have HEQ := Lib.hid he
  have e1 := he.1
  have n1 : ((A.length : Int) != (B.length : Int)) = false := by simp [e1]
  have HE1 := Lib.hid e1
  clear h h2 hr hr2 ha hb hl he e1
  go_enter Tryd.func44, Tryd.ntmps44
  go_wp2_with fail
  go_loopw [5] (fun i wr => ∃ k : Nat, k ≤ A.length ∧ i = .int .i64 (k : Int) ∧ Below w.heap.size w wr) (fun i _ => 200 - (intOf i).toNat)
  case atStart => exact ⟨0, Nat.zero_le _, rfl, Below.refl _ _⟩
  case round =>
    obtain ⟨k, hk, rfl, bel⟩ := hrel
    by_cases hlt : k < A.length
    · have hlt2 : k < B.length := by have := HE1.out; omega
      obtain ⟨b, off, rfl, hb, hca0⟩ := RdK.cell snC_len (HRA.out.below bel (Nat.le_refl _)) k hlt
      obtain ⟨b2, off2, rfl, hb2, hcb0⟩ := RdK.cell snC_len (HRB.out.below bel (Nat.le_refl _)) k hlt2
      obtain ⟨x, hx⟩ : ∃ x, x = A[k]'hlt := ⟨_, rfl⟩
      obtain ⟨y, hy⟩ : ∃ y, y = B[k]'hlt2 := ⟨_, rfl⟩
      rw [← hx] at hca0
      rw [← hy] at hcb0
      have hca : ∀ i, i < 36 → wr.cell? ⟨b, off + k * 36 + i, none⟩ = (snC x)[i]? := fun i hi => by rw [Nat.add_assoc]; exact hca0 i hi
      have hcb : ∀ i, i < 36 → wr.cell? ⟨b2, off2 + k * 36 + i, none⟩ = (snC y)[i]? := fun i hi => by rw [Nat.add_assoc]; exact hcb0 i hi
      obtain ⟨eq1, eq2⟩ := HEQ.out.2 k hlt hlt2
      rw [← hx, ← hy] at eq1 eq2
      have qa := sn_q hca
      have qb := sn_q hcb
      rw [← eq1] at qb
      have n2 : (x.q != x.q) = false := by simp
      have hxm : x ∈ A := by rw [hx]; exact List.getElem_mem _
      have hym : y ∈ B := by rw [hy]; exact List.getElem_mem _
      have SM := Lib.hid (fun W (g : Below wr.heap.size wr W) => same13_yes (snA x) (snA y) x.s W ((HAS.out x hxm).below (chain bel g) (Nat.le_refl _)) (by have h := (HBS.out y hym).below (chain bel g) (Nat.le_refl _); rwa [← eq2] at h) (HLA.out x hxm))
      clear hca0 hcb0 hx hy eq1 eq2
      go_wp2_with fail
      refine g_start (by kernel_rfl) ?_
      refine g_take (i := 0) (d := (some 17)) (v := ?_) rfl rfl (by kernel_rfl) (fun _ _ _ h => h) (by rfl) (fun w' hb' => ?_) ?_
      rotate_left
      · (try go_simp); (try with_reducible rfl)
      try simp only [Act.put, List.setIfInBounds_toArray, List.set_cons_zero, List.set_cons_succ]
      refine g_take (i := 1) (d := (some 18)) (v := ?_) rfl rfl (by kernel_rfl) (fun _ _ _ h => h) (by rfl) (fun w' hb' => ?_) ?_
      rotate_left
      · (try go_simp); (try with_reducible rfl)
      try simp only [Act.put, List.setIfInBounds_toArray, List.set_cons_zero, List.set_cons_succ]
      refine g_take (i := 2) (d := (some 19)) (v := ?_) rfl rfl (by kernel_rfl) (fun _ _ _ h => h) (by rfl) (fun w' hb' => ?_) ?_
      rotate_left
      · (try go_simp); (try with_reducible rfl)
      try simp only [Act.put, List.setIfInBounds_toArray, List.set_cons_zero, List.set_cons_succ]
      refine g_take (i := 3) (d := (some 20)) (v := ?_) rfl rfl (by kernel_rfl) (fun _ _ _ h => h) (by rfl) (fun w' hb' => ?_) ?_
      rotate_left
      · (try go_simp); (try with_reducible rfl)
      try simp only [Act.put, List.setIfInBounds_toArray, List.set_cons_zero, List.set_cons_succ]
      refine g_take (i := 4) (d := (some 21)) (v := ?_) rfl rfl (by kernel_rfl) (fun _ _ _ h => h) (by rfl) (fun w' hb' => ?_) ?_
      rotate_left
      · have zz := (hb'.cell (p := ⟨b, off + k * 36, none⟩) hb).trans qa; (try go_simp); (try with_reducible rfl)
      try simp only [Act.put, List.setIfInBounds_toArray, List.set_cons_zero, List.set_cons_succ]
      refine g_take (i := 5) (d := (some 22)) (v := ?_) rfl rfl (by kernel_rfl) (fun _ _ _ h => h) (by rfl) (fun w' hb' => ?_) ?_
      rotate_left
      · (try go_simp); (try with_reducible rfl)
      try simp only [Act.put, List.setIfInBounds_toArray, List.set_cons_zero, List.set_cons_succ]
      refine g_take (i := 6) (d := (some 23)) (v := ?_) rfl rfl (by kernel_rfl) (fun _ _ _ h => h) (by rfl) (fun w' hb' => ?_) ?_
      rotate_left
      · (try go_simp); (try with_reducible rfl)
      try simp only [Act.put, List.setIfInBounds_toArray, List.set_cons_zero, List.set_cons_succ]
      refine g_take (i := 7) (d := (some 24)) (v := ?_) rfl rfl (by kernel_rfl) (fun _ _ _ h => h) (by rfl) (fun w' hb' => ?_) ?_
      rotate_left
      · (try go_simp); (try with_reducible rfl)
      try simp only [Act.put, List.setIfInBounds_toArray, List.set_cons_zero, List.set_cons_succ]
      refine g_take (i := 8) (d := (some 25)) (v := ?_) rfl rfl (by kernel_rfl) (fun _ _ _ h => h) (by rfl) (fun w' hb' => ?_) ?_
      rotate_left
      · (try go_simp); (try with_reducible rfl)
      try simp only [Act.put, List.setIfInBounds_toArray, List.set_cons_zero, List.set_cons_succ]
      refine g_take (i := 9) (d := (some 26)) (v := ?_) rfl rfl (by kernel_rfl) (fun _ _ _ h => h) (by rfl) (fun w' hb' => ?_) ?_
      rotate_left
      · have zz := (hb'.cell (p := ⟨b2, off2 + k * 36, none⟩) hb2).trans qb; (try go_simp); (try with_reducible rfl)
      try simp only [Act.put, List.setIfInBounds_toArray, List.set_cons_zero, List.set_cons_succ]
      refine g_take (i := 10) (d := (some 27)) (v := ?_) rfl rfl (by kernel_rfl) (fun _ _ _ h => h) (by rfl) (fun w' hb' => ?_) ?_
      rotate_left
      · (try go_simp); (try with_reducible rfl)
      try simp only [Act.put, List.setIfInBounds_toArray, List.set_cons_zero, List.set_cons_succ]
      refine g_take (i := 11) (d := (some 28)) (v := ?_) rfl rfl (by kernel_rfl) (fun _ _ _ h => h) (by rfl) (fun w' hb' => ?_) ?_
      rotate_left
      · (try go_simp); (try with_reducible rfl)
      try simp only [Act.put, List.setIfInBounds_toArray, List.set_cons_zero, List.set_cons_succ]
      refine g_take (i := 12) (d := (some 29)) (v := ?_) rfl rfl (by kernel_rfl) (fun _ _ _ h => h) (by rfl) (fun w' hb' => ?_) ?_
      rotate_left
      · (try go_simp); (try with_reducible rfl)
      try simp only [Act.put, List.setIfInBounds_toArray, List.set_cons_zero, List.set_cons_succ]
      refine g_take (i := 13) (d := (some 30)) (v := ?_) rfl rfl (by kernel_rfl) (fun _ _ _ h => h) (by rfl) (fun w' hb' => ?_) ?_
      rotate_left
      · (try go_simp); (try with_reducible rfl)
      try simp only [Act.put, List.setIfInBounds_toArray, List.set_cons_zero, List.set_cons_succ]
      refine g_take (i := 14) (d := (some 31)) (v := ?_) rfl rfl (by kernel_rfl) (fun _ _ _ h => h) (by rfl) (fun w' hb' => ?_) ?_
      rotate_left
      · (try go_simp); (try with_reducible rfl)
      try simp only [Act.put, List.setIfInBounds_toArray, List.set_cons_zero, List.set_cons_succ]
      refine g_take (i := 15) (d := (some 32)) (v := ?_) rfl rfl (by kernel_rfl) (fun _ _ _ h => h) (by rfl) (fun w' hb' => ?_) ?_
      rotate_left
      · (try go_simp); (try with_reducible rfl)
      try simp only [Act.put, List.setIfInBounds_toArray, List.set_cons_zero, List.set_cons_succ]
      refine g_take (i := 16) (d := (some 33)) (v := ?_) rfl rfl (by kernel_rfl) (fun _ _ _ h => h) (by rfl) (fun w' hb' => ?_) ?_
      rotate_left
      · (refine load_partO_op _ _ (.tmp 32) ?_ ?_ (sn_store (fun i hi => (hb'.cell (p := ⟨b, off + k * 36 + i, none⟩) hb).trans (hca i hi))) Tryd.underlying28 ?_ (infoSA x) <;> rfl); (try go_simp); (try with_reducible rfl)
      try simp only [Act.put, List.setIfInBounds_toArray, List.set_cons_zero, List.set_cons_succ]
      refine g_take (i := 17) (d := (some 34)) (v := ?_) rfl rfl (by kernel_rfl) (fun _ _ _ h => h) (by rfl) (fun w' hb' => ?_) ?_
      rotate_left
      · (try go_simp); (try with_reducible rfl)
      try simp only [Act.put, List.setIfInBounds_toArray, List.set_cons_zero, List.set_cons_succ]
      refine g_take (i := 18) (d := (some 35)) (v := ?_) rfl rfl (by kernel_rfl) (fun _ _ _ h => h) (by rfl) (fun w' hb' => ?_) ?_
      rotate_left
      · (try go_simp); (try with_reducible rfl)
      try simp only [Act.put, List.setIfInBounds_toArray, List.set_cons_zero, List.set_cons_succ]
      refine g_take (i := 19) (d := (some 36)) (v := ?_) rfl rfl (by kernel_rfl) (fun _ _ _ h => h) (by rfl) (fun w' hb' => ?_) ?_
      rotate_left
      · (try go_simp); (try with_reducible rfl)
      try simp only [Act.put, List.setIfInBounds_toArray, List.set_cons_zero, List.set_cons_succ]
      refine g_take (i := 20) (d := (some 37)) (v := ?_) rfl rfl (by kernel_rfl) (fun _ _ _ h => h) (by rfl) (fun w' hb' => ?_) ?_
      rotate_left
      · (try go_simp); (try with_reducible rfl)
      try simp only [Act.put, List.setIfInBounds_toArray, List.set_cons_zero, List.set_cons_succ]
      refine g_take (i := 21) (d := (some 38)) (v := ?_) rfl rfl (by kernel_rfl) (fun _ _ _ h => h) (by rfl) (fun w' hb' => ?_) ?_
      rotate_left
      · (refine load_partO_op _ _ (.tmp 37) ?_ ?_ (sn_store (fun i hi => (hb'.cell (p := ⟨b2, off2 + k * 36 + i, none⟩) hb2).trans (hcb i hi))) Tryd.underlying28 ?_ (infoSA y) <;> rfl); (try go_simp); (try with_reducible rfl)
      try simp only [Act.put, List.setIfInBounds_toArray, List.set_cons_zero, List.set_cons_succ]
      refine g_run (i := 22) rfl (by kernel_rfl) (by rfl) (fun K hK => ?_)
      go_simp; refine (SM.out _ (Below.drew (Below.refl _ _))).mono ?_; rintro e w9 ⟨rfl, gg⟩; have bel := chain bel (Below.trans (Below.drew (Below.refl _ _)) gg); refine hK _ _ ⟨gg, ?_⟩; clear hK K gg
      try simp only [Act.put, List.setIfInBounds_toArray, List.set_cons_zero, List.set_cons_succ]
      refine g_take (i := 23) (d := (some 40)) (v := ?_) rfl rfl (by kernel_rfl) (fun _ _ _ h => h) (by rfl) (fun w' hb' => ?_) ?_
      rotate_left
      · (try go_simp); (try with_reducible rfl)
      try simp only [Act.put, List.setIfInBounds_toArray, List.set_cons_zero, List.set_cons_succ]
      refine g_take (i := 24) (d := (some 41)) (v := ?_) rfl rfl (by kernel_rfl) (fun _ _ _ h => h) (by rfl) (fun w' hb' => ?_) ?_
      rotate_left
      · (try go_simp); (try with_reducible rfl)
      try simp only [Act.put, List.setIfInBounds_toArray, List.set_cons_zero, List.set_cons_succ]
      refine g_done (by kernel_rfl) ?_
      go_wp2_with fail
      exact ⟨⟨k + 1, by omega, by push_cast; rfl, bel⟩, by simp [intOf]; omega⟩
    · obtain rfl : k = A.length := by omega
      go_wp2_with fail
      go_ret
      exact ⟨rfl, bel⟩
end Go.Proofs.YtbdfcgffkonbiaaDoor
