/- Trunks: which leaf may be a bucket's. Written by wip/tools/gen10a.py. -/
import Derived.Test.YtoagdmglchccnaaGreatDoorQRR30
import Derived.Test.YtoagdmglchccnaaGreatDoorQRR22
namespace Go.Proofs.YtoagdmglchccnaaGreatDoor
open Go Go.RowKit
set_option linter.unusedVariables false
set_option linter.unusedSimpArgs false
set_option maxRecDepth 100000 in
theorem bucket_any (l : List UInt8) (hl : l.length ≤ maxLen) : Ret 118 #[.string (str l)] (.int .i64 (if isB l = true then (((l.getD 0 0).toNat % 16 : Nat) : Int) else -1)) := by
  have H1 := (is_any l hl).ret
  intro w tab
  have bel := Below.refl w.heap.size w
  have hz := str_size l
  cases hb : isB l with
  | true =>
    rw [hb] at H1
    have h0 : 0 < l.length := by
      unfold isB at hb; simp only [Bool.and_eq_true, decide_eq_true_eq] at hb; exact hb.1
    have hcc : ∀ h : 0 < (str l).size, ((str l)[0]'h).toNat = (l.getD 0 0).toNat := fun h => by rw [k8str_byte]
    have h256 := (l.getD 0 0).toNat_lt
    generalize (l.getD 0 0).toNat = m at *
    unfold maxLen at hl
    rw [if_pos rfl]
    clear hb
    go_enter Tryz.func118, Tryz.ntmps118
    go_wp2_with ((with_reducible refine (H1.at _ tab).mono ?_); rintro e w' ⟨rfl, g⟩; have tab := tab.below g; have bel := chain bel g; clear g)
    go_ret
    exact ⟨by push_cast; rfl, bel⟩
  | false =>
    rw [hb] at H1
    rw [if_neg (by simp)]
    clear hb hl
    go_enter Tryz.func118, Tryz.ntmps118
    go_wp2_with ((with_reducible refine (H1.at _ tab).mono ?_); rintro e w' ⟨rfl, g⟩; have tab := tab.below g; have bel := chain bel g; clear g)
    go_ret
    exact ⟨rfl, bel⟩
def bk (k : List UInt8) : Int := if isB k = true then (((k.getD 0 0).toNat % 16 : Nat) : Int) else -1
def badI (b ver : Int) (x : It) : Bool := bk x.key != b || decide (ver < x.ver)
def verB (n : Int) : Bool := decide (0 ≤ n) && decide (n ≤ 2147483647)
/-- May a leaf be a bucket's, of a version? -/
def mayT (b : Int) (l : List It) (ver : Int) : Bool := isL l && verB ver && !l.any (badI b ver)
theorem isVer_any (n : Int) (w : World) : Calls Tryz.prog 115 #[.int .i64 n] w fun e w' => e = .returned (.bool (verB n)) ∧ w = w' := by
  obtain ⟨R, hR⟩ : ∃ R, R = verB n := ⟨_, rfl⟩
  rw [← hR]
  have HR := Lib.hid hR
  clear hR
  by_cases h1 : 0 ≤ n
  · have t1 : decide (0 ≤ n) = true := by simpa using h1
    by_cases h2 : n ≤ 2147483647
    · have t2 : decide (n ≤ 2147483647) = true := by simpa using h2
      have E := Lib.hid (show R = true by rw [HR.out]; unfold verB; rw [t1, t2]; rfl)
      go_enter Tryz.func115, Tryz.ntmps115
      go_wp2_with fail
      go_ret
      exact ⟨by rw [E.out]; rfl, rfl⟩
    · have t2 : decide (n ≤ 2147483647) = false := by simpa using h2
      have E := Lib.hid (show R = false by rw [HR.out]; unfold verB; rw [t1, t2]; rfl)
      go_enter Tryz.func115, Tryz.ntmps115
      go_wp2_with fail
      go_ret
      exact ⟨by rw [E.out]; rfl, rfl⟩
  · have t1 : decide (0 ≤ n) = false := by simpa using h1
    have E := Lib.hid (show R = false by rw [HR.out]; unfold verB; rw [t1]; rfl)
    go_enter Tryz.func115, Tryz.ntmps115
    go_wp2_with fail
    go_ret
    exact ⟨by rw [E.out]; rfl, rfl⟩
set_option maxRecDepth 100000 in
set_option maxHeartbeats 1000000 in
theorem may1_any (x : It) (b3 b5 : Nat) (b ver : Int) (w : World) (tab : TabAt w) (h3 : w.cell? ⟨b3, 0, none⟩ = some (.int .i64 b)) (h5 : w.cell? ⟨b5, 0, none⟩ = some (.int .i64 ver)) (hk : x.key.length ≤ maxLen) :
    Calls Tryz.prog 117 #[itV x, .pointer (some ⟨b3, 0, none⟩), .pointer (some ⟨b5, 0, none⟩)] w fun e w' => e = .returned (.bool (badI b ver x)) ∧ Below w.heap.size w w' := by
  have BK := bucket_any x.key hk
  change Ret _ _ (.int .i64 (bk x.key)) at BK
  have l3 : b3 < w.heap.size := World.block_lt_of_cell? w ⟨b3, 0, none⟩ h3
  have l5 : b5 < w.heap.size := World.block_lt_of_cell? w ⟨b5, 0, none⟩ h5
  obtain ⟨w0, hw0⟩ : ∃ w0, w0 = w.alloc (.cells #[.string (str x.key), .int .i64 x.v.k, .int .i64 x.v.i, .string (str x.v.s), .int .i64 x.ver] 154) := ⟨_, rfl⟩
  have q0 : w0.heap[w.heap.size]? = some (.cells #[.string (str x.key), .int .i64 x.v.k, .int .i64 x.v.i, .string (str x.v.s), .int .i64 x.ver] 154 (0, 0)) := by rw [hw0]; exact heap_alloc_new _ _
  have b0 : Below w.heap.size w w0 := by rw [hw0]; exact (Below.refl _ _).alloc (Nat.le_refl _) _
  have h30 := (b0.cell (p := ⟨b3, 0, none⟩) l3).trans h3
  have h50 := (b0.cell (p := ⟨b5, 0, none⟩) l5).trans h5
  have l30 := Nat.lt_of_lt_of_le l3 b0.size
  have l50 := Nat.lt_of_lt_of_le l5 b0.size
  have tab0 := tab.below b0
  obtain ⟨R, hR⟩ : ∃ R, R = badI b ver x := ⟨_, rfl⟩
  rw [← hR]
  obtain ⟨K0, hK0⟩ : ∃ K, K = bk x.key := ⟨_, rfl⟩
  rw [← hK0] at BK
  have HR := Lib.hid (show R = (K0 != b || decide (ver < x.ver)) by rw [hR, hK0]; rfl)
  unfold itV
  clear hR hK0 h3 h5 l3 l5 tab
  cases hn : (K0 != b) with
  | true =>
    have E := Lib.hid (show R = true by rw [HR.out, hn]; rfl)
    go_enter Tryz.func117, Tryz.ntmps117
    go_wp2_with fail
    rw [← hw0]
    clear hw0
    refine g_start (by kernel_rfl) ?_
    refine g_take (i := 0) (d := (some 5)) (v := ?_) rfl rfl (by kernel_rfl) (fun _ _ _ h => h) (by rfl) (fun w' hb' => ?_) ?_
    rotate_left
    · (try go_simp); (try with_reducible rfl)
    try simp only [Act.put, List.setIfInBounds_toArray, List.set_cons_zero, List.set_cons_succ]
    refine g_take (i := 1) (d := (some 6)) (v := ?_) rfl rfl (by kernel_rfl) (fun _ _ _ h => h) (by rfl) (fun w' hb' => ?_) ?_
    rotate_left
    · obtain ⟨d0, d1, d2, d3, d4, dz⟩ := block_cells5 ((hb'.block _ (lt_of_block q0)).trans q0); (try go_simp); (try with_reducible rfl)
    try simp only [Act.put, List.setIfInBounds_toArray, List.set_cons_zero, List.set_cons_succ]
    refine g_take (i := 3) (d := (some 8)) (v := ?_) rfl rfl (by kernel_rfl) (fun _ _ _ h => h) (by rfl) (fun w' hb' => ?_) ?_
    rotate_left
    · have zz := (hb'.cell (p := ⟨b3, 0, none⟩) l30).trans h30; (try go_simp); (try with_reducible rfl)
    try simp only [Act.put, List.setIfInBounds_toArray, List.set_cons_zero, List.set_cons_succ]
    refine g_run (i := 2) rfl (by kernel_rfl) (by rfl) (fun K hK => ?_)
    go_simp; refine (BK.at _ (tab0.below (Below.drew (Below.refl _ _)))).mono ?_; rintro e w1 ⟨rfl, g⟩; have gg := Below.trans (Below.drew (Below.refl w0.heap.size w0)) g; have q1 := (gg.block _ (lt_of_block q0)).trans q0; have h31 := (gg.cell (p := ⟨b3, 0, none⟩) l30).trans h30; have h51 := (gg.cell (p := ⟨b5, 0, none⟩) l50).trans h50; have l31 := Nat.lt_of_lt_of_le l30 gg.size; have l51 := Nat.lt_of_lt_of_le l50 gg.size; have b1 := chain b0 gg; refine hK _ _ ⟨g, ?_⟩; clear hK K g gg
    try simp only [Act.put, List.setIfInBounds_toArray, List.set_cons_zero, List.set_cons_succ]
    refine g_take (i := 4) (d := (some 9)) (v := ?_) rfl rfl (by kernel_rfl) (fun _ _ _ h => h) (by rfl) (fun w' hb' => ?_) ?_
    rotate_left
    · (try go_simp); (try with_reducible rfl)
    try simp only [Act.put, List.setIfInBounds_toArray, List.set_cons_zero, List.set_cons_succ]
    refine g_take (i := 5) (d := (some 10)) (v := ?_) rfl rfl (by kernel_rfl) (fun _ _ _ h => h) (by rfl) (fun w' hb' => ?_) ?_
    rotate_left
    · (try go_simp); (try with_reducible rfl)
    try simp only [Act.put, List.setIfInBounds_toArray, List.set_cons_zero, List.set_cons_succ]
    refine g_skip (i := 6) (d := (some 11)) rfl rfl (by kernel_rfl) (fun _ _ _ h => h) (by rfl) ?_
    try simp only [Act.put, List.setIfInBounds_toArray, List.set_cons_zero, List.set_cons_succ]
    refine g_skip (i := 7) (d := (some 12)) rfl rfl (by kernel_rfl) (fun _ _ _ h => h) (by rfl) ?_
    try simp only [Act.put, List.setIfInBounds_toArray, List.set_cons_zero, List.set_cons_succ]
    refine g_skip (i := 8) (d := (some 13)) rfl rfl (by kernel_rfl) (fun _ _ _ h => h) (by rfl) ?_
    try simp only [Act.put, List.setIfInBounds_toArray, List.set_cons_zero, List.set_cons_succ]
    refine g_skip (i := 9) (d := (some 14)) rfl rfl (by kernel_rfl) (fun _ _ _ h => h) (by rfl) ?_
    try simp only [Act.put, List.setIfInBounds_toArray, List.set_cons_zero, List.set_cons_succ]
    refine g_take (i := 10) (d := (some 15)) (v := ?_) rfl rfl (by kernel_rfl) (fun _ _ _ h => h) (by rfl) (fun w' hb' => ?_) ?_
    rotate_left
    · (try go_simp); (try with_reducible rfl)
    try simp only [Act.put, List.setIfInBounds_toArray, List.set_cons_zero, List.set_cons_succ]
    refine g_take (i := 11) (d := (some 4)) (v := ?_) rfl rfl (by kernel_rfl) (fun _ _ _ h => h) (by rfl) (fun w' hb' => ?_) ?_
    rotate_left
    · (try go_simp); (try with_reducible rfl)
    try simp only [Act.put, List.setIfInBounds_toArray, List.set_cons_zero, List.set_cons_succ]
    refine g_done (by kernel_rfl) ?_
    go_wp2_with fail
    go_ret
    exact ⟨by rw [E.out]; rfl, b1⟩
  | false =>
    have E := Lib.hid (show R = decide (ver < x.ver) by rw [HR.out, hn]; rfl)
    go_enter Tryz.func117, Tryz.ntmps117
    go_wp2_with fail
    rw [← hw0]
    clear hw0
    refine g_start (by kernel_rfl) ?_
    refine g_take (i := 0) (d := (some 5)) (v := ?_) rfl rfl (by kernel_rfl) (fun _ _ _ h => h) (by rfl) (fun w' hb' => ?_) ?_
    rotate_left
    · (try go_simp); (try with_reducible rfl)
    try simp only [Act.put, List.setIfInBounds_toArray, List.set_cons_zero, List.set_cons_succ]
    refine g_take (i := 1) (d := (some 6)) (v := ?_) rfl rfl (by kernel_rfl) (fun _ _ _ h => h) (by rfl) (fun w' hb' => ?_) ?_
    rotate_left
    · obtain ⟨d0, d1, d2, d3, d4, dz⟩ := block_cells5 ((hb'.block _ (lt_of_block q0)).trans q0); (try go_simp); (try with_reducible rfl)
    try simp only [Act.put, List.setIfInBounds_toArray, List.set_cons_zero, List.set_cons_succ]
    refine g_take (i := 3) (d := (some 8)) (v := ?_) rfl rfl (by kernel_rfl) (fun _ _ _ h => h) (by rfl) (fun w' hb' => ?_) ?_
    rotate_left
    · have zz := (hb'.cell (p := ⟨b3, 0, none⟩) l30).trans h30; (try go_simp); (try with_reducible rfl)
    try simp only [Act.put, List.setIfInBounds_toArray, List.set_cons_zero, List.set_cons_succ]
    refine g_run (i := 2) rfl (by kernel_rfl) (by rfl) (fun K hK => ?_)
    go_simp; refine (BK.at _ (tab0.below (Below.drew (Below.refl _ _)))).mono ?_; rintro e w1 ⟨rfl, g⟩; have gg := Below.trans (Below.drew (Below.refl w0.heap.size w0)) g; have q1 := (gg.block _ (lt_of_block q0)).trans q0; have h31 := (gg.cell (p := ⟨b3, 0, none⟩) l30).trans h30; have h51 := (gg.cell (p := ⟨b5, 0, none⟩) l50).trans h50; have l31 := Nat.lt_of_lt_of_le l30 gg.size; have l51 := Nat.lt_of_lt_of_le l50 gg.size; have b1 := chain b0 gg; refine hK _ _ ⟨g, ?_⟩; clear hK K g gg
    try simp only [Act.put, List.setIfInBounds_toArray, List.set_cons_zero, List.set_cons_succ]
    refine g_take (i := 4) (d := (some 9)) (v := ?_) rfl rfl (by kernel_rfl) (fun _ _ _ h => h) (by rfl) (fun w' hb' => ?_) ?_
    rotate_left
    · (try go_simp); (try with_reducible rfl)
    try simp only [Act.put, List.setIfInBounds_toArray, List.set_cons_zero, List.set_cons_succ]
    refine g_take (i := 5) (d := (some 10)) (v := ?_) rfl rfl (by kernel_rfl) (fun _ _ _ h => h) (by rfl) (fun w' hb' => ?_) ?_
    rotate_left
    · (try go_simp); (try with_reducible rfl)
    try simp only [Act.put, List.setIfInBounds_toArray, List.set_cons_zero, List.set_cons_succ]
    refine g_take (i := 6) (d := (some 11)) (v := ?_) rfl rfl (by kernel_rfl) (fun _ _ _ h => h) (by rfl) (fun w' hb' => ?_) ?_
    rotate_left
    · (try go_simp); (try with_reducible rfl)
    try simp only [Act.put, List.setIfInBounds_toArray, List.set_cons_zero, List.set_cons_succ]
    refine g_take (i := 7) (d := (some 12)) (v := ?_) rfl rfl (by kernel_rfl) (fun _ _ _ h => h) (by rfl) (fun w' hb' => ?_) ?_
    rotate_left
    · obtain ⟨d0, d1, d2, d3, d4, dz⟩ := block_cells5 ((hb'.block _ (lt_of_block q1)).trans q1); (try go_simp); (try with_reducible rfl)
    try simp only [Act.put, List.setIfInBounds_toArray, List.set_cons_zero, List.set_cons_succ]
    refine g_take (i := 8) (d := (some 13)) (v := ?_) rfl rfl (by kernel_rfl) (fun _ _ _ h => h) (by rfl) (fun w' hb' => ?_) ?_
    rotate_left
    · have zz := (hb'.cell (p := ⟨b5, 0, none⟩) l51).trans h51; (try go_simp); (try with_reducible rfl)
    try simp only [Act.put, List.setIfInBounds_toArray, List.set_cons_zero, List.set_cons_succ]
    refine g_take (i := 9) (d := (some 14)) (v := ?_) rfl rfl (by kernel_rfl) (fun _ _ _ h => h) (by rfl) (fun w' hb' => ?_) ?_
    rotate_left
    · (try go_simp); (try with_reducible rfl)
    try simp only [Act.put, List.setIfInBounds_toArray, List.set_cons_zero, List.set_cons_succ]
    refine g_take (i := 10) (d := (some 15)) (v := ?_) rfl rfl (by kernel_rfl) (fun _ _ _ h => h) (by rfl) (fun w' hb' => ?_) ?_
    rotate_left
    · (try go_simp); (try with_reducible rfl)
    try simp only [Act.put, List.setIfInBounds_toArray, List.set_cons_zero, List.set_cons_succ]
    refine g_take (i := 11) (d := (some 4)) (v := ?_) rfl rfl (by kernel_rfl) (fun _ _ _ h => h) (by rfl) (fun w' hb' => ?_) ?_
    rotate_left
    · (try go_simp); (try with_reducible rfl)
    try simp only [Act.put, List.setIfInBounds_toArray, List.set_cons_zero, List.set_cons_succ]
    refine g_done (by kernel_rfl) ?_
    go_wp2_with fail
    go_ret
    exact ⟨by rw [E.out]; rfl, b1⟩
set_option maxRecDepth 100000 in
set_option maxHeartbeats 1000000 in
theorem contains_any (v : Value) (l : List It) (b3 b5 : Nat) (b ver : Int) (w : World) (tab : TabAt w) (h : RdI w v l) (hsz : SzI l) (h100 : l.length ≤ 100) (h3 : w.cell? ⟨b3, 0, none⟩ = some (.int .i64 b)) (h5 : w.cell? ⟨b5, 0, none⟩ = some (.int .i64 ver)) :
    Calls Tryz.prog 116 #[v, .func (.func 117) #[] #[.pointer (some ⟨b3, 0, none⟩), .pointer (some ⟨b5, 0, none⟩)]] w fun e w' => e = .returned (.bool (l.any (badI b ver))) ∧ Below w.heap.size w w' := by
  obtain ⟨ao, cap, rfl, hc, hm, hr⟩ := RdK.open h
  have HRD := Lib.hid (show RdI w (.slice ao l.length cap) l from hr)
  have HS := Lib.hid hsz
  have l3 : b3 < w.heap.size := World.block_lt_of_cell? w ⟨b3, 0, none⟩ h3
  have l5 : b5 < w.heap.size := World.block_lt_of_cell? w ⟨b5, 0, none⟩ h5
  have H3 := Lib.hid h3
  have H5 := Lib.hid h5
  have IX : Calls Tryz.prog 139 #[.slice ao l.length cap, .func (.func 117) #[] #[.pointer (some ⟨b3, 0, none⟩), .pointer (some ⟨b5, 0, none⟩)]] w fun e w' => ∃ r : Int, e = .returned (.int .i64 r) ∧ decide (0 ≤ r) = l.any (badI b ver) ∧ Below w.heap.size w w' := by
    clear hr h hsz h3 h5
    go_enter Tryz.func139, Tryz.ntmps139
    go_wp2_with fail
    go_loopw [8] (fun i wr => ∃ k : Nat, k ≤ l.length ∧ i = .int .i64 (k : Int) ∧ Hid ((l.take k).any (badI b ver) = false) ∧ Below w.heap.size w wr) (fun i _ => 200 - (intOf i).toNat)
    case atStart => exact ⟨0, Nat.zero_le _, rfl, Lib.hid (by simp), Below.refl _ _⟩
    case round =>
      obtain ⟨k, hk, rfl, HA, bel⟩ := hrel
      by_cases hlt : k < l.length
      · obtain ⟨bb, off, rfl, hb, c0, c1, c2, c3, c4⟩ := rdi_cells (HRD.out.below bel (Nat.le_refl _)) k hlt
        obtain ⟨x, hx⟩ : ∃ x, x = l[k] := ⟨_, rfl⟩
        rw [← hx] at c0 c1 c2 c3 c4
        have MA := may1_any x b3 b5 b ver wr (tab.below bel) ((bel.cell (p := ⟨b3, 0, none⟩) l3).trans H3.out) ((bel.cell (p := ⟨b5, 0, none⟩) l5).trans H5.out) (by rw [hx]; exact (HS.out _ (List.getElem_mem _)).1)
        unfold itV at MA
        have HT := Lib.hid (show (l.take (k + 1)).any (badI b ver) = badI b ver x by rw [List.take_succ_eq_append_getElem hlt, List.any_append, HA.out, ← hx]; simp)
        have HX := Lib.hid hx
        clear hx
        cases hm : badI b ver x with
        | true =>
          have HF := Lib.hid (show l.any (badI b ver) = true by rw [List.any_eq_true]; exact ⟨x, by rw [HX.out]; exact List.getElem_mem _, hm⟩)
          rw [hm] at MA
          clear hm
          go_wp2_with fail
          refine MA.mono ?_
          rintro e w2 ⟨rfl, g⟩
          have b2 := chain bel g
          clear MA g
          go_wp2_with fail
          go_ret
          exact ⟨(k : Int), rfl, by rw [HF.out]; simp, b2⟩
        | false =>
          have HF := Lib.hid (show (l.take (k + 1)).any (badI b ver) = false by rw [HT.out, hm])
          rw [hm] at MA
          clear hm
          go_wp2_with fail
          refine MA.mono ?_
          rintro e w2 ⟨rfl, g⟩
          have b2 := chain bel g
          clear MA g
          go_wp2_with fail
          exact ⟨⟨k + 1, by omega, by push_cast; rfl, HF, b2⟩, by simp [intOf]; omega⟩
      · obtain rfl : k = l.length := by omega
        have HF := Lib.hid (show l.any (badI b ver) = false by have h := HA.out; rwa [List.take_length] at h)
        go_wp2_with fail
        go_ret
        exact ⟨-1, rfl, by rw [HF.out]; rfl, bel⟩
  have IXH := Lib.hid IX
  clear IX hr h h3 h5
  obtain ⟨R, hR⟩ : ∃ R, R = l.any (badI b ver) := ⟨_, rfl⟩
  rw [← hR]
  have HR := Lib.hid hR
  clear hR
  go_enter Tryz.func116, Tryz.ntmps116
  go_wp2_with fail
  refine IXH.out.mono ?_
  rintro e w1 ⟨r, rfl, hr, g⟩
  rw [← HR.out] at hr
  go_wp2_with fail
  go_ret
  exact ⟨rfl, g⟩
set_option maxRecDepth 100000 in
set_option maxHeartbeats 1000000 in
theorem mayT_any (b : Int) (v : Value) (l : List It) (ver : Int) (w : World) (tab : TabAt w) (h : RdI w v l) (hsz : SzI l) :
    Calls Tryz.prog 90 #[.int .i64 b, v, .int .i64 ver] w fun e w' => e = .returned (.bool (mayT b l ver)) ∧ Below w.heap.size w w' := by
  obtain ⟨ao, cap, rfl, hc, hm, hr⟩ := RdK.open h
  have HRD := Lib.hid (show RdI w (.slice ao l.length cap) l from hr)
  have HS := Lib.hid hsz
  obtain ⟨w0, hw0⟩ : ∃ w0, w0 = (w.alloc (.cells #[.int .i64 b] 3)).alloc (.cells #[.int .i64 ver] 3) := ⟨_, rfl⟩
  obtain ⟨q3, q5, z0, _⟩ := two_allocs w (.cells #[.int .i64 b] 3) (.cells #[.int .i64 ver] 3)
  rw [← hw0] at q3 q5 z0
  have b0 : Below w.heap.size w w0 := by rw [hw0]; exact ((Below.refl _ _).alloc (Nat.le_refl _) _).alloc (by simp) _
  have CK := check_any (.slice ao l.length cap) l w0 (tab.below b0) (HRD.out.below b0 (Nat.le_refl _)) hsz
  obtain ⟨E, hE⟩ : ∃ E, E = (chkL l).1 := ⟨_, rfl⟩
  rw [← hE] at CK
  obtain ⟨R, hR⟩ : ∃ R, R = mayT b l ver := ⟨_, rfl⟩
  rw [← hR]
  have HIS := Lib.hid (show isL l = (E == 0) by unfold isL; rw [hE])
  have HR := Lib.hid (show R = ((E == 0) && verB ver && !l.any (badI b ver)) by rw [hR]; unfold mayT; rw [HIS.out])
  have T0 := Lib.hid (tab.below b0)
  have z5 : w0.heap.size = w.heap.size + 2 := z0
  clear hr h hsz hR hE tab z0
  by_cases hE0 : E = 0
  · subst hE0
    have h64 : l.length ≤ 64 := isL_len (by rw [HIS.out]; rfl)
    cases hv : verB ver with
    | true =>
      have hx3 := q3
      have HA := Lib.hid (show R = !l.any (badI b ver) by rw [HR.out, hv]; rfl)
      go_enter Tryz.func90, Tryz.ntmps90
      go_wp2_with fail
      rw [← hw0]
      refine CK.mono ?_
      rintro e w1 ⟨rfl, g1⟩
      have q31 := (g1.block _ (lt_of_block q3)).trans q3
      have q51 := (g1.block _ (lt_of_block q5)).trans q5
      have d3 := block_cell q31 0
      have d5 := block_cell q51 0
      simp only [List.getElem?_toArray, List.getElem?_cons_zero] at d3 d5
      have b1 := chain b0 g1
      have CT := contains_any (.slice ao l.length cap) l w.heap.size (w.heap.size + 1) b ver w1 (T0.out.below g1) (HRD.out.below b1 (Nat.le_refl _)) HS.out (by omega) d3 d5
      have VR := isVer_any ver
      rw [hv] at VR
      clear CK hw0 g1 q31 q51 z5 hx3
      have VRH := Lib.hid VR
      have CTH := Lib.hid CT
      clear VR CT hv
      go_wp2_with fail
      refine (VRH.out _).mono ?_
      rintro e w2 ⟨rfl, rfl⟩
      go_wp2_with fail
      refine CTH.out.mono ?_
      rintro e w2 ⟨rfl, g2⟩
      have b2 := chain b1 g2
      clear g2
      go_wp2_with fail
      go_ret
      exact ⟨by rw [HA.out]; rfl, b2⟩
    | false =>
      have HA := Lib.hid (show R = false by rw [HR.out, hv]; rfl)
      go_enter Tryz.func90, Tryz.ntmps90
      go_wp2_with fail
      rw [← hw0]
      refine CK.mono ?_
      rintro e w1 ⟨rfl, g1⟩
      have q51 := (g1.block _ (lt_of_block q5)).trans q5
      have d5 := block_cell q51 0
      simp only [List.getElem?_toArray, List.getElem?_cons_zero] at d5
      have b1 := chain b0 g1
      have VR := isVer_any ver
      rw [hv] at VR
      have VRH := Lib.hid VR
      clear CK hw0 g1 q51 z5 VR hv
      go_wp2_with fail
      refine (VRH.out _).mono ?_
      rintro e w2 ⟨rfl, rfl⟩
      go_wp2_with fail
      go_ret
      exact ⟨by rw [HA.out]; rfl, b1⟩
  · have HA := Lib.hid (show R = false by rw [HR.out, show (E == 0) = false from beq_eq_false_iff_ne.2 hE0]; rfl)
    have hen : ((E : Int) != 0) = true := by rw [bne_iff_ne]; omega
    clear hE0
    go_enter Tryz.func90, Tryz.ntmps90
    go_wp2_with fail
    rw [← hw0]
    refine CK.mono ?_
    rintro e w1 ⟨rfl, g1⟩
    have b1 := chain b0 g1
    clear CK hw0 g1 z5
    go_wp2_with fail
    go_ret
    exact ⟨by rw [HA.out]; rfl, b1⟩
end Go.Proofs.YtoagdmglchccnaaGreatDoor
