/- The law LeafChecks. Written by wip/tools/gen9l.py. -/
/- A region whose order is open, walked once under a condition on the world that is chosen for it: what only reads under it is taken first. -/
import Derived.Test.YtcehgfganjdghaaDoorQLCC37
import Derived.Test.YtcehgfganjdghaaDoorQLCC45
import Derived.Test.YtcehgfganjdghaaDoorQLCC23
import Derived.Test.YtcehgfganjdghaaDoorQLCC9
namespace Go.Proofs.YtcehgfganjdghaaDoor
open Go Go.RowKit
set_option linter.unusedVariables false
set_option linter.unusedSimpArgs false
theorem fewL_sz {l : List It} (h : SzI l) : SzI (fewL l) := by
  intro x hx
  unfold fewL at hx
  obtain ⟨y, hy, rfl⟩ := List.mem_map.1 hx
  have := h y (List.mem_of_mem_take hy)
  unfold oneI
  simp only [List.length_take]
  exact ⟨by omega, by omega⟩
theorem fewL_wf {l : List It} (h : WfI l) : WfI (fewL l) := by
  intro x hx
  unfold fewL at hx
  obtain ⟨y, hy, rfl⟩ := List.mem_map.1 hx
  exact h y (List.mem_of_mem_take hy)
theorem fewL_len (l : List It) : (fewL l).length ≤ 66 := by unfold fewL; simp; omega
theorem fewL_key {l : List It} : ∀ x ∈ fewL l, x.key.length ≤ 60 ∧ x.v.s.length ≤ 200 := by
  intro x hx
  unfold fewL at hx
  obtain ⟨y, hy, rfl⟩ := List.mem_map.1 hx
  unfold oneI
  simp only [List.length_take]
  exact ⟨by omega, by omega⟩
set_option maxRecDepth 100000 in
set_option maxHeartbeats 2000000 in
theorem checks_row (v : Value) (l : List It) (w : World) (h : RdI w v l) (hsz : SzI l) (hwf : WfI l) (tab : TabAt w) :
    Calls Tryd.prog 3 #[v] w fun e w' => e = .returned (.bool true) ∧ Below w.heap.size w w' := by
  have FW := few9_any v l w h hsz
  obtain ⟨L, hL⟩ : ∃ L, L = fewL l := ⟨_, rfl⟩
  have hsz2 : SzI L := by rw [hL]; exact fewL_sz hsz
  have hwf2 : WfI L := by rw [hL]; exact fewL_wf hwf
  have h66 : L.length ≤ 66 := by rw [hL]; exact fewL_len l
  have hk60 : ∀ x ∈ L, x.key.length ≤ 60 ∧ x.v.s.length ≤ 200 := by rw [hL]; exact fewL_key
  rw [← hL] at FW
  have HS := Lib.hid hsz2
  have HW := Lib.hid hwf2
  have HK := Lib.hid hk60
  clear hL h hsz hwf hsz2 hwf2 hk60
  go_enter Tryd.func3, Tryd.ntmps3
  go_wp2_with fail
  refine FW.mono ?_
  rintro e w1 ⟨v1, rfl, own1, b1⟩
  have hr1 := OwnI.rd (w := w) own1
  have t1 := tab.below b1
  obtain ⟨ao, cap, rfl, k1, k2⟩ := slice_of_rd hr1
  have CK := check_any (.slice ao L.length cap) L w1 t1 hr1 HS.out
  obtain ⟨a, ha⟩ : ∃ a : Nat, a = (chkL L).1 := ⟨_, rfl⟩
  obtain ⟨b, hb⟩ : ∃ b : Nat, b = (chkL L).2 := ⟨_, rfl⟩
  rw [← ha, ← hb] at CK
  have HA := Lib.hid ha
  have HB := Lib.hid hb
  have RDL := Lib.hid hr1
  have B0 := Lib.hid b1
  have T0 := Lib.hid t1
  have WT := Lib.hid (fun W t h => weight_any (.slice ao L.length cap) L W t h HS.out HW.out)
  clear FW ha hb own1 hr1 b1 t1 tab
  go_wp2_with fail
  refine CK.mono ?_
  rintro e w2 ⟨rfl, g2⟩
  have RC := refCheck_any (.slice ao L.length cap) L w2 (T0.out.below g2) (RDL.out.below g2 (Nat.le_refl _)) HS.out
  rw [← HA.out, ← HB.out] at RC
  clear CK
  go_wp2_with fail
  refine RC.mono ?_
  rintro e w3 ⟨rfl, g3⟩
  have bel := chain g2 g3
  clear RC g2 g3
  rcases isL_cases L with ⟨h1, h2⟩ | ⟨h1, h2⟩
  · have hm := Lib.hid (isL_may h1)
    rw [← HA.out] at h2
    subst h2
    have WT0 := WT.out
    rw [show weightL L = wtL L by unfold weightL; rw [h1]; rfl] at WT0
    have WT := Lib.hid WT0
    have z0 : ((((0 : Nat) : Int)) == 0) = true := rfl
    clear h1 WT0
    go_wp2_with fail
    go_loopw [7, 8] (fun z i wr => ∃ (j s : Nat), j ≤ L.length ∧ i = .int .i64 (j : Int) ∧ z = .int .i64 (s : Int) ∧ s ≤ 300 * j ∧ Hid (s = wtL (L.take j)) ∧ Below w1.heap.size w1 wr) (fun _ i _ => 100 - (intOf i).toNat)
    case atStart => exact ⟨0, 0, Nat.zero_le _, rfl, rfl, Nat.le_refl _, rfl, bel⟩
    case round =>
      clear bel
      obtain ⟨j, s, hj, rfl, rfl, hs, HACC, bel⟩ := hrel
      by_cases hlt : j < L.length
      · have hr := RDL.out
        have R1 := hr.below bel (Nat.le_refl _)
        obtain ⟨b, off, rfl, hb, c0, c1, c2, c3, c4⟩ := rdi_cells R1 j hlt
        obtain ⟨x, hx⟩ : ∃ x, x = L[j]'hlt := ⟨_, rfl⟩
        rw [← hx] at c0 c1 c2 c3 c4
        have hmx : mayI x = true := by rw [hx]; exact hm.out _ (List.getElem_mem _)
        have hxk := may_key hmx
        have hmv := may_v hmx
        have hxs : x.v.s.length ≤ maxLen := by rw [hx]; exact (HS.out _ (List.getElem_mem _)).2
        have hxi : I64 x.v.i := by rw [hx]; exact HW.out _ (List.getElem_mem _)
        have hmx2 := encL_max x.v
        obtain ⟨n1, hn1⟩ : ∃ n1, n1 = x.key.length := ⟨_, rfl⟩
        obtain ⟨n2, hn2⟩ : ∃ n2, n2 = (V7.encL x.v).length := ⟨_, rfl⟩
        have z1 : (str x.key).size = n1 := by rw [hn1]; exact str_size _
        have HA2 := Lib.hid (show s + (n1 + n2) = wtL (L.take (j + 1)) by rw [wt_succ hlt, ← HACC.out, ← hx, hn1, hn2]; rfl)
        rw [← hn1] at hxk
        rw [← hn2] at hmx2
        have EN := Lib.hid (show ∀ w, Calls Tryd.prog 13 #[.agg #[.int .i64 x.v.k, .int .i64 x.v.i, .string (str x.v.s)]] w fun e w' => ∃ s9, e = .returned (.string s9) ∧ s9.size = n2 ∧ Below w.heap.size w w' by
          intro w
          refine (V7.refEncode_any x.v.k x.v.i x.v.s w hxs hxi hmv).mono ?_
          rintro e w9 ⟨rfl, b9⟩
          exact ⟨_, rfl, by rw [str_size, hn2], b9⟩)
        have E1 := Lib.hid (show IntKind.i64.wrap ((n1 : Int) + (n2 : Int)) = ((n1 + n2 : Nat) : Int) by rw [IntKind.wrap_i64]; omega)
        have E2 := Lib.hid (show IntKind.i64.wrap ((s : Int) + ((n1 + n2 : Nat) : Int)) = ((s + (n1 + n2) : Nat) : Int) by rw [IntKind.wrap_i64]; omega)
        have hs2 : s + (n1 + n2) ≤ 300 * (j + 1) := by omega
        clear hx hn1 hn2 hr R1 hxs hxi hmx hmv
        go_wp2_with fail
        refine g_start (by kernel_rfl) ?_
        refine g_take (i := 0) (d := (some 31)) (v := ?_) rfl rfl (by kernel_rfl) (fun _ _ _ h => h) (by rfl) (fun w' hb' => ?_) ?_
        rotate_left
        · (try go_simp); (try with_reducible rfl)
        try simp only [Act.put, List.setIfInBounds_toArray, List.set_cons_zero, List.set_cons_succ]
        refine g_take (i := 1) (d := (some 32)) (v := ?_) rfl rfl (by kernel_rfl) (fun _ _ _ h => h) (by rfl) (fun w' hb' => ?_) ?_
        rotate_left
        · (try go_simp); (try with_reducible rfl)
        try simp only [Act.put, List.setIfInBounds_toArray, List.set_cons_zero, List.set_cons_succ]
        refine g_take (i := 2) (d := (some 33)) (v := ?_) rfl rfl (by kernel_rfl) (fun _ _ _ h => h) (by rfl) (fun w' hb' => ?_) ?_
        rotate_left
        · (try go_simp); (try with_reducible rfl)
        try simp only [Act.put, List.setIfInBounds_toArray, List.set_cons_zero, List.set_cons_succ]
        refine g_take (i := 3) (d := (some 34)) (v := ?_) rfl rfl (by kernel_rfl) (fun _ _ _ h => h) (by rfl) (fun w' hb' => ?_) ?_
        rotate_left
        · (try go_simp); (try with_reducible rfl)
        try simp only [Act.put, List.setIfInBounds_toArray, List.set_cons_zero, List.set_cons_succ]
        refine g_take (i := 4) (d := (some 35)) (v := ?_) rfl rfl (by kernel_rfl) (fun _ _ _ h => h) (by rfl) (fun w' hb' => ?_) ?_
        rotate_left
        · (try go_simp); (try with_reducible rfl)
        try simp only [Act.put, List.setIfInBounds_toArray, List.set_cons_zero, List.set_cons_succ]
        refine g_take (i := 5) (d := (some 36)) (v := ?_) rfl rfl (by kernel_rfl) (fun _ _ _ h => h) (by rfl) (fun w' hb' => ?_) ?_
        rotate_left
        · have c0 := (hb'.cell (p := ⟨b, off + j * 5, none⟩) hb).trans c0; have c1 := (hb'.cell (p := ⟨b, off + j * 5 + 1, none⟩) hb).trans c1; have c2 := (hb'.cell (p := ⟨b, off + j * 5 + 2, none⟩) hb).trans c2; have c3 := (hb'.cell (p := ⟨b, off + j * 5 + 3, none⟩) hb).trans c3; (try go_simp); (try with_reducible rfl)
        try simp only [Act.put, List.setIfInBounds_toArray, List.set_cons_zero, List.set_cons_succ]
        refine g_take (i := 6) (d := (some 37)) (v := ?_) rfl rfl (by kernel_rfl) (fun _ _ _ h => h) (by rfl) (fun w' hb' => ?_) ?_
        rotate_left
        · (try go_simp); (try with_reducible rfl)
        try simp only [Act.put, List.setIfInBounds_toArray, List.set_cons_zero, List.set_cons_succ]
        refine g_take (i := 7) (d := (some 38)) (v := ?_) rfl rfl (by kernel_rfl) (fun _ _ _ h => h) (by rfl) (fun w' hb' => ?_) ?_
        rotate_left
        · (try go_simp); (try with_reducible rfl)
        try simp only [Act.put, List.setIfInBounds_toArray, List.set_cons_zero, List.set_cons_succ]
        refine g_take (i := 8) (d := (some 39)) (v := ?_) rfl rfl (by kernel_rfl) (fun _ _ _ h => h) (by rfl) (fun w' hb' => ?_) ?_
        rotate_left
        · (try go_simp); (try with_reducible rfl)
        try simp only [Act.put, List.setIfInBounds_toArray, List.set_cons_zero, List.set_cons_succ]
        refine g_take (i := 9) (d := (some 40)) (v := ?_) rfl rfl (by kernel_rfl) (fun _ _ _ h => h) (by rfl) (fun w' hb' => ?_) ?_
        rotate_left
        · (try go_simp); (try with_reducible rfl)
        try simp only [Act.put, List.setIfInBounds_toArray, List.set_cons_zero, List.set_cons_succ]
        refine g_take (i := 10) (d := (some 41)) (v := ?_) rfl rfl (by kernel_rfl) (fun _ _ _ h => h) (by rfl) (fun w' hb' => ?_) ?_
        rotate_left
        · (try go_simp); (try with_reducible rfl)
        try simp only [Act.put, List.setIfInBounds_toArray, List.set_cons_zero, List.set_cons_succ]
        refine g_take (i := 11) (d := (some 42)) (v := ?_) rfl rfl (by kernel_rfl) (fun _ _ _ h => h) (by rfl) (fun w' hb' => ?_) ?_
        rotate_left
        · have c0 := (hb'.cell (p := ⟨b, off + j * 5, none⟩) hb).trans c0; have c1 := (hb'.cell (p := ⟨b, off + j * 5 + 1, none⟩) hb).trans c1; have c2 := (hb'.cell (p := ⟨b, off + j * 5 + 2, none⟩) hb).trans c2; have c3 := (hb'.cell (p := ⟨b, off + j * 5 + 3, none⟩) hb).trans c3; (try go_simp); (try with_reducible rfl)
        try simp only [Act.put, List.setIfInBounds_toArray, List.set_cons_zero, List.set_cons_succ]
        refine g_run (i := 12) rfl (by kernel_rfl) (by rfl) (fun K hK => ?_)
        go_simp; refine (EN.out _).mono ?_; rintro e w9 ⟨s9, rfl, hs9, b9⟩; refine hK _ _ ⟨b9, ?_⟩; clear hK K
        try simp only [Act.put, List.setIfInBounds_toArray, List.set_cons_zero, List.set_cons_succ]
        refine g_take (i := 13) (d := (some 44)) (v := ?_) rfl rfl (by kernel_rfl) (fun _ _ _ h => h) (by rfl) (fun w' hb' => ?_) ?_
        rotate_left
        · (try go_simp); (try with_reducible rfl)
        try simp only [Act.put, List.setIfInBounds_toArray, List.set_cons_zero, List.set_cons_succ]
        refine g_take (i := 14) (d := (some 45)) (v := ?_) rfl rfl (by kernel_rfl) (fun _ _ _ h => h) (by rfl) (fun w' hb' => ?_) ?_
        rotate_left
        · have e1 := E1.out; (try go_simp); (try with_reducible rfl)
        try simp only [Act.put, List.setIfInBounds_toArray, List.set_cons_zero, List.set_cons_succ]
        refine g_take (i := 15) (d := (some 46)) (v := ?_) rfl rfl (by kernel_rfl) (fun _ _ _ h => h) (by rfl) (fun w' hb' => ?_) ?_
        rotate_left
        · have e2 := E2.out; (try go_simp); (try with_reducible rfl)
        try simp only [Act.put, List.setIfInBounds_toArray, List.set_cons_zero, List.set_cons_succ]
        refine g_take (i := 16) (d := (some 7)) (v := ?_) rfl rfl (by kernel_rfl) (fun _ _ _ h => h) (by rfl) (fun w' hb' => ?_) ?_
        rotate_left
        · (try go_simp); (try with_reducible rfl)
        try simp only [Act.put, List.setIfInBounds_toArray, List.set_cons_zero, List.set_cons_succ]
        refine g_done (by kernel_rfl) ?_
        go_wp2_with fail
        exact ⟨⟨j + 1, s + (n1 + n2), by omega, by push_cast; rfl, by have h := E2.out; push_cast at h ⊢; rw [h], hs2, HA2, chain (bel.drew) b9⟩, by simp [intOf]; omega⟩
      · obtain rfl : j = L.length := by omega
        have e9 : s = wtL L := by rw [HACC.out, List.take_length]
        have WT0 := WT.out
        rw [← e9] at WT0
        have WT := Lib.hid WT0
        clear e9 WT0
        go_wp2_with fail
        refine ((WT.out _ (T0.out.below bel) ((RDL.out).below bel (Nat.le_refl _)))).mono ?_
        rintro e w6 ⟨rfl, g6⟩
        have bel6 := chain bel g6
        have AW := awake9_any.at _ (T0.out.below bel6)
        go_wp2_with fail
        refine AW.mono ?_
        rintro e w7 ⟨rfl, g7⟩
        go_wp2_with fail
        go_ret
        exact ⟨rfl, chain B0.out (chain bel6 g7)⟩
  · have WT0 := WT.out
    rw [show weightL L = 0 by unfold weightL; rw [h1]; rfl] at WT0
    have WT := Lib.hid WT0
    rw [← HA.out] at h2
    have z0 := cast_ne0 h2
    clear h1 WT0
    go_wp2_with fail
    go_loopw [7, 8] (fun z i wr => i = .int .i64 0 ∧ z = .int .i64 0 ∧ Below w1.heap.size w1 wr) (fun _ i _ => 0)
    case atStart => exact ⟨rfl, rfl, bel⟩
    case round =>
      clear bel
      obtain ⟨rfl, rfl, bel⟩ := hrel
      by_cases hp : 0 < L.length
      · skip
        go_wp2_with fail
        refine ((WT.out _ (T0.out.below bel) ((RDL.out).below bel (Nat.le_refl _)))).mono ?_
        rintro e w6 ⟨rfl, g6⟩
        have bel6 := chain bel g6
        have AW := awake9_any.at _ (T0.out.below bel6)
        go_wp2_with fail
        refine AW.mono ?_
        rintro e w7 ⟨rfl, g7⟩
        go_wp2_with fail
        go_ret
        exact ⟨rfl, chain B0.out (chain bel6 g7)⟩
      · skip
        go_wp2_with fail
        refine ((WT.out _ (T0.out.below bel) ((RDL.out).below bel (Nat.le_refl _)))).mono ?_
        rintro e w6 ⟨rfl, g6⟩
        have bel6 := chain bel g6
        have AW := awake9_any.at _ (T0.out.below bel6)
        go_wp2_with fail
        refine AW.mono ?_
        rintro e w7 ⟨rfl, g7⟩
        go_wp2_with fail
        go_ret
        exact ⟨rfl, chain B0.out (chain bel6 g7)⟩
end Go.Proofs.YtcehgfganjdghaaDoor
namespace Go.Proofs.YtcehgfganjdghaaDoor
open Go.RowKit
set_option linter.unusedVariables false
/-- What is left: what was there, but for two blocks, is as it was. -/
structure Two (w w' : World) (g b : Nat) : Prop where
  size : w.heap.size ≤ w'.heap.size
  os : w'.os = w.os
  tape : w'.tape = w.tape
  output : w'.output = w.output
  block : ∀ k, k < w.heap.size → k ≠ g → k ≠ b → w'.heap[k]? = w.heap[k]?
theorem Two.refl (w : World) (g b : Nat) : Two w w g b := ⟨Nat.le_refl _, rfl, rfl, rfl, fun _ _ _ _ => rfl⟩
theorem Two.below {w x y : World} {g b : Nat} (h : Two w x g b) (k : Below x.heap.size x y) : Two w y g b :=
  ⟨Nat.le_trans h.size k.size, k.os.trans h.os, k.tape.trans h.tape, k.output.trans h.output, fun i hi h1 h2 => (k.block i (Nat.lt_of_lt_of_le hi h.size)).trans (h.block i hi h1 h2)⟩
theorem Two.grown {w x y : World} {g b : Nat} (h : Two w x g b) (k : x.grownBy y (some g)) : Two w y g b :=
  ⟨Nat.le_trans h.size k.size, k.os.trans h.os, k.tape.trans h.tape, k.output.trans h.output, fun i hi h1 h2 => (k.block i (Nat.lt_of_lt_of_le hi h.size) (by simp; first | exact h1 | exact fun e => h1 e.symm)).trans (h.block i hi h1 h2)⟩
theorem Two.grown2 {w x y : World} {g b : Nat} (h : Two w x g b) (k : x.grownBy y (some b)) : Two w y g b :=
  ⟨Nat.le_trans h.size k.size, k.os.trans h.os, k.tape.trans h.tape, k.output.trans h.output, fun i hi h1 h2 => (k.block i (Nat.lt_of_lt_of_le hi h.size) (by simp; first | exact h2 | exact fun e => h2 e.symm)).trans (h.block i hi h1 h2)⟩
theorem below_grown0 {w w' : World} (k : Below w.heap.size w w') : w.grownBy w' none := ⟨k.os, k.tape, k.output, k.size, fun i hi _ => k.block i hi⟩
section
variable {P : Program} {ops : Array Oper} {Q : Exit → Act → World → Prop} {S : World → Prop}
theorem gs_start {id : Nat} {a : Act} {w : World} (hm : P.follows .mixedOrders = true) (h : wpAnyH P .any ops Q S ops.size (Array.replicate ops.size false) a w.drew) : (Code.region id ops true).wp P Q a w :=
  wp_region_held hm h
theorem gs_take {i : Nat} {oi : Oper} {d : Option Tmp} {v : Value} {fuel : Nat} {listed : Array Bool} {a : Act} {w : World} (hi : ops[i]? = some oi) (hd : oi.dst = d) (hst : stat ops listed i = true)
    (hQ : ∀ c a w, Q (.panic c) (a.put d v) w → Q (.panic c) a w) (hw : Region.wanted oi (yielded ops a.tmps) = true) (hS : S w)
    (hy : ∀ w', S w' → (execOp a.eval oi).run P w' = .ok (.value v) w')
    (h : wpAnyH P .any ops Q S fuel (listed.setIfInBounds i true) (a.put d v) w) : wpAnyH P .any ops Q S (fuel + 1) listed a w := by
  subst hd
  unfold stat at hst
  rw [Bool.and_eq_true, Bool.and_eq_true] at hst
  exact wpAnyH_take hi hst.1.1 hst.1.2 hst.2 hQ (.inl ⟨hw, hy⟩) hS h
theorem gs_run {i : Nat} {oi : Oper} {fuel : Nat} {listed : Array Bool} {a : Act} {w : World} (hi : ops[i]? = some oi) (hr : Region.ready .any ops listed = [i])
    (hw : Region.wanted oi (yielded ops a.tmps) = true)
    (h : ∀ K : Act → World → Prop, (∀ a' w', S w' ∧ wpAnyH P .any ops Q S fuel (listed.setIfInBounds i true) a' w' → K a' w') → oi.wp P a w K Q) : wpAnyH P .any ops Q S (fuel + 1) listed a w := by
  refine wpAnyH_all hr (by simp) ?_
  intro j hj
  rw [List.mem_singleton] at hj
  subst hj
  unfold wpOp
  simp only [hi, hw, if_true]
  exact .inl (h _ (fun a' w' k => k))
theorem gs_run2 {i k : Nat} {oi ok : Oper} {fuel : Nat} {listed : Array Bool} {a : Act} {w : World} (hi : ops[i]? = some oi) (hk : ops[k]? = some ok) (hr : Region.ready .any ops listed = [i, k])
    (hwi : Region.wanted oi (yielded ops a.tmps) = true) (hwk : Region.wanted ok (yielded ops a.tmps) = true)
    (h1 : ∀ K : Act → World → Prop, (∀ a' w', S w' ∧ wpAnyH P .any ops Q S fuel (listed.setIfInBounds i true) a' w' → K a' w') → oi.wp P a w K Q)
    (h2 : ∀ K : Act → World → Prop, (∀ a' w', S w' ∧ wpAnyH P .any ops Q S fuel (listed.setIfInBounds k true) a' w' → K a' w') → ok.wp P a w K Q) : wpAnyH P .any ops Q S (fuel + 1) listed a w := by
  refine wpAnyH_all hr (by simp) ?_
  intro j hj
  rw [List.mem_cons, List.mem_singleton] at hj
  rcases hj with rfl | rfl
  · unfold wpOp
    simp only [hi, hwi, if_true]
    exact .inl (h1 _ (fun a' w' k => k))
  · unfold wpOp
    simp only [hk, hwk, if_true]
    exact .inl (h2 _ (fun a' w' k => k))
theorem gs_done {listed : Array Bool} {fuel : Nat} {a : Act} {w : World} (hr : Region.ready .any ops listed = []) (h : Q .normal a w) : wpAnyH P .any ops Q S fuel listed a w :=
  wpAnyH_done hr h fuel
end
end Go.Proofs.YtcehgfganjdghaaDoor
