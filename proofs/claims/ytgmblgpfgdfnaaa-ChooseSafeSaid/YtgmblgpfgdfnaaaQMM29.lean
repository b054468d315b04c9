/- Marks: moved, Later, Same, Move by both sides. Written by wip/tools/gen30f.py. -/
import Derived.Test.YtgmblgpfgdfnaaaQMM28
import Derived.Laws.Tables
namespace Go.Proofs.Ytgmblgpfgdfnaaa
open Go Go.RowKit
set_option linter.unusedVariables false
set_option linter.unusedSimpArgs false
set_option maxRecDepth 100000

theorem set3_new {w : World} {B : Nat} {a0 a1 a2 u0 u1 u2 : Value} {t : TypeId} (h : w.heap[B]? = some (.cells #[a0, a1, a2] t (0, 0))) :
    (((w.setCell ⟨B, 0, none⟩ u0).setCell ⟨B, 1, none⟩ u1).setCell ⟨B, 2, none⟩ u2).heap[B]? = some (.cells #[u0, u1, u2] t (0, 0)) := by
  simpa using set_at (i := 2) (u := u2) (set_at (i := 1) (u := u1) (set_at (i := 0) (u := u0) h))
theorem set3_old {w : World} {B k : Nat} {u0 u1 u2 : Value} (h : k ≠ B) : (((w.setCell ⟨B, 0, none⟩ u0).setCell ⟨B, 1, none⟩ u1).setCell ⟨B, 2, none⟩ u2).heap[k]? = w.heap[k]? := by
  rw [set_old h, set_old h, set_old h]
theorem set3_grown {w : World} {B : Nat} {u0 u1 u2 : Value} : w.grownBy (((w.setCell ⟨B, 0, none⟩ u0).setCell ⟨B, 1, none⟩ u1).setCell ⟨B, 2, none⟩ u2) (some B) := grown_setB (grown_setB (grown_setB grown_reflB))
theorem three_allocs (w : World) (a b c : Obj) : (((w.alloc a).alloc b).alloc c).heap[w.heap.size]? = some a ∧ (((w.alloc a).alloc b).alloc c).heap[w.heap.size + 1]? = some b ∧ (((w.alloc a).alloc b).alloc c).heap[w.heap.size + 2]? = some c ∧ Below w.heap.size w (((w.alloc a).alloc b).alloc c) := by
  obtain ⟨h1, h2, h3, _⟩ := two_allocs w a b
  refine ⟨(heap_alloc_old _ _ (by omega)).trans h1, (heap_alloc_old _ _ (by omega)).trans h2, ?_, (((Below.refl _ _).alloc (Nat.le_refl _) _).alloc (by simp) _).alloc (by simp; omega) _⟩
  rw [← h3]; exact heap_alloc_new _ _
theorem below_grownN {w w1 w2 : World} {B : Nat} {r : Option Nat} (h : Below B w w1) (g : w1.grownBy w2 r) (hB : B ≤ w1.heap.size) (hk : ∀ q, r = some q → B ≤ q) : Below B w w2 := h.grown g hB hk
theorem results_cell_row_tmp {P : Program} {fn : Func} {p u : Tmp} {ty : TypeId} (h : fn.results = #[.cell p ty, .tmp u]) (tmps : Array Value) (w : World) (g : Nat) (t : TypeId) (cs : Array Value) (fr : Nat × Nat) (d : TypeDesc)
    (hp : tmps.getD p undef = .pointer (some ⟨g, 0, none⟩)) (hg : w.heap[g]? = some (.cells cs t fr))
    (hu : P.underlying ty = some d) (hd : (match d with | .struct _ | .array _ _ => true | _ => false) = true) (hi : (P.info? ty).map (·.size) = some cs.size) :
    (results fn tmps).run P w = .ok (.tuple #[.agg cs, tmps.getD u undef]) w := by
  rw [results_cell_tmp h, hp]
  simp [asAddr, run_loadVar_row w g t ty cs fr d hg hu hd hi]
theorem moved1_any (x : Vt) (B : Nat) (low : Int) (W : World) (hB : W.cell? ⟨B, 0, none⟩ = some (.int .i64 low)) (hlt : B < W.heap.size) : Calls Try.prog 47 #[vtV x, .pointer (some ⟨B, 0, none⟩)] W fun e w' => e = .returned (.bool (decide (x.vw ≤ low))) ∧ Below W.heap.size W w' := by
  obtain ⟨a, b, c⟩ := x
  unfold vtV
  simp only
  have q0 := heap_alloc_new W (.cells #[.int .i64 a, .int .i64 b, .int .i64 c] 30)
  have bel := (Below.refl W.heap.size W).alloc (Nat.le_refl _) (.cells #[.int .i64 a, .int .i64 b, .int .i64 c] 30)
  have hB' := (bel.cell (p := ⟨B, 0, none⟩) hlt).trans hB
  obtain ⟨d0, d1, d2, df⟩ := block_cells3 q0
  clear hB
  go_enter Try.func47, Try.ntmps47
  go_wp2_with fail
  go_ret
  exact ⟨rfl, bel⟩
theorem later_not (l : List Vt) (low : Int) : (l.filter fun x => !decide (x.vw ≤ low)) = laterL l low := by
  unfold laterL
  congr 1
  funext x
  by_cases h : x.vw ≤ low
  · rw [decide_eq_true h, decide_eq_false (by omega)]; rfl
  · rw [decide_eq_false h, decide_eq_true (by omega)]; rfl
set_option maxHeartbeats 2000000 in
theorem moved_any (m : Ms) (v : Value) (lo ro : Int) (w : World) (h : RdM w m v) (hl : m.l.length ≤ 1000) : Calls Try.prog 31 #[mV m v, .int .i64 lo, .int .i64 ro] w (GivesFM w ⟨lo, ro, laterL m.l lo⟩) := by
  obtain ⟨low, root, l⟩ := m
  obtain ⟨ao, len, cap, rfl⟩ := rdt_val h.l
  have CL0 := fun w' (g : Below w.heap.size w w') => clone_any (.slice ao len cap) l w' (RdT.below h.l g (Nat.le_refl _)) hl
  have CL := Lib.hid CL0
  have HB := Lib.hid h.b
  unfold mV
  simp only at hl ⊢
  obtain ⟨q0, q1, q2, B0⟩ := three_allocs w (.cells #[.int .i64 low, .int .i64 root, .slice ao len cap] 24) (.cells #[.int .i64 lo] 3) (.cells #[.int .i64 0, .int .i64 0, .slice none 0 0] 24)
  obtain ⟨W0, hW0⟩ : ∃ W, W = ((w.alloc (.cells #[.int .i64 low, .int .i64 root, .slice ao len cap] 24)).alloc (.cells #[.int .i64 lo] 3)).alloc (.cells #[.int .i64 0, .int .i64 0, .slice none 0 0] 24) := ⟨_, rfl⟩
  have hL := Lib.hid hl
  clear CL0 h hl
  go_enter Try.func31, Try.ntmps31
  go_upto_region 1 with fail
  rw [← hW0] at q0 q1 q2 B0 ⊢
  clear hW0
  obtain ⟨d0, d1, d2, df⟩ := block_cells3 q0
  go_wp2_with fail
  refine (CL.out _ B0).mono ?_
  rintro e w1 ⟨v1, rfl, own1, g1⟩
  have hz0 : w.heap.size + 2 < W0.heap.size := lt_of_block q2
  have q1' := (g1.block _ (lt_of_block q1)).trans q1
  have q2' := (g1.block _ (lt_of_block q2)).trans q2
  have B1 := chain B0 g1
  have hc1 : w1.cell? ⟨w.heap.size + 1, 0, none⟩ = some (.int .i64 lo) := by rw [block_cell q1' 0]; rfl
  have hlt1 := lt_of_block q1'
  have DE0 := delete_any 47 #[.pointer (some ⟨w.heap.size + 1, 0, none⟩)] (enters_of Try.func47 (by kernel_rfl) rfl) W0.heap.size v1 l (fun x => decide (x.vw ≤ lo)) w1 own1 hL.out (fun x W G => moved1_any x (w.heap.size + 1) lo W (by
    rw [← hc1]
    refine World.cell?_of_block (G.block _ hlt1 (fun e => ?_))
    have h9 : W0.heap.size ≤ w.heap.size + 1 := (own1.lt _ e.symm).1
    omega) (Nat.lt_of_lt_of_le hlt1 G.size))
  rw [later_not] at DE0
  have DE := Lib.hid DE0
  clear DE0 g1 d0 d1 d2 df CL
  go_wp2_with fail
  refine DE.out.mono ?_
  rintro e w2 ⟨v2, rfl, own2, hq, G⟩
  have hne : ∀ k, k < W0.heap.size → some k ≠ v1.ownBlock := fun k hk e => by have := (own1.lt _ e.symm).1; omega
  have p1 := (G.block _ hlt1 (hne _ (by omega))).trans q1'
  have p2 := (G.block _ (lt_of_block q2') (hne _ (by omega))).trans q2'
  have B2 := below_grownN B1 G B1.size (fun q e => by have := (own1.lt _ e).1; omega)
  have own2' := own2.kept (set3_grown (w := w2) (B := w.heap.size + 2) (u0 := .int .i64 lo) (u1 := .int .i64 ro) (u2 := v2)) (by
    cases hv : v2.ownBlock with
    | none => exact .inl rfl
    | some q => refine .inr fun e => ?_; injection e with e; have := (own2.lt q hv).1; omega)
  have QZ := Lib.hid (set3_new (u0 := .int .i64 lo) (u1 := .int .i64 ro) (u2 := v2) p2)
  have HF := Lib.hid (below_grownN B2 (set3_grown (w := w2) (B := w.heap.size + 2) (u0 := .int .i64 lo) (u1 := .int .i64 ro) (u2 := v2)) B2.size (fun q e => by injection e with e; omega))
  have HOW := Lib.hid own2'
  obtain ⟨a9, n9, c9, rfl⟩ := rdt_val (own_rdt own2)
  have f1 : w2.cell? ⟨w.heap.size + 1, 0, none⟩ = some (.int .i64 lo) := by rw [block_cell p1 0]; rfl
  obtain ⟨d0, d1, d2, df⟩ := block_cells3 p2
  clear DE own1 own2 own2' hq G hne p1 q1' q2' B1 B2 hc1
  go_wp2_with fail
  refine bodyPost_ret (results_cell_row rfl _ _ _ 24 #[.int .i64 lo, .int .i64 ro, .slice a9 n9 c9] (0, 0) _ rfl QZ.out Try.underlying24 rfl marks_size) rfl ?_
  exact ⟨a9, n9, c9, rfl, ⟨own_rdt HOW.out, fun x hx => HB.out x ((List.mem_filter.1 (show x ∈ List.filter _ _ from hx)).1)⟩, HF.out⟩
theorem later_up {l : List Vt} {lo : Int} {k : Nat} (hk : k < l.length) : laterL (l.take (k + 1)) lo = if decide (lo < l[k].vw) = true then laterL (l.take k) lo ++ [l[k]] else laterL (l.take k) lo := by
  unfold laterL
  rw [List.take_succ_eq_append_getElem hk, List.filter_append]
  by_cases h : lo < l[k].vw
  · simp [h]
  · simp [h]
theorem later_len (l : List Vt) (lo : Int) : (laterL l lo).length ≤ l.length := List.length_filter_le _ _
set_option maxHeartbeats 1000000 in
theorem later_any (v : Value) (l : List Vt) (lo : Int) (w : World) (h : RdT w v l) (hl : l.length ≤ 1000) : Calls Try.prog 32 #[v, .int .i64 lo] w (OwnT w (laterL l lo)) := by
  obtain ⟨i0, hi, hz0, hz1, hz2⟩ := info_parts mark_info
  obtain ⟨ao, cap, rfl, hc, hm, hr⟩ := RdK.open h
  have hr : RdT w (.slice ao l.length cap) l := hr
  have HRD := Lib.hid hr
  obtain ⟨Z, hZ⟩ : ∃ Z, Z = OwnT w (laterL l lo) := ⟨_, rfl⟩
  rw [← hZ]
  have HZ := Lib.hid hZ
  clear h hr hZ
  go_enter Try.func32, Try.ntmps32
  go_wp2_with fail
  go_loopw [5, 6] (fun o' i wr => ∃ k : Nat, k ≤ l.length ∧ i = .int .i64 (k : Int) ∧ wr.ownsRow w.heap.size 30 3 o' (laterL (l.take k) lo).length ((laterL (l.take k) lo).flatMap vtC) ∧ Below w.heap.size w wr) (fun _ i _ => l.length - (intOf i).toNat)
  case atStart => exact ⟨0, Nat.zero_le _, rfl, World.ownsRow_nil _ _ _ _, Below.refl _ _⟩
  case round =>
    obtain ⟨k, hk, rfl, hown, bel⟩ := hrel
    by_cases hlt : k < l.length
    · obtain ⟨pb, po, rfl, hpb, C0, C1, C2⟩ := rdt_cells HRD.out k hlt
      have c0 := (bel.cell (p := ⟨pb, po + k * 3, none⟩) hpb).trans C0
      have c1 := (bel.cell (p := ⟨pb, po + k * 3 + 1, none⟩) hpb).trans C1
      have c2 := (bel.cell (p := ⟨pb, po + k * 3 + 2, none⟩) hpb).trans C2
      have HUP := later_up (lo := lo) hlt
      have HLN := Lib.hid (show (laterL (l.take k) lo).length ≤ 1000 by have := later_len (l.take k) lo; rw [List.length_take] at this; omega)
      obtain ⟨x, hx⟩ : ∃ x, x = l[k] := ⟨_, rfl⟩
      rw [← hx] at c0 c1 c2 HUP
      obtain ⟨a, b, c⟩ := x
      simp only at c0 c1 c2 HUP
      clear hx C0 C1 C2
      by_cases h1 : lo < b
      · rw [decide_eq_true h1] at HUP
        have HU := Lib.hid HUP
        have HOX := Lib.hid hown
        clear HUP hown
        go_wp2_with (at_builtin; refine wpList_app1k vtC_len (by decide) w rfl (.tmp 20) (.tmp 25) 22 rfl w.heap.size 30 i0 (.agg #[.int .i64 0, .int .i64 0, .int .i64 0]) 24 Try.underlying22 hi hz0 hz1 hz2 rfl _ (laterL (l.take k) lo) rfl HOX.out _ ⟨a, b, c⟩ _ rfl rfl vtC_one (by have := HLN.out; unfold maxLen; omega) (by have := HLN.out; omega) (Nat.le_refl _) bel ?_; intro v2 w2 own2 bel2 hq2; clear hq2)
        exact ⟨⟨k + 1, by omega, by push_cast; rfl, by rw [HU.out]; exact own2, bel2⟩, by simp [intOf]; omega⟩
      · rw [decide_eq_false h1] at HUP
        have HU := Lib.hid HUP
        clear HUP
        go_wp2_with fail
        exact ⟨⟨k + 1, by omega, by push_cast; rfl, by rw [HU.out]; exact hown, bel⟩, by simp [intOf]; omega⟩
    · obtain rfl : k = l.length := by omega
      rw [List.take_length] at hown
      have HO := Lib.hid hown
      clear hown
      go_wp2_with fail
      show Z (.returned _) _
      rw [HZ.out]
      exact ⟨_, rfl, HO.out, bel⟩
set_option maxHeartbeats 2000000 in
theorem sameM_yes (m : Ms) (va vb : Value) (w : World) (ha : RdT w va m.l) (hb : RdT w vb m.l) : Calls Try.prog 18 #[mV m va, mV m vb] w fun e w' => e = .returned (.bool true) ∧ Below w.heap.size w w' := by
  obtain ⟨low, root, l⟩ := m
  obtain ⟨ax, cx, rfl, h1, h2, ra⟩ := RdK.open ha
  obtain ⟨ay, cy, rfl, h3, h4, rb⟩ := RdK.open hb
  simp only at ra rb h1 h3
  unfold mV
  simp only
  obtain ⟨q0, q1, -, -⟩ := two_allocs w (.cells #[.int .i64 low, .int .i64 root, .slice ax l.length cx] 24) (.cells #[.int .i64 low, .int .i64 root, .slice ay l.length cy] 24)
  have B0 := ((Below.refl w.heap.size w).alloc (Nat.le_refl _) (.cells #[.int .i64 low, .int .i64 root, .slice ax l.length cx] 24)).alloc (by simp) (.cells #[.int .i64 low, .int .i64 root, .slice ay l.length cy] 24)
  obtain ⟨W0, hW0⟩ : ∃ W, W = (w.alloc (.cells #[.int .i64 low, .int .i64 root, .slice ax l.length cx] 24)).alloc (.cells #[.int .i64 low, .int .i64 root, .slice ay l.length cy] 24) := ⟨_, rfl⟩
  have HA := Lib.hid (RdT.below (show RdT w (.slice ax l.length cx) l from ra) B0 (Nat.le_refl _))
  have HB := Lib.hid (RdT.below (show RdT w (.slice ay l.length cy) l from rb) B0 (Nat.le_refl _))
  rw [← hW0] at q0 q1 B0 HA HB
  have Q0 := Lib.hid q0
  have Q1 := Lib.hid q1
  clear ha hb ra rb
  go_enter Try.func18, Try.ntmps18
  go_upto_region 1 with fail
  rw [← hW0]
  clear hW0
  obtain ⟨d0, d1, d2, df⟩ := block_cells3 q0
  obtain ⟨e0, e1, e2, ef⟩ := block_cells3 q1
  go_wp2_with fail
  clear d0 d1 d2 df e0 e1 e2 ef q0 q1
  go_loopw [5] (fun i wr => ∃ k : Nat, k ≤ l.length ∧ i = .int .i64 (k : Int) ∧ Below W0.heap.size W0 wr) (fun i _ => l.length - (intOf i).toNat)
  case atStart => exact ⟨0, Nat.zero_le _, rfl, Below.refl _ _⟩
  case round =>
    obtain ⟨k, hk, rfl, bel⟩ := hrel
    have q0 := (bel.block _ (lt_of_block Q0.out)).trans Q0.out
    have q1 := (bel.block _ (lt_of_block Q1.out)).trans Q1.out
    obtain ⟨d0, d1, d2, df⟩ := block_cells3 q0
    by_cases hlt : k < l.length
    · obtain ⟨pb, po, rfl, hpb, C0, C1, C2⟩ := rdt_cells HA.out k hlt
      obtain ⟨qb, qo, rfl, hqb, D0, D1, D2⟩ := rdt_cells HB.out k hlt
      replace C0 := (bel.cell (p := ⟨pb, po + k * 3, none⟩) hpb).trans C0
      replace C1 := (bel.cell (p := ⟨pb, po + k * 3 + 1, none⟩) hpb).trans C1
      replace C2 := (bel.cell (p := ⟨pb, po + k * 3 + 2, none⟩) hpb).trans C2
      replace D0 := (bel.cell (p := ⟨qb, qo + k * 3, none⟩) hqb).trans D0
      replace D1 := (bel.cell (p := ⟨qb, qo + k * 3 + 1, none⟩) hqb).trans D1
      replace D2 := (bel.cell (p := ⟨qb, qo + k * 3 + 2, none⟩) hqb).trans D2
      have hpx := Nat.lt_of_lt_of_le hpb bel.size
      have hqx := Nat.lt_of_lt_of_le hqb bel.size
      go_wp2_with fail
      clear d0 d1 d2 df
      refine g_start (by kernel_rfl) ?_
      refine g_take (i := 0) (d := (some 34)) (v := ?_) rfl rfl (by kernel_rfl) (fun _ _ _ h => h) (by rfl) (fun w' hb' => ?_) ?_
      rotate_left
      · (try go_simp); (try with_reducible rfl)
      try simp only [Act.put, List.setIfInBounds_toArray, List.set_cons_zero, List.set_cons_succ]
      refine g_take (i := 1) (d := (some 35)) (v := ?_) rfl rfl (by kernel_rfl) (fun _ _ _ h => h) (by rfl) (fun w' hb' => ?_) ?_
      rotate_left
      · obtain ⟨d0, d1, d2, df⟩ := block_cells3 ((hb'.block _ (lt_of_block q0)).trans q0); (try go_simp); (try with_reducible rfl)
      try simp only [Act.put, List.setIfInBounds_toArray, List.set_cons_zero, List.set_cons_succ]
      refine g_take (i := 2) (d := (some 36)) (v := ?_) rfl rfl (by kernel_rfl) (fun _ _ _ h => h) (by rfl) (fun w' hb' => ?_) ?_
      rotate_left
      · (try go_simp); (try with_reducible rfl)
      try simp only [Act.put, List.setIfInBounds_toArray, List.set_cons_zero, List.set_cons_succ]
      refine g_take (i := 3) (d := (some 37)) (v := ?_) rfl rfl (by kernel_rfl) (fun _ _ _ h => h) (by rfl) (fun w' hb' => ?_) ?_
      rotate_left
      · (try go_simp); (try with_reducible rfl)
      try simp only [Act.put, List.setIfInBounds_toArray, List.set_cons_zero, List.set_cons_succ]
      refine g_take (i := 4) (d := (some 38)) (v := ?_) rfl rfl (by kernel_rfl) (fun _ _ _ h => h) (by rfl) (fun w' hb' => ?_) ?_
      rotate_left
      · have c0 := (hb'.cell (p := ⟨pb, po + k * 3, none⟩) hpx).trans C0; have c1 := (hb'.cell (p := ⟨pb, po + k * 3 + 1, none⟩) hpx).trans C1; have c2 := (hb'.cell (p := ⟨pb, po + k * 3 + 2, none⟩) hpx).trans C2; (try go_simp); (try with_reducible rfl)
      try simp only [Act.put, List.setIfInBounds_toArray, List.set_cons_zero, List.set_cons_succ]
      refine g_take (i := 5) (d := (some 39)) (v := ?_) rfl rfl (by kernel_rfl) (fun _ _ _ h => h) (by rfl) (fun w' hb' => ?_) ?_
      rotate_left
      · (try go_simp); (try with_reducible rfl)
      try simp only [Act.put, List.setIfInBounds_toArray, List.set_cons_zero, List.set_cons_succ]
      refine g_take (i := 6) (d := (some 40)) (v := ?_) rfl rfl (by kernel_rfl) (fun _ _ _ h => h) (by rfl) (fun w' hb' => ?_) ?_
      rotate_left
      · obtain ⟨e0, e1, e2, ef⟩ := block_cells3 ((hb'.block _ (lt_of_block q1)).trans q1); (try go_simp); (try with_reducible rfl)
      try simp only [Act.put, List.setIfInBounds_toArray, List.set_cons_zero, List.set_cons_succ]
      refine g_take (i := 7) (d := (some 41)) (v := ?_) rfl rfl (by kernel_rfl) (fun _ _ _ h => h) (by rfl) (fun w' hb' => ?_) ?_
      rotate_left
      · (try go_simp); (try with_reducible rfl)
      try simp only [Act.put, List.setIfInBounds_toArray, List.set_cons_zero, List.set_cons_succ]
      refine g_take (i := 8) (d := (some 42)) (v := ?_) rfl rfl (by kernel_rfl) (fun _ _ _ h => h) (by rfl) (fun w' hb' => ?_) ?_
      rotate_left
      · (try go_simp); (try with_reducible rfl)
      try simp only [Act.put, List.setIfInBounds_toArray, List.set_cons_zero, List.set_cons_succ]
      refine g_take (i := 9) (d := (some 43)) (v := ?_) rfl rfl (by kernel_rfl) (fun _ _ _ h => h) (by rfl) (fun w' hb' => ?_) ?_
      rotate_left
      · have c0 := (hb'.cell (p := ⟨qb, qo + k * 3, none⟩) hqx).trans D0; have c1 := (hb'.cell (p := ⟨qb, qo + k * 3 + 1, none⟩) hqx).trans D1; have c2 := (hb'.cell (p := ⟨qb, qo + k * 3 + 2, none⟩) hqx).trans D2; (try go_simp); (try with_reducible rfl)
      try simp only [Act.put, List.setIfInBounds_toArray, List.set_cons_zero, List.set_cons_succ]
      refine g_take (i := 10) (d := (some 44)) (v := ?_) rfl rfl (by kernel_rfl) (fun _ _ _ h => h) (by rfl) (fun w' hb' => ?_) ?_
      rotate_left
      · (try go_simp); (try with_reducible rfl)
      try simp only [Act.put, List.setIfInBounds_toArray, List.set_cons_zero, List.set_cons_succ]
      refine g_done (by kernel_rfl) ?_
      go_wp2_with fail
      exact ⟨⟨k + 1, by omega, by push_cast; rfl, bel.drew⟩, by simp [intOf]; omega⟩
    · have hk2 : k = l.length := by omega
      subst hk2
      go_wp2_with fail
      go_ret
      exact ⟨rfl, chain B0 bel⟩
/-- What comes back is marks, to be read, and an error's number. -/
def GivesMM (w : World) (m : Ms) (code : Nat) (e : Ending) (w' : World) : Prop := ∃ a n c, e = .returned (.tuple #[mV m (.slice a n c), .int .i64 (code : Int)]) ∧ RdM w' m (.slice a n c) ∧ Below w.heap.size w w'
theorem rdt_three {w w' : World} {B : Nat} {x y : Int} {a : Option Addr} {n c : Nat} {T : TypeId} {v : Value} {l : List Vt} (h0 : w.heap[B]? = some (.cells #[.int .i64 x, .int .i64 y, .slice a n c] T (0, 0))) (g : w.grownBy w' (some B)) (r : RdT w v l) : RdT w' v l := by
  obtain ⟨ao, cap, rfl, h1, h2, h3, h4⟩ := r
  refine ⟨ao, cap, rfl, h1, h2, h3, fun hl => ?_⟩
  obtain ⟨b, off, rfl, hb, hc⟩ := h4 hl
  have hne : b ≠ B := by
    rintro rfl
    have e0 := hc 0 (by omega)
    have e1 := hc 1 (by omega)
    have e2 := hc 2 (by omega)
    cases l with
    | nil => simp at hl
    | cons y r =>
      simp [vtC, World.cell?, h0] at e0 e1 e2
      rcases off with _ | _ | _ | off <;> simp at e0 e1 e2
  refine ⟨b, off, rfl, Nat.lt_of_lt_of_le hb g.size, fun k hk => ?_⟩
  rw [← hc k hk]
  simp only [World.cell?]
  rw [g.block b hb (fun e => hne (by injection e))]
set_option maxHeartbeats 2000000 in
theorem move_any (m : Ms) (v : Value) (lo ro : Int) (w : World) (h : RdM w m v) (hl : m.l.length ≤ 1000) : Calls Try.prog 16 #[mV m v, .int .i64 lo, .int .i64 ro] w (GivesMM w (moveR m lo ro) (moveE m lo ro)) := by
  obtain ⟨ao, len, cap, rfl⟩ := rdt_val h.l
  have MY0 := fun w' (g : Below w.heap.size w w') => may_any m _ w' (h.below g (Nat.le_refl _))
  have MO0 := fun w' (g : Below w.heap.size w w') => moved_any m _ lo ro w' (h.below g (Nat.le_refl _)) hl
  have DU0 := fun w => due_any lo w
  have NL0 := fun w => isNum_any lo w
  have NR0 := fun w => isNum_any ro w
  have HB := Lib.hid h.b
  have HR0 : moveR m lo ro = if moveE m lo ro = 0 then ⟨lo, ro, laterL m.l lo⟩ else ms0 := rfl
  have HE0 : moveE m lo ro = if (mayM m && (dueB lo && (numB lo && numB ro))) = false then 1 else if lo ≤ m.low then 18 else 0 := rfl
  obtain ⟨R, hR⟩ : ∃ R, R = moveR m lo ro := ⟨_, rfl⟩
  obtain ⟨E, hE⟩ : ∃ E, E = moveE m lo ro := ⟨_, rfl⟩
  rw [← hR, ← hE] at HR0
  rw [← hE] at HE0
  rw [← hR, ← hE]
  obtain ⟨Z, hZ⟩ : ∃ Z, Z = GivesMM w R E := ⟨_, rfl⟩
  rw [← hZ]
  have HZ := Lib.hid hZ
  obtain ⟨M, hM⟩ : ∃ M, M = mayM m := ⟨_, rfl⟩
  obtain ⟨D, hD⟩ : ∃ D, D = dueB lo := ⟨_, rfl⟩
  obtain ⟨L, hL⟩ : ∃ L, L = numB lo := ⟨_, rfl⟩
  obtain ⟨RR, hRR⟩ : ∃ L, L = numB ro := ⟨_, rfl⟩
  have HL := Lib.hid hL
  have HDP := Lib.hid (show D = true → 0 < lo from fun e => by rw [hD] at e; unfold dueB at e; simp at e; exact e.1)
  rw [← hM] at MY0
  rw [← hM, ← hD, ← hL, ← hRR] at HE0
  rw [← hD] at DU0
  rw [← hL] at NL0
  rw [← hRR] at NR0
  have HEE := Lib.hid HE0
  have HRE := Lib.hid HR0
  clear hR hE hZ hM hD hL hRR HE0 HR0
  obtain ⟨low, root, l⟩ := m
  unfold mV at MY0 MO0 ⊢
  simp only at MY0 MO0 HB HEE HRE hl ⊢
  have MY := Lib.hid MY0
  have MO := Lib.hid MO0
  have DU := Lib.hid DU0
  have NL := Lib.hid NL0
  have NR := Lib.hid NR0
  obtain ⟨q0, q1, -, -⟩ := two_allocs w (.cells #[.int .i64 low, .int .i64 root, .slice ao len cap] 24) (.cells #[.int .i64 0, .int .i64 0, .slice none 0 0] 24)
  have bel := ((Below.refl w.heap.size w).alloc (Nat.le_refl _) (.cells #[.int .i64 low, .int .i64 root, .slice ao len cap] 24)).alloc (by simp) (.cells #[.int .i64 0, .int .i64 0, .slice none 0 0] 24)
  obtain ⟨d0, d1, d2, df⟩ := block_cells3 q0
  obtain ⟨z0, z1, z2, zf⟩ := block_cells3 q1
  clear h hl MY0 MO0 DU0 NL0 NR0
  cases M with
  | false =>
    have HE := Lib.hid (show E = 1 by rw [HEE.out]; rfl)
    have HRZ := Lib.hid (show R = ms0 by rw [HRE.out, if_neg (by rw [HE.out]; decide)])
    go_enter Try.func16, Try.ntmps16
    go_wp2_with (first | ((with_reducible refine (MY.out _ bel).mono ?_); rintro e w1 ⟨rfl, g⟩; (clear d0 d1 d2 df z0 z1 z2 zf); (replace q0 := (g.block _ (lt_of_block q0)).trans q0); (replace q1 := (g.block _ (lt_of_block q1)).trans q1); (replace bel := chain bel g); clear g; (obtain ⟨d0, d1, d2, df⟩ := block_cells3 q0); (obtain ⟨z0, z1, z2, zf⟩ := block_cells3 q1)) | ((with_reducible refine (DU.out _).mono ?_); rintro e w2 ⟨rfl, rfl⟩) | ((with_reducible refine (NL.out _).mono ?_); rintro e w2 ⟨rfl, rfl⟩) | ((with_reducible refine (NR.out _).mono ?_); rintro e w2 ⟨rfl, rfl⟩))
    have QZ := Lib.hid (set3_new (u0 := .int .i64 0) (u1 := .int .i64 0) (u2 := .slice none 0 0) q1)
    have FB := Lib.hid (below_grownN bel (set3_grown (w := _) (B := w.heap.size + 1) (u0 := .int .i64 0) (u1 := .int .i64 0) (u2 := .slice none 0 0)) bel.size (fun q e => by injection e with e; omega))
    (try simp only [Exit.inBlock, Exit.then])
    refine bodyPost_ret (results_cell_row_tmp rfl _ _ _ 24 _ (0, 0) _ rfl QZ.out Try.underlying24 rfl marks_size) rfl ?_
    show Z (.returned _) _
    rw [HZ.out, HRZ.out]
    exact ⟨none, 0, 0, by rw [HE.out]; rfl, rdm0 _, FB.out⟩
  | true =>
    cases D with
    | false =>
      have HE := Lib.hid (show E = 1 by rw [HEE.out]; rfl)
      have HRZ := Lib.hid (show R = ms0 by rw [HRE.out, if_neg (by rw [HE.out]; decide)])
      go_enter Try.func16, Try.ntmps16
      go_wp2_with (first | ((with_reducible refine (MY.out _ bel).mono ?_); rintro e w1 ⟨rfl, g⟩; (clear d0 d1 d2 df z0 z1 z2 zf); (replace q0 := (g.block _ (lt_of_block q0)).trans q0); (replace q1 := (g.block _ (lt_of_block q1)).trans q1); (replace bel := chain bel g); clear g; (obtain ⟨d0, d1, d2, df⟩ := block_cells3 q0); (obtain ⟨z0, z1, z2, zf⟩ := block_cells3 q1)) | ((with_reducible refine (DU.out _).mono ?_); rintro e w2 ⟨rfl, rfl⟩) | ((with_reducible refine (NL.out _).mono ?_); rintro e w2 ⟨rfl, rfl⟩) | ((with_reducible refine (NR.out _).mono ?_); rintro e w2 ⟨rfl, rfl⟩))
      have QZ := Lib.hid (set3_new (u0 := .int .i64 0) (u1 := .int .i64 0) (u2 := .slice none 0 0) q1)
      have FB := Lib.hid (below_grownN bel (set3_grown (w := _) (B := w.heap.size + 1) (u0 := .int .i64 0) (u1 := .int .i64 0) (u2 := .slice none 0 0)) bel.size (fun q e => by injection e with e; omega))
      (try simp only [Exit.inBlock, Exit.then])
      refine bodyPost_ret (results_cell_row_tmp rfl _ _ _ 24 _ (0, 0) _ rfl QZ.out Try.underlying24 rfl marks_size) rfl ?_
      show Z (.returned _) _
      rw [HZ.out, HRZ.out]
      exact ⟨none, 0, 0, by rw [HE.out]; rfl, rdm0 _, FB.out⟩
    | true =>
      cases L with
      | false =>
        have HE := Lib.hid (show E = 1 by rw [HEE.out]; rfl)
        have HRZ := Lib.hid (show R = ms0 by rw [HRE.out, if_neg (by rw [HE.out]; decide)])
        go_enter Try.func16, Try.ntmps16
        go_wp2_with (first | ((with_reducible refine (MY.out _ bel).mono ?_); rintro e w1 ⟨rfl, g⟩; (clear d0 d1 d2 df z0 z1 z2 zf); (replace q0 := (g.block _ (lt_of_block q0)).trans q0); (replace q1 := (g.block _ (lt_of_block q1)).trans q1); (replace bel := chain bel g); clear g; (obtain ⟨d0, d1, d2, df⟩ := block_cells3 q0); (obtain ⟨z0, z1, z2, zf⟩ := block_cells3 q1)) | ((with_reducible refine (DU.out _).mono ?_); rintro e w2 ⟨rfl, rfl⟩) | ((with_reducible refine (NL.out _).mono ?_); rintro e w2 ⟨rfl, rfl⟩) | ((with_reducible refine (NR.out _).mono ?_); rintro e w2 ⟨rfl, rfl⟩))
        have QZ := Lib.hid (set3_new (u0 := .int .i64 0) (u1 := .int .i64 0) (u2 := .slice none 0 0) q1)
        have FB := Lib.hid (below_grownN bel (set3_grown (w := _) (B := w.heap.size + 1) (u0 := .int .i64 0) (u1 := .int .i64 0) (u2 := .slice none 0 0)) bel.size (fun q e => by injection e with e; omega))
        (try simp only [Exit.inBlock, Exit.then])
        refine bodyPost_ret (results_cell_row_tmp rfl _ _ _ 24 _ (0, 0) _ rfl QZ.out Try.underlying24 rfl marks_size) rfl ?_
        show Z (.returned _) _
        rw [HZ.out, HRZ.out]
        exact ⟨none, 0, 0, by rw [HE.out]; rfl, rdm0 _, FB.out⟩
      | true =>
        cases RR with
        | false =>
          have HE := Lib.hid (show E = 1 by rw [HEE.out]; rfl)
          have HRZ := Lib.hid (show R = ms0 by rw [HRE.out, if_neg (by rw [HE.out]; decide)])
          go_enter Try.func16, Try.ntmps16
          go_wp2_with (first | ((with_reducible refine (MY.out _ bel).mono ?_); rintro e w1 ⟨rfl, g⟩; (clear d0 d1 d2 df z0 z1 z2 zf); (replace q0 := (g.block _ (lt_of_block q0)).trans q0); (replace q1 := (g.block _ (lt_of_block q1)).trans q1); (replace bel := chain bel g); clear g; (obtain ⟨d0, d1, d2, df⟩ := block_cells3 q0); (obtain ⟨z0, z1, z2, zf⟩ := block_cells3 q1)) | ((with_reducible refine (DU.out _).mono ?_); rintro e w2 ⟨rfl, rfl⟩) | ((with_reducible refine (NL.out _).mono ?_); rintro e w2 ⟨rfl, rfl⟩) | ((with_reducible refine (NR.out _).mono ?_); rintro e w2 ⟨rfl, rfl⟩))
          have QZ := Lib.hid (set3_new (u0 := .int .i64 0) (u1 := .int .i64 0) (u2 := .slice none 0 0) q1)
          have FB := Lib.hid (below_grownN bel (set3_grown (w := _) (B := w.heap.size + 1) (u0 := .int .i64 0) (u1 := .int .i64 0) (u2 := .slice none 0 0)) bel.size (fun q e => by injection e with e; omega))
          (try simp only [Exit.inBlock, Exit.then])
          refine bodyPost_ret (results_cell_row_tmp rfl _ _ _ 24 _ (0, 0) _ rfl QZ.out Try.underlying24 rfl marks_size) rfl ?_
          show Z (.returned _) _
          rw [HZ.out, HRZ.out]
          exact ⟨none, 0, 0, by rw [HE.out]; rfl, rdm0 _, FB.out⟩
        | true =>
          by_cases hc : lo ≤ low
          · skip
            have HE := Lib.hid (show E = 18 by rw [HEE.out, if_neg (by decide), if_pos hc])
            have HRZ := Lib.hid (show R = ms0 by rw [HRE.out, if_neg (by rw [HE.out]; decide)])
            go_enter Try.func16, Try.ntmps16
            go_wp2_with (first | ((with_reducible refine (MY.out _ bel).mono ?_); rintro e w1 ⟨rfl, g⟩; (clear d0 d1 d2 df z0 z1 z2 zf); (replace q0 := (g.block _ (lt_of_block q0)).trans q0); (replace q1 := (g.block _ (lt_of_block q1)).trans q1); (replace bel := chain bel g); clear g; (obtain ⟨d0, d1, d2, df⟩ := block_cells3 q0); (obtain ⟨z0, z1, z2, zf⟩ := block_cells3 q1)) | ((with_reducible refine (DU.out _).mono ?_); rintro e w2 ⟨rfl, rfl⟩) | ((with_reducible refine (NL.out _).mono ?_); rintro e w2 ⟨rfl, rfl⟩) | ((with_reducible refine (NR.out _).mono ?_); rintro e w2 ⟨rfl, rfl⟩))
            have QZ := Lib.hid (set3_new (u0 := .int .i64 0) (u1 := .int .i64 0) (u2 := .slice none 0 0) q1)
            have FB := Lib.hid (below_grownN bel (set3_grown (w := _) (B := w.heap.size + 1) (u0 := .int .i64 0) (u1 := .int .i64 0) (u2 := .slice none 0 0)) bel.size (fun q e => by injection e with e; omega))
            (try simp only [Exit.inBlock, Exit.then])
            refine bodyPost_ret (results_cell_row_tmp rfl _ _ _ 24 _ (0, 0) _ rfl QZ.out Try.underlying24 rfl marks_size) rfl ?_
            show Z (.returned _) _
            rw [HZ.out, HRZ.out]
            exact ⟨none, 0, 0, by rw [HE.out]; rfl, rdm0 _, FB.out⟩
          · skip
            have HE := Lib.hid (show E = 0 by rw [HEE.out, if_neg (by decide), if_neg hc])
            have HRZ := Lib.hid (show R = ⟨lo, ro, laterL l lo⟩ by rw [HRE.out, if_pos HE.out])
            go_enter Try.func16, Try.ntmps16
            go_wp2_with (first | ((with_reducible refine (MY.out _ bel).mono ?_); rintro e w1 ⟨rfl, g⟩; (clear d0 d1 d2 df z0 z1 z2 zf); (replace q0 := (g.block _ (lt_of_block q0)).trans q0); (replace q1 := (g.block _ (lt_of_block q1)).trans q1); (replace bel := chain bel g); clear g; (obtain ⟨d0, d1, d2, df⟩ := block_cells3 q0); (obtain ⟨z0, z1, z2, zf⟩ := block_cells3 q1)) | ((with_reducible refine (DU.out _).mono ?_); rintro e w2 ⟨rfl, rfl⟩) | ((with_reducible refine (NL.out _).mono ?_); rintro e w2 ⟨rfl, rfl⟩) | ((with_reducible refine (NR.out _).mono ?_); rintro e w2 ⟨rfl, rfl⟩) | ((with_reducible refine (MO.out _ bel).mono ?_); rintro e w3 ⟨a9, n9, c9, rfl, rd, g⟩; (simp only [mV]); (clear d0 d1 d2 df z0 z1 z2 zf); (replace q0 := (g.block _ (lt_of_block q0)).trans q0); (replace q1 := (g.block _ (lt_of_block q1)).trans q1); (replace bel := chain bel g); clear g; (obtain ⟨d0, d1, d2, df⟩ := block_cells3 q0); (obtain ⟨z0, z1, z2, zf⟩ := block_cells3 q1)))
            have G3 := set3_grown (w := w3) (B := w.heap.size + 1) (u0 := .int .i64 lo) (u1 := .int .i64 ro) (u2 := .slice a9 n9 c9)
            have QZ := Lib.hid (set3_new (u0 := .int .i64 lo) (u1 := .int .i64 ro) (u2 := .slice a9 n9 c9) q1)
            have FB := Lib.hid (below_grownN bel G3 bel.size (fun q e => by injection e with e; omega))
            have RDF := Lib.hid (rdt_three q1 G3 rd.l)
            have RDB := Lib.hid rd.b
            (try simp only [Exit.inBlock, Exit.then])
            refine bodyPost_ret (results_cell_row_tmp rfl _ _ _ 24 _ (0, 0) _ rfl QZ.out Try.underlying24 rfl marks_size) rfl ?_
            show Z (.returned _) _
            rw [HZ.out, HRZ.out]
            exact ⟨a9, n9, c9, by rw [HE.out]; rfl, ⟨RDF.out, RDB.out⟩, FB.out⟩
set_option maxHeartbeats 2000000 in
theorem refMove_any (m : Ms) (v : Value) (lo ro : Int) (w : World) (h : RdM w m v) (hl : m.l.length ≤ 1000) : Calls Try.prog 17 #[mV m v, .int .i64 lo, .int .i64 ro] w (GivesMM w (moveR m lo ro) (moveE m lo ro)) := by
  obtain ⟨ao, len, cap, rfl⟩ := rdt_val h.l
  have MY0 := fun w' (g : Below w.heap.size w w') => refMay_any m _ w' (h.below g (Nat.le_refl _))
  have MO0 := fun w' (g : Below w.heap.size w w') => later_any _ m.l lo w' (RdT.below h.l g (Nat.le_refl _)) hl
  have DU0 := fun w => refDue_any lo w
  have NL0 := fun w => refNum_any lo w
  have NR0 := fun w => refNum_any ro w
  have HB := Lib.hid h.b
  have HR0 : moveR m lo ro = if moveE m lo ro = 0 then ⟨lo, ro, laterL m.l lo⟩ else ms0 := rfl
  have HE0 : moveE m lo ro = if (mayM m && (dueB lo && (numB lo && numB ro))) = false then 1 else if lo ≤ m.low then 18 else 0 := rfl
  obtain ⟨R, hR⟩ : ∃ R, R = moveR m lo ro := ⟨_, rfl⟩
  obtain ⟨E, hE⟩ : ∃ E, E = moveE m lo ro := ⟨_, rfl⟩
  rw [← hR, ← hE] at HR0
  rw [← hE] at HE0
  rw [← hR, ← hE]
  obtain ⟨Z, hZ⟩ : ∃ Z, Z = GivesMM w R E := ⟨_, rfl⟩
  rw [← hZ]
  have HZ := Lib.hid hZ
  obtain ⟨M, hM⟩ : ∃ M, M = mayM m := ⟨_, rfl⟩
  obtain ⟨D, hD⟩ : ∃ D, D = dueB lo := ⟨_, rfl⟩
  obtain ⟨LB, hL⟩ : ∃ L, L = numB lo := ⟨_, rfl⟩
  obtain ⟨RR, hRR⟩ : ∃ L, L = numB ro := ⟨_, rfl⟩
  have HL := Lib.hid hL
  have HDP := Lib.hid (show D = true → 0 < lo from fun e => by rw [hD] at e; unfold dueB at e; simp at e; exact e.1)
  rw [← hM] at MY0
  rw [← hM, ← hD, ← hL, ← hRR] at HE0
  rw [← hD] at DU0
  rw [← hL] at NL0
  rw [← hRR] at NR0
  have HEE := Lib.hid HE0
  have HRE := Lib.hid HR0
  clear hR hE hZ hM hD hL hRR HE0 HR0
  obtain ⟨low, root, l⟩ := m
  unfold mV at MY0 ⊢
  simp only at MY0 MO0 HB HEE HRE hl ⊢
  have MY := Lib.hid MY0
  have MO := Lib.hid MO0
  have DU := Lib.hid DU0
  have NL := Lib.hid NL0
  have NR := Lib.hid NR0
  obtain ⟨q0, q1, -, -⟩ := two_allocs w (.cells #[.int .i64 low, .int .i64 root, .slice ao len cap] 24) (.cells #[.int .i64 0, .int .i64 0, .slice none 0 0] 24)
  have bel := ((Below.refl w.heap.size w).alloc (Nat.le_refl _) (.cells #[.int .i64 low, .int .i64 root, .slice ao len cap] 24)).alloc (by simp) (.cells #[.int .i64 0, .int .i64 0, .slice none 0 0] 24)
  obtain ⟨d0, d1, d2, df⟩ := block_cells3 q0
  obtain ⟨z0, z1, z2, zf⟩ := block_cells3 q1
  clear h hl MY0 MO0 DU0 NL0 NR0
  cases M with
  | false =>
    have HE := Lib.hid (show E = 1 by rw [HEE.out]; rfl)
    have HRZ := Lib.hid (show R = ms0 by rw [HRE.out, if_neg (by rw [HE.out]; decide)])
    go_enter Try.func17, Try.ntmps17
    go_wp2_with (first | ((with_reducible refine (MY.out _ bel).mono ?_); rintro e w1 ⟨rfl, g⟩; (clear d0 d1 d2 df z0 z1 z2 zf); (replace q0 := (g.block _ (lt_of_block q0)).trans q0); (replace q1 := (g.block _ (lt_of_block q1)).trans q1); (replace bel := chain bel g); clear g; (obtain ⟨d0, d1, d2, df⟩ := block_cells3 q0); (obtain ⟨z0, z1, z2, zf⟩ := block_cells3 q1)) | ((with_reducible refine (DU.out _).mono ?_); rintro e w2 ⟨rfl, rfl⟩) | ((with_reducible refine (NL.out _).mono ?_); rintro e w2 ⟨rfl, rfl⟩) | ((with_reducible refine (NR.out _).mono ?_); rintro e w2 ⟨rfl, rfl⟩))
    have QZ := Lib.hid (set3_new (u0 := .int .i64 0) (u1 := .int .i64 0) (u2 := .slice none 0 0) q1)
    have FB := Lib.hid (below_grownN bel (set3_grown (w := _) (B := w.heap.size + 1) (u0 := .int .i64 0) (u1 := .int .i64 0) (u2 := .slice none 0 0)) bel.size (fun q e => by injection e with e; omega))
    (try simp only [Exit.inBlock, Exit.then])
    refine bodyPost_ret (results_cell_row_tmp rfl _ _ _ 24 _ (0, 0) _ rfl QZ.out Try.underlying24 rfl marks_size) rfl ?_
    show Z (.returned _) _
    rw [HZ.out, HRZ.out]
    exact ⟨none, 0, 0, by rw [HE.out]; rfl, rdm0 _, FB.out⟩
  | true =>
    cases D with
    | false =>
      have HE := Lib.hid (show E = 1 by rw [HEE.out]; rfl)
      have HRZ := Lib.hid (show R = ms0 by rw [HRE.out, if_neg (by rw [HE.out]; decide)])
      go_enter Try.func17, Try.ntmps17
      go_wp2_with (first | ((with_reducible refine (MY.out _ bel).mono ?_); rintro e w1 ⟨rfl, g⟩; (clear d0 d1 d2 df z0 z1 z2 zf); (replace q0 := (g.block _ (lt_of_block q0)).trans q0); (replace q1 := (g.block _ (lt_of_block q1)).trans q1); (replace bel := chain bel g); clear g; (obtain ⟨d0, d1, d2, df⟩ := block_cells3 q0); (obtain ⟨z0, z1, z2, zf⟩ := block_cells3 q1)) | ((with_reducible refine (DU.out _).mono ?_); rintro e w2 ⟨rfl, rfl⟩) | ((with_reducible refine (NL.out _).mono ?_); rintro e w2 ⟨rfl, rfl⟩) | ((with_reducible refine (NR.out _).mono ?_); rintro e w2 ⟨rfl, rfl⟩))
      have QZ := Lib.hid (set3_new (u0 := .int .i64 0) (u1 := .int .i64 0) (u2 := .slice none 0 0) q1)
      have FB := Lib.hid (below_grownN bel (set3_grown (w := _) (B := w.heap.size + 1) (u0 := .int .i64 0) (u1 := .int .i64 0) (u2 := .slice none 0 0)) bel.size (fun q e => by injection e with e; omega))
      (try simp only [Exit.inBlock, Exit.then])
      refine bodyPost_ret (results_cell_row_tmp rfl _ _ _ 24 _ (0, 0) _ rfl QZ.out Try.underlying24 rfl marks_size) rfl ?_
      show Z (.returned _) _
      rw [HZ.out, HRZ.out]
      exact ⟨none, 0, 0, by rw [HE.out]; rfl, rdm0 _, FB.out⟩
    | true =>
      by_cases hL : lo ≤ 2147483647
      · skip
        cases RR with
        | false =>
          have hLv : LB = true := by rw [HL.out]; unfold numB; simp; have := HDP.out rfl; omega
          subst hLv
          have HE := Lib.hid (show E = 1 by rw [HEE.out]; rfl)
          have HRZ := Lib.hid (show R = ms0 by rw [HRE.out, if_neg (by rw [HE.out]; decide)])
          go_enter Try.func17, Try.ntmps17
          go_wp2_with (first | ((with_reducible refine (MY.out _ bel).mono ?_); rintro e w1 ⟨rfl, g⟩; (clear d0 d1 d2 df z0 z1 z2 zf); (replace q0 := (g.block _ (lt_of_block q0)).trans q0); (replace q1 := (g.block _ (lt_of_block q1)).trans q1); (replace bel := chain bel g); clear g; (obtain ⟨d0, d1, d2, df⟩ := block_cells3 q0); (obtain ⟨z0, z1, z2, zf⟩ := block_cells3 q1)) | ((with_reducible refine (DU.out _).mono ?_); rintro e w2 ⟨rfl, rfl⟩) | ((with_reducible refine (NL.out _).mono ?_); rintro e w2 ⟨rfl, rfl⟩) | ((with_reducible refine (NR.out _).mono ?_); rintro e w2 ⟨rfl, rfl⟩))
          have QZ := Lib.hid (set3_new (u0 := .int .i64 0) (u1 := .int .i64 0) (u2 := .slice none 0 0) q1)
          have FB := Lib.hid (below_grownN bel (set3_grown (w := _) (B := w.heap.size + 1) (u0 := .int .i64 0) (u1 := .int .i64 0) (u2 := .slice none 0 0)) bel.size (fun q e => by injection e with e; omega))
          (try simp only [Exit.inBlock, Exit.then])
          refine bodyPost_ret (results_cell_row_tmp rfl _ _ _ 24 _ (0, 0) _ rfl QZ.out Try.underlying24 rfl marks_size) rfl ?_
          show Z (.returned _) _
          rw [HZ.out, HRZ.out]
          exact ⟨none, 0, 0, by rw [HE.out]; rfl, rdm0 _, FB.out⟩
        | true =>
          by_cases hc : lo ≤ low
          · skip
            have hLv : LB = true := by rw [HL.out]; unfold numB; simp; have := HDP.out rfl; omega
            subst hLv
            have HE := Lib.hid (show E = 18 by rw [HEE.out, if_neg (by decide), if_pos hc])
            have HRZ := Lib.hid (show R = ms0 by rw [HRE.out, if_neg (by rw [HE.out]; decide)])
            go_enter Try.func17, Try.ntmps17
            go_wp2_with (first | ((with_reducible refine (MY.out _ bel).mono ?_); rintro e w1 ⟨rfl, g⟩; (clear d0 d1 d2 df z0 z1 z2 zf); (replace q0 := (g.block _ (lt_of_block q0)).trans q0); (replace q1 := (g.block _ (lt_of_block q1)).trans q1); (replace bel := chain bel g); clear g; (obtain ⟨d0, d1, d2, df⟩ := block_cells3 q0); (obtain ⟨z0, z1, z2, zf⟩ := block_cells3 q1)) | ((with_reducible refine (DU.out _).mono ?_); rintro e w2 ⟨rfl, rfl⟩) | ((with_reducible refine (NL.out _).mono ?_); rintro e w2 ⟨rfl, rfl⟩) | ((with_reducible refine (NR.out _).mono ?_); rintro e w2 ⟨rfl, rfl⟩))
            have QZ := Lib.hid (set3_new (u0 := .int .i64 0) (u1 := .int .i64 0) (u2 := .slice none 0 0) q1)
            have FB := Lib.hid (below_grownN bel (set3_grown (w := _) (B := w.heap.size + 1) (u0 := .int .i64 0) (u1 := .int .i64 0) (u2 := .slice none 0 0)) bel.size (fun q e => by injection e with e; omega))
            (try simp only [Exit.inBlock, Exit.then])
            refine bodyPost_ret (results_cell_row_tmp rfl _ _ _ 24 _ (0, 0) _ rfl QZ.out Try.underlying24 rfl marks_size) rfl ?_
            show Z (.returned _) _
            rw [HZ.out, HRZ.out]
            exact ⟨none, 0, 0, by rw [HE.out]; rfl, rdm0 _, FB.out⟩
          · skip
            have hLv : LB = true := by rw [HL.out]; unfold numB; simp; have := HDP.out rfl; omega
            subst hLv
            have HE := Lib.hid (show E = 0 by rw [HEE.out, if_neg (by decide), if_neg hc])
            have HRZ := Lib.hid (show R = ⟨lo, ro, laterL l lo⟩ by rw [HRE.out, if_pos HE.out])
            go_enter Try.func17, Try.ntmps17
            go_wp2_with (first | ((with_reducible refine (MY.out _ bel).mono ?_); rintro e w1 ⟨rfl, g⟩; (clear d0 d1 d2 df z0 z1 z2 zf); (replace q0 := (g.block _ (lt_of_block q0)).trans q0); (replace q1 := (g.block _ (lt_of_block q1)).trans q1); (replace bel := chain bel g); clear g; (obtain ⟨d0, d1, d2, df⟩ := block_cells3 q0); (obtain ⟨z0, z1, z2, zf⟩ := block_cells3 q1)) | ((with_reducible refine (DU.out _).mono ?_); rintro e w2 ⟨rfl, rfl⟩) | ((with_reducible refine (NL.out _).mono ?_); rintro e w2 ⟨rfl, rfl⟩) | ((with_reducible refine (NR.out _).mono ?_); rintro e w2 ⟨rfl, rfl⟩) | ((with_reducible refine (MO.out _ bel).mono ?_); rintro e w3 ⟨v9, rfl, own9, g⟩; (obtain ⟨a9, n9, c9, rfl⟩ := rdt_val (own_rdt own9)); (clear d0 d1 d2 df z0 z1 z2 zf); (replace q0 := (g.block _ (lt_of_block q0)).trans q0); (replace q1 := (g.block _ (lt_of_block q1)).trans q1); (replace bel := chain bel g); clear g; (obtain ⟨d0, d1, d2, df⟩ := block_cells3 q0); (obtain ⟨z0, z1, z2, zf⟩ := block_cells3 q1)))
            have G3 := set3_grown (w := w3) (B := w.heap.size + 1) (u0 := .int .i64 lo) (u1 := .int .i64 ro) (u2 := .slice a9 n9 c9)
            have QZ := Lib.hid (set3_new (u0 := .int .i64 lo) (u1 := .int .i64 ro) (u2 := .slice a9 n9 c9) q1)
            have FB := Lib.hid (below_grownN bel G3 bel.size (fun q e => by injection e with e; omega))
            have RDF := Lib.hid (rdt_three q1 G3 (own_rdt own9))
            (try simp only [Exit.inBlock, Exit.then])
            refine bodyPost_ret (results_cell_row_tmp rfl _ _ _ 24 _ (0, 0) _ rfl QZ.out Try.underlying24 rfl marks_size) rfl ?_
            show Z (.returned _) _
            rw [HZ.out, HRZ.out]
            exact ⟨a9, n9, c9, by rw [HE.out]; rfl, ⟨RDF.out, fun x hx => HB.out x ((List.mem_filter.1 (show x ∈ List.filter _ _ from hx)).1)⟩, FB.out⟩
      · skip
        have hLv : LB = false := by rw [HL.out]; unfold numB; simp; have := HDP.out rfl; omega
        subst hLv
        have HE := Lib.hid (show E = 1 by rw [HEE.out]; rfl)
        have HRZ := Lib.hid (show R = ms0 by rw [HRE.out, if_neg (by rw [HE.out]; decide)])
        go_enter Try.func17, Try.ntmps17
        go_wp2_with (first | ((with_reducible refine (MY.out _ bel).mono ?_); rintro e w1 ⟨rfl, g⟩; (clear d0 d1 d2 df z0 z1 z2 zf); (replace q0 := (g.block _ (lt_of_block q0)).trans q0); (replace q1 := (g.block _ (lt_of_block q1)).trans q1); (replace bel := chain bel g); clear g; (obtain ⟨d0, d1, d2, df⟩ := block_cells3 q0); (obtain ⟨z0, z1, z2, zf⟩ := block_cells3 q1)) | ((with_reducible refine (DU.out _).mono ?_); rintro e w2 ⟨rfl, rfl⟩) | ((with_reducible refine (NL.out _).mono ?_); rintro e w2 ⟨rfl, rfl⟩) | ((with_reducible refine (NR.out _).mono ?_); rintro e w2 ⟨rfl, rfl⟩))
        have QZ := Lib.hid (set3_new (u0 := .int .i64 0) (u1 := .int .i64 0) (u2 := .slice none 0 0) q1)
        have FB := Lib.hid (below_grownN bel (set3_grown (w := _) (B := w.heap.size + 1) (u0 := .int .i64 0) (u1 := .int .i64 0) (u2 := .slice none 0 0)) bel.size (fun q e => by injection e with e; omega))
        (try simp only [Exit.inBlock, Exit.then])
        refine bodyPost_ret (results_cell_row_tmp rfl _ _ _ 24 _ (0, 0) _ rfl QZ.out Try.underlying24 rfl marks_size) rfl ?_
        show Z (.returned _) _
        rw [HZ.out, HRZ.out]
        exact ⟨none, 0, 0, by rw [HE.out]; rfl, rdm0 _, FB.out⟩
end Go.Proofs.Ytgmblgpfgdfnaaa
