/- Clash: Ahead: those ahead of each with which it clashes. Written by wip/tools/gen23h.py. -/
import Derived.Test.YtjmfiekgpoonjaaDoorQLGC18
namespace Go.Proofs.YtjmfiekgpoonjaaDoor
open Go Go.RowKit
attribute [local go_sem] Oper.semAt_some
set_option linter.unusedVariables false
set_option linter.unusedSimpArgs false
def iv (n : Nat) : Value := .int .i64 (n : Int)
/-- A list of lists of numbers is read. -/
def RdR (w : World) (v : Value) (ls : List (List Nat)) : Prop :=
  ∃ vs : List Value, RdV w v vs ∧ vs.length = ls.length ∧ ∀ t, t < ls.length → (∃ a n c, vs.getD t undef = .slice a n c) ∧ RdV w (vs.getD t undef) ((ls.getD t []).map iv)
theorem RdR.below {w w' : World} {v : Value} {ls : List (List Nat)} (h : RdR w v ls) {B : Nat} (g : Below B w w') (hB : w.heap.size ≤ B) : RdR w' v ls := by
  obtain ⟨vs, h1, h2, h3⟩ := h
  exact ⟨vs, h1.below g hB, h2, fun t ht => ⟨(h3 t ht).1, (h3 t ht).2.below g hB⟩⟩
def GivesA (w : World) (ls : List (List Nat)) (e : Ending) (w' : World) : Prop := ∃ a n c, e = .returned (.tuple #[.slice a n c, .int .i64 0]) ∧ RdR w' (.slice a n c) ls ∧ Below w.heap.size w w'
theorem intinfo : (Tryd.prog.info? 3).map (fun i => (i.zero, i.size, i.bytes)) = some (some (.int .i64 0), 1, 8) := by kernel_rfl
/-- A block of slices is read. -/
theorem rdv_block {w : World} {B N : Nat} {vs : List Value} {T : TypeId} (h : w.heap[B]? = some (.cells vs.toArray T (0, 0))) (hN : vs.length = N) (hm : N ≤ 64) : RdV w (.slice (some ⟨B, 0, none⟩) N N) vs := by
  subst hN
  refine ⟨_, vs.length, rfl, Nat.le_refl _, by unfold maxLen; omega, by simp, fun h0 => ⟨B, 0, rfl, lt_of_block h, fun i hi => ?_⟩⟩
  rw [Nat.zero_add, block_cell h i]; simp
/-- What the loop of Ahead keeps. -/
def InvA (w : World) (B : Nat) (lv : Value) (N : Nat) (L : List Wt) (pre : List (Pr N)) (W : World) : Prop :=
  ∃ vs, Boxed W w.heap.size 28 lv ∧ Boxed W (B + 1) 30 (.slice (some ⟨B, 0, none⟩) N N) ∧ Rws W (B + 3) B 34 3 iv (stL L pre) vs ∧ Below w.heap.size w W ∧ B + 3 ≤ W.heap.size
theorem InvA.from (w : World) (B : Nat) (lv : Value) (N : Nat) (L : List Wt) (B' : Nat) (hB : w.heap.size ≤ B') : OwnFrom B' (InvA w B lv N L) := by
  rintro s X Y row ⟨vs, h0, h4, hr, hb, hz⟩ hg hrow
  have nc : ∀ {C : Nat} {cs : Array Value} {t : TypeId}, X.heap[C]? = some (.cells cs t (0, 0)) → some C ≠ row := by
    intro C cs t hx e
    obtain ⟨_, o, ho, hc⟩ := hrow C e.symm
    rw [hx] at ho; cases ho; cases hc
  refine ⟨vs, h0.kept hg (nc h0), h4.kept hg (nc h4), hr.kept hg (nc hr.block) (fun t ht => ?_), hb.grown hg hb.size (fun j e => Nat.le_trans hB (hrow j e).1), Nat.le_trans hz hg.size⟩
  rcases (hr.row t ht).2 with ⟨e, _⟩ | ⟨g, cap, cur, e, _, hgb, _⟩
  · rw [e]; exact .inl rfl
  · rw [e]; exact .inr (nc hgb)
theorem InvA.rd {w : World} {B : Nat} {lv : Value} {N : Nat} {L : List Wt} {pre : List (Pr N)} {W : World} (h : InvA w B lv N L pre W) (hN : N ≤ 64) : RdR W (.slice (some ⟨B, 0, none⟩) N N) (stL L pre) := by
  obtain ⟨vs, -, -, hr, -⟩ := h
  have e : vs.length = N := by rw [hr.len, stL_len]
  exact ⟨vs, rdv_block hr.block e hN, hr.len, fun t ht => ⟨own_val (hr.row t ht), own_rdv (hr.row t ht)⟩⟩
theorem intsinfo : (Tryd.prog.info? 34).map (fun i => (i.zero, i.size, i.bytes)) = some (some (.slice none 0 0), 1, 24) := by kernel_rfl
theorem made_one (z : Value) (n : Nat) : madeCells #[z] n = Array.replicate n z := by
  apply Array.ext'
  rw [toList_madeCells_one, Array.toList_replicate]
/-- 'make([][]int, n)'. -/
theorem make_rows (n : Nat) (hn : n ≤ 64) (u : World) : (Instr.makeSlice 30 (.int .i64 (n : Int)) (.int .i64 (n : Int))).run Tryd.prog u = .ok (.slice (some ⟨u.heap.size, 0, none⟩) n n) (u.alloc (.cells (Array.replicate n (.slice none 0 0)) 34)) := by
  obtain ⟨i0, hi, hz0, hz1, hz2⟩ := info_parts intsinfo
  have h := run_make (P := Tryd.prog) u 30 34 i0 (.slice none 0 0) Tryd.underlying30 hi hz0 .i64 .i64 (n : Int) (n : Int) (by omega) (by omega) (by rw [hz2]; omega) (by omega)
  rw [hz1] at h
  simp only [Int.toNat_natCast, Nat.mul_one, Value.cells] at h
  rw [made_one] at h
  exact h
theorem aheadF_no (v : Value) (ps : List WV) (L : List Wt) (w : World) (tab : TabAt w) (h : RdL w v ps L) (hz : SzL L) (hall : allB L = false) :
    Calls Tryd.prog 13 #[v] w fun e w' => e = .returned (.tuple #[.slice none 0 0, .int .i64 1]) ∧ Below w.heap.size w w' := by
  obtain ⟨ao, cap, rfl, hc1, hc2, hr⟩ := h.open
  have A1 := fun W (g : Below w.heap.size w W) => all_any (.slice ao L.length cap) ps L W (tab.below g) (hr.below g (Nat.le_refl _)) hz
  rw [hall] at A1
  have H1 := Lib.hid A1
  have bel := (Below.refl w.heap.size w).alloc (Nat.le_refl _) (.cells #[.slice ao L.length cap] 28)
  clear A1 h hr hz tab hall
  go_enter Tryd.func13, Tryd.ntmps13
  go_wp2_with ((with_reducible refine (H1.out _ bel).mono ?_); rintro e w1 ⟨rfl, g⟩; have bel := chain bel g; clear g)
  go_ret2
  exact ⟨rfl, bel⟩
set_option maxRecDepth 100000 in
set_option maxHeartbeats 2000000 in
theorem aheadF_yes (v : Value) (ps : List WV) (L : List Wt) (w : World) (tab : TabAt w) (h : RdL w v ps L) (hz : SzL L) (hall : allB L = true) :
    Calls Tryd.prog 13 #[v] w (GivesA w (ahL L L.length)) := by
  refine (callsIn_wide (n := 7)).1 ?_
  obtain ⟨i0, hi, hz0, hz1, hz2⟩ := info_parts intinfo
  obtain ⟨ao, cap, rfl, hc1, hc2, hr⟩ := h.open
  have h64 : L.length ≤ 64 := by unfold allB at hall; rw [Bool.and_eq_true, decide_eq_true_eq] at hall; exact hall.1
  have A1 := fun W (g : Below w.heap.size w W) => all_any (.slice ao L.length cap) ps L W (tab.below g) (hr.below g (Nat.le_refl _)) hz
  rw [hall] at A1
  have H1 := Lib.hid A1
  have CL := Lib.hid (fun i (hi : i < L.length) j (hj : j < L.length) W (g : Below w.heap.size w W) => cclash_any (.slice (ps.getD i wv0).a1 (ps.getD i wv0).n1 (ps.getD i wv0).c1) (.slice (ps.getD i wv0).a2 (ps.getD i wv0).n2 (ps.getD i wv0).c2) (.slice (ps.getD j wv0).a1 (ps.getD j wv0).n1 (ps.getD j wv0).c1) (.slice (ps.getD j wv0).a2 (ps.getD j wv0).n2 (ps.getD j wv0).c2) (L.getD i wt0) (L.getD j wt0) W (tab.below g) ((hr.el i hi).below g).1 ((hr.el i hi).below g).2 ((hr.el j hj).below g).1 ((hr.el j hj).below g).2 (hz i hi) (hz j hj))
  have HRD := Lib.hid hr
  have q1 := heap_alloc_new w (.cells #[.slice ao L.length cap] 28)
  have bel := (Below.refl w.heap.size w).alloc (Nat.le_refl _) (.cells #[.slice ao L.length cap] 28)
  obtain ⟨N, hN⟩ : ∃ N, N = L.length := ⟨_, rfl⟩
  rw [← hN] at h64 hc1 q1 bel H1 ⊢
  have HN := Lib.hid hN
  have hmk := make_rows N h64
  have c1 := block_cell q1 0
  simp only [List.getElem?_toArray, List.getElem?_cons_zero] at c1
  clear A1 h hr hz tab hall
  refine callsIn_of_wp_marks Tryd.func13 rfl trivial ?_ rfl
  simp only [Tryd.ntmps13, List.size_toArray, List.length_cons, List.length_nil, Nat.reduceAdd, Nat.reduceSub, Array.replicate_succ, Array.replicate_zero, List.push_toArray, List.append_toArray, List.nil_append, List.cons_append]
  clear hN
  gi_wp2_with (first | (refine ⟨trivial, ?_⟩; gi_at_call 41; refine (callsIn_wide.2 (H1.out _ bel)).mono ?_; rintro e w1 ⟨rfl, g⟩; have bel := chain bel g; have q1 := (g.block _ (lt_of_block q1)).trans q1; have c1 := block_cell q1 0; simp only [List.getElem?_toArray, List.getElem?_cons_zero] at c1; have hl1 := lt_of_block q1; clear g) | (refine ⟨trivial, ?_⟩; gi_at_call 42; refine (callsIn_wide.2 (pairs_any N _)).mono ?_; rintro e w9 ⟨rfl, rfl⟩))
  have bel3 := ((bel.alloc bel.size (.cells (Array.replicate N (.slice none 0 0)) 34)).alloc (by have := bel.size; simp; omega) (.cells #[.slice (some ⟨w1.heap.size, 0, none⟩) N N] 30)).alloc (by have := bel.size; simp; omega) (.cells #[.int .i64 (N : Int)] 3)
  obtain ⟨W0, hW0⟩ : ∃ W0, W0 = ((w1.alloc (.cells (Array.replicate N (.slice none 0 0)) 34)).alloc (.cells #[.slice (some ⟨w1.heap.size, 0, none⟩) N N] 30)).alloc (.cells #[.int .i64 (N : Int)] 3) := ⟨_, rfl⟩
  have z0 : W0.heap.size = w1.heap.size + 3 := by rw [hW0]; simp
  obtain ⟨p1, p2, p3, -⟩ := two_allocs w1 (.cells (Array.replicate N (.slice none 0 0)) 34) (.cells #[.slice (some ⟨w1.heap.size, 0, none⟩) N N] 30)
  have bR : W0.heap[w1.heap.size]? = some (.cells (Array.replicate N (.slice none 0 0)) 34 (0, 0)) := by rw [hW0, heap_alloc_old _ _ (lt_of_block p1)]; exact p1
  have b4 : Boxed W0 (w1.heap.size + 1) 30 (.slice (some ⟨w1.heap.size, 0, none⟩) N N) := by
    show W0.heap[_]? = _
    rw [hW0, heap_alloc_old _ _ (lt_of_block p2)]; exact p2
  have bn : Boxed W0 (w1.heap.size + 1 + 1) 3 (.int .i64 (N : Int)) := by
    have := Boxed.new ((w1.alloc (.cells (Array.replicate N (.slice none 0 0)) 34)).alloc (.cells #[.slice (some ⟨w1.heap.size, 0, none⟩) N N] 30)) 3 (.int .i64 (N : Int))
    rw [p3] at this
    rw [hW0]; exact this
  have b0 : Boxed W0 w.heap.size 28 (.slice ao N cap) := by
    show W0.heap[_]? = _
    rw [hW0, heap_alloc_old _ _ (by rw [p3]; omega), heap_alloc_old _ _ (by simp; omega), heap_alloc_old _ _ (by omega)]; exact q1
  rw [← hW0] at bel3 ⊢
  have Z0 := Lib.hid z0
  have HB3 := Lib.hid bel3
  clear p1 p2 p3 hW0 z0 hmk bel q1 c1
  refine range_law rfl (by decide) (gf := 61) (lb := #[.pointer (some ⟨w1.heap.size + 1 + 1, 0, none⟩)]) rfl trivial (enters_of Tryd.func61 (by kernel_rfl) rfl) (fun _ => rfl)
    (pairs_gives (7 - 1) (by decide) (w1.heap.size + 1 + 1) N h64 W0 bn)
    (fun A B h => by rw [h]; exact KeepsFrom.refl _ _) (fun _ _ => trivial) (fun _ _ _ _ _ _ _ _ => trivial)
    (InvA w w1.heap.size (.slice ao N cap) N L) (fun _ _ _ => False) (InvA.from _ _ _ _ _ _ (by rw [Z0.out]; omega)) (fun _ _ _ _ _ h _ _ => h) (fun _ _ _ h e => by rw [← e]; exact h) (fun _ _ _ _ h _ => h)
    ⟨_, b0, b4, Rws.new bR, bel3, by rw [Z0.out]; omega⟩
    (fun x => { tmps := #[.slice ao N cap, .pointer (some ⟨w.heap.size, 0, none⟩), .slice none 0 0, .int .i64 0, .pointer (some ⟨w1.heap.size + 1, 0, none⟩), .int .i64 (x.i : Int), .int .i64 (x.j : Int), .slice ao N cap, .bool true, .bool false, .slice ao N cap, .int .i64 (N : Int), .slice (some ⟨w1.heap.size, 0, none⟩) N N, .slice ao N cap, .int .i64 (N : Int), .func (.func 61) #[] #[.pointer (some ⟨w1.heap.size + 1 + 1, 0, none⟩)], .int .i64 (x.i : Int), .int .i64 (x.j : Int), undef, undef, undef, undef, undef, undef, undef, undef, undef, undef, undef, undef, undef, undef, undef, undef, undef, undef, undef, undef], defers := [] }) ?assign ?body ?done ?stop
  case assign =>
    intro l x W K hK
    gi_wp2
    exact hK
  case body =>
    rintro l pre x W ⟨vs, hb0, hb4, hr, hbl, hWz⟩ hlt
    have hxi := x.hi
    have hxj := x.hj
    have hLN := HN.out
    obtain ⟨b, off, hao, hb, s0, s1⟩ := rdl_cells (HRD.out.below hbl (Nat.le_refl _)).row x.i (by rw [HRD.out.len]; omega)
    obtain ⟨b', off', hao', -, d0, d1⟩ := rdl_cells (HRD.out.below hbl (Nat.le_refl _)).row x.j (by rw [HRD.out.len]; omega)
    rw [hao] at hao'
    cases hao'
    subst hao
    have CL0 := fun W' (g : Below W.heap.size W W') => CL.out x.i (by omega) x.j (by omega) W' (chain hbl g)
    obtain ⟨R, hR⟩ : ∃ R, R = clB (L.getD x.i wt0) (L.getD x.j wt0) := ⟨_, rfl⟩
    rw [← hR] at CL0
    have HR := Lib.hid (show R = clN L x.i x.j from hR)
    obtain ⟨pi, hpi⟩ : ∃ p, p = ps.getD x.i wv0 := ⟨_, rfl⟩
    obtain ⟨pj, hpj⟩ : ∃ p, p = ps.getD x.j wv0 := ⟨_, rfl⟩
    rw [← hpi] at s0 s1 CL0
    rw [← hpj] at d0 d1 CL0
    have CLI := Lib.hid CL0
    have cB0 := hb0.cell
    have hl0 := hb0.lt
    have hi1 : (x.i : Int) < (N : Int) := by omega
    have hj1 : (x.j : Int) < (N : Int) := by omega
    have hj2 : x.j < N := by omega
    have HST := Lib.hid (stL_snoc L pre x)
    have HRW := Lib.hid hr
    have hlen := stL_row L pre x.i
    have hil : x.i < (stL L pre).length := by rw [stL_len]; exact hxi
    clear hR hpi hpj CL0 hLN hr
    cases R with
    | false =>
      have E := Lib.hid (show stL L (pre ++ [x]) = stL L pre by rw [HST.out, stP, ← HR.out]; simp)
      gi_wp2
      refine i_start (ro := some l) (by rintro ⟨_, _, h⟩; exact h) (by kernel_rfl) (by kernel_rfl) ?_
      refine g_take (i := 0) (d := (some 18)) (v := ?_) rfl rfl (by kernel_rfl) (fun _ _ _ h => h) (by rfl) (fun w' hb' => ?_) ?_
      rotate_left
      · have z := (hb'.cell (p := ⟨w.heap.size, 0, none⟩) hl0).trans cB0; (try go_simp); (try with_reducible rfl)
      try simp only [Act.put, List.setIfInBounds_toArray, List.set_cons_zero, List.set_cons_succ]
      refine g_take (i := 1) (d := (some 19)) (v := ?_) rfl rfl (by kernel_rfl) (fun _ _ _ h => h) (by rfl) (fun w' hb' => ?_) ?_
      rotate_left
      · (try go_simp); (try with_reducible rfl)
      try simp only [Act.put, List.setIfInBounds_toArray, List.set_cons_zero, List.set_cons_succ]
      refine g_take (i := 2) (d := (some 20)) (v := ?_) rfl rfl (by kernel_rfl) (fun _ _ _ h => h) (by rfl) (fun w' hb' => ?_) ?_
      rotate_left
      · (try go_simp); (try with_reducible rfl)
      try simp only [Act.put, List.setIfInBounds_toArray, List.set_cons_zero, List.set_cons_succ]
      refine g_take (i := 3) (d := (some 21)) (v := ?_) rfl rfl (by kernel_rfl) (fun _ _ _ h => h) (by rfl) (fun w' hb' => ?_) ?_
      rotate_left
      · have z0 := (hb'.cell (p := ⟨b, off + x.i * 2, none⟩) hb).trans s0; have z1 := (hb'.cell (p := ⟨b, off + x.i * 2 + 1, none⟩) hb).trans s1; (try go_simp); (try with_reducible rfl)
      try simp only [Act.put, List.setIfInBounds_toArray, List.set_cons_zero, List.set_cons_succ]
      refine g_take (i := 4) (d := (some 22)) (v := ?_) rfl rfl (by kernel_rfl) (fun _ _ _ h => h) (by rfl) (fun w' hb' => ?_) ?_
      rotate_left
      · have z := (hb'.cell (p := ⟨w.heap.size, 0, none⟩) hl0).trans cB0; (try go_simp); (try with_reducible rfl)
      try simp only [Act.put, List.setIfInBounds_toArray, List.set_cons_zero, List.set_cons_succ]
      refine g_take (i := 5) (d := (some 23)) (v := ?_) rfl rfl (by kernel_rfl) (fun _ _ _ h => h) (by rfl) (fun w' hb' => ?_) ?_
      rotate_left
      · (try go_simp); (try with_reducible rfl)
      try simp only [Act.put, List.setIfInBounds_toArray, List.set_cons_zero, List.set_cons_succ]
      refine g_take (i := 6) (d := (some 24)) (v := ?_) rfl rfl (by kernel_rfl) (fun _ _ _ h => h) (by rfl) (fun w' hb' => ?_) ?_
      rotate_left
      · (try go_simp); (try with_reducible rfl)
      try simp only [Act.put, List.setIfInBounds_toArray, List.set_cons_zero, List.set_cons_succ]
      refine g_take (i := 7) (d := (some 25)) (v := ?_) rfl rfl (by kernel_rfl) (fun _ _ _ h => h) (by rfl) (fun w' hb' => ?_) ?_
      rotate_left
      · have z0 := (hb'.cell (p := ⟨b, off + x.j * 2, none⟩) hb).trans d0; have z1 := (hb'.cell (p := ⟨b, off + x.j * 2 + 1, none⟩) hb).trans d1; (try go_simp); (try with_reducible rfl)
      try simp only [Act.put, List.setIfInBounds_toArray, List.set_cons_zero, List.set_cons_succ]
      refine g_run (i := 8) rfl (by kernel_rfl) (by rfl) (fun K hK => ?_)
      go_simp; refine (CLI.out _ (Below.drew (Below.refl _ _))).mono ?_; rintro e w2 ⟨rfl, g⟩; have gg := Below.trans (Below.drew (Below.refl W.heap.size W)) g; refine hK _ _ ⟨g, ?_⟩; clear hK K g
      try simp only [Act.put, List.setIfInBounds_toArray, List.set_cons_zero, List.set_cons_succ]
      refine g_done (by kernel_rfl) ?_
      gi_wp2
      refine ⟨KeepsFrom.of_grownBy (row := none) ⟨gg.os, gg.tape, gg.output, gg.size, fun k hk _ => gg.block k hk⟩ (fun j e => by cases e), trivial, vs, ?_, ?_, ?_, chain hbl gg, Nat.le_trans hWz gg.size⟩
      · exact (gg.block _ hb0.lt).trans hb0
      · exact (gg.block _ hb4.lt).trans hb4
      · rw [E.out]; exact HRW.out.below gg
    | true =>
      have E := Lib.hid (show stL L (pre ++ [x]) = (stL L pre).set x.i ((stL L pre).getD x.i [] ++ [x.j]) by rw [HST.out, stP, ← HR.out]; simp)
      gi_wp2
      refine i_start (ro := some l) (by rintro ⟨_, _, h⟩; exact h) (by kernel_rfl) (by kernel_rfl) ?_
      refine g_take (i := 0) (d := (some 18)) (v := ?_) rfl rfl (by kernel_rfl) (fun _ _ _ h => h) (by rfl) (fun w' hb' => ?_) ?_
      rotate_left
      · have z := (hb'.cell (p := ⟨w.heap.size, 0, none⟩) hl0).trans cB0; (try go_simp); (try with_reducible rfl)
      try simp only [Act.put, List.setIfInBounds_toArray, List.set_cons_zero, List.set_cons_succ]
      refine g_take (i := 1) (d := (some 19)) (v := ?_) rfl rfl (by kernel_rfl) (fun _ _ _ h => h) (by rfl) (fun w' hb' => ?_) ?_
      rotate_left
      · (try go_simp); (try with_reducible rfl)
      try simp only [Act.put, List.setIfInBounds_toArray, List.set_cons_zero, List.set_cons_succ]
      refine g_take (i := 2) (d := (some 20)) (v := ?_) rfl rfl (by kernel_rfl) (fun _ _ _ h => h) (by rfl) (fun w' hb' => ?_) ?_
      rotate_left
      · (try go_simp); (try with_reducible rfl)
      try simp only [Act.put, List.setIfInBounds_toArray, List.set_cons_zero, List.set_cons_succ]
      refine g_take (i := 3) (d := (some 21)) (v := ?_) rfl rfl (by kernel_rfl) (fun _ _ _ h => h) (by rfl) (fun w' hb' => ?_) ?_
      rotate_left
      · have z0 := (hb'.cell (p := ⟨b, off + x.i * 2, none⟩) hb).trans s0; have z1 := (hb'.cell (p := ⟨b, off + x.i * 2 + 1, none⟩) hb).trans s1; (try go_simp); (try with_reducible rfl)
      try simp only [Act.put, List.setIfInBounds_toArray, List.set_cons_zero, List.set_cons_succ]
      refine g_take (i := 4) (d := (some 22)) (v := ?_) rfl rfl (by kernel_rfl) (fun _ _ _ h => h) (by rfl) (fun w' hb' => ?_) ?_
      rotate_left
      · have z := (hb'.cell (p := ⟨w.heap.size, 0, none⟩) hl0).trans cB0; (try go_simp); (try with_reducible rfl)
      try simp only [Act.put, List.setIfInBounds_toArray, List.set_cons_zero, List.set_cons_succ]
      refine g_take (i := 5) (d := (some 23)) (v := ?_) rfl rfl (by kernel_rfl) (fun _ _ _ h => h) (by rfl) (fun w' hb' => ?_) ?_
      rotate_left
      · (try go_simp); (try with_reducible rfl)
      try simp only [Act.put, List.setIfInBounds_toArray, List.set_cons_zero, List.set_cons_succ]
      refine g_take (i := 6) (d := (some 24)) (v := ?_) rfl rfl (by kernel_rfl) (fun _ _ _ h => h) (by rfl) (fun w' hb' => ?_) ?_
      rotate_left
      · (try go_simp); (try with_reducible rfl)
      try simp only [Act.put, List.setIfInBounds_toArray, List.set_cons_zero, List.set_cons_succ]
      refine g_take (i := 7) (d := (some 25)) (v := ?_) rfl rfl (by kernel_rfl) (fun _ _ _ h => h) (by rfl) (fun w' hb' => ?_) ?_
      rotate_left
      · have z0 := (hb'.cell (p := ⟨b, off + x.j * 2, none⟩) hb).trans d0; have z1 := (hb'.cell (p := ⟨b, off + x.j * 2 + 1, none⟩) hb).trans d1; (try go_simp); (try with_reducible rfl)
      try simp only [Act.put, List.setIfInBounds_toArray, List.set_cons_zero, List.set_cons_succ]
      refine g_run (i := 8) rfl (by kernel_rfl) (by rfl) (fun K hK => ?_)
      go_simp; refine (CLI.out _ (Below.drew (Below.refl _ _))).mono ?_; rintro e w2 ⟨rfl, g⟩; have gg := Below.trans (Below.drew (Below.refl W.heap.size W)) g; refine hK _ _ ⟨g, ?_⟩; clear hK K g
      try simp only [Act.put, List.setIfInBounds_toArray, List.set_cons_zero, List.set_cons_succ]
      refine g_done (by kernel_rfl) ?_
      have hr2 : Rws w2.drew (w1.heap.size + 3) w1.heap.size 34 3 iv (stL L pre) vs := (HRW.out.below gg).below (Below.drew (Below.refl _ _))
      have hrow := hr2.row x.i hil
      obtain ⟨av, nv, cv, ev⟩ := own_val hrow
      have HE : vs.toArray[x.i]? = some (.slice av nv cv) := by
        rw [← ev]
        have : x.i < vs.length := by rw [hr2.len]; exact hil
        simp [List.getD, this]
      rw [ev] at hrow
      have hs2 := gg.size
      have hb4l := hb4.lt
      obtain ⟨v3, w3, hrun, hown', hg3, -, hq⟩ := run_append_own_at (P := Tryd.prog) (w2.drew.alloc (.cells #[.int .i64 (x.j : Int)] 3)) (w1.heap.size + 3) 34 34 3 i0 (.int .i64 0) 1 8 Tryd.underlying34 hi hz0 hz1 hz2 rfl (by decide) (.slice av nv cv) _ _ (hrow.alloc _) ⟨w2.heap.size, 0, none⟩ 1 1 [iv x.j] rfl (cell_one_new _ _ _) (by simp [Value.oneCell', iv]) (by unfold maxLen; omega) (by omega) (by simp; omega)
      obtain ⟨a3, n3, k3, e3⟩ := own_val hown'
      subst e3
      have SH : w2.drew.heap[w1.heap.size + 1]? = some (.cells #[.slice (some ⟨w1.heap.size, 0, none⟩) N N] 30 (0, 0)) ∧ w2.drew.heap[w1.heap.size]? = some (.cells vs.toArray 34 (0, 0)) := ⟨(gg.block _ hb4.lt).trans hb4, hr2.block⟩
      have SA : (w2.drew.alloc (.cells #[.int .i64 (x.j : Int)] 3)).heap[w1.heap.size + 1]? = some (.cells #[.slice (some ⟨w1.heap.size, 0, none⟩) N N] 30 (0, 0)) ∧ (w2.drew.alloc (.cells #[.int .i64 (x.j : Int)] 3)).heap[w1.heap.size]? = some (.cells vs.toArray 34 (0, 0)) := by
        rw [heap_alloc_old _ _ (lt_of_block SH.1), heap_alloc_old _ _ (lt_of_block SH.2)]; exact SH
      have SB : w3.heap[w1.heap.size + 1]? = some (.cells #[.slice (some ⟨w1.heap.size, 0, none⟩) N N] 30 (0, 0)) ∧ w3.heap[w1.heap.size]? = some (.cells vs.toArray 34 (0, 0)) := by
        have nr : ∀ g, g < w1.heap.size + 3 → some g ≠ (Value.slice av nv cv).ownBlock := fun g hg e => by have := (hrow.lt g e.symm).1; omega
        rw [hg3.block _ (lt_of_block SA.1) (nr _ (by omega)), hg3.block _ (lt_of_block SA.2) (nr _ (by omega))]; exact SA
      gi_wp2
      refine j_start (ro := some l) 10 (fun w' => w'.heap[w1.heap.size + 1]? = some (.cells #[.slice (some ⟨w1.heap.size, 0, none⟩) N N] 30 (0, 0)) ∧ w'.heap[w1.heap.size]? = some (.cells vs.toArray 34 (0, 0))) (by rintro ⟨_, _, h⟩; exact h) (by kernel_rfl) (by kernel_rfl) ?_
      refine v_take (i := 0) (d := (some 27)) (v := ?_) rfl rfl (by kernel_rfl) (fun _ _ _ h => h) (by rfl) SH (fun w' hb' => ?_) ?_
      rotate_left
      · have z := block_cell hb'.1 0; simp only [List.getElem?_toArray, List.getElem?_cons_zero] at z; (try go_simp); (try with_reducible rfl)
      try simp only [Act.put, List.setIfInBounds_toArray, List.set_cons_zero, List.set_cons_succ]
      refine v_take (i := 1) (d := (some 28)) (v := ?_) rfl rfl (by kernel_rfl) (fun _ _ _ h => h) (by rfl) SH (fun w' hb' => ?_) ?_
      rotate_left
      · (try go_simp); (try with_reducible rfl)
      try simp only [Act.put, List.setIfInBounds_toArray, List.set_cons_zero, List.set_cons_succ]
      refine v_take (i := 2) (d := (some 29)) (v := ?_) rfl rfl (by kernel_rfl) (fun _ _ _ h => h) (by rfl) SH (fun w' hb' => ?_) ?_
      rotate_left
      · have z := block_cell hb'.1 0; simp only [List.getElem?_toArray, List.getElem?_cons_zero] at z; (try go_simp); (try with_reducible rfl)
      try simp only [Act.put, List.setIfInBounds_toArray, List.set_cons_zero, List.set_cons_succ]
      refine v_take (i := 3) (d := (some 30)) (v := ?_) rfl rfl (by kernel_rfl) (fun _ _ _ h => h) (by rfl) SH (fun w' hb' => ?_) ?_
      rotate_left
      · (try go_simp); (try with_reducible rfl)
      try simp only [Act.put, List.setIfInBounds_toArray, List.set_cons_zero, List.set_cons_succ]
      refine v_take (i := 4) (d := (some 31)) (v := ?_) rfl rfl (by kernel_rfl) (fun _ _ _ h => h) (by rfl) SH (fun w' hb' => ?_) ?_
      rotate_left
      · (try go_simp); (try with_reducible rfl)
      try simp only [Act.put, List.setIfInBounds_toArray, List.set_cons_zero, List.set_cons_succ]
      refine v_take (i := 5) (d := (some 32)) (v := ?_) rfl rfl (by kernel_rfl) (fun _ _ _ h => h) (by rfl) SH (fun w' hb' => ?_) ?_
      rotate_left
      · have z := (block_cell hb'.2 (x.i)).trans HE; (try go_simp); (try with_reducible rfl)
      try simp only [Act.put, List.setIfInBounds_toArray, List.set_cons_zero, List.set_cons_succ]
      refine v_take (i := 6) (d := (some 33)) (v := ?_) rfl rfl (by kernel_rfl) (fun _ _ _ h => h) (by rfl) SH (fun w' hb' => ?_) ?_
      rotate_left
      · (try go_simp); (try with_reducible rfl)
      try simp only [Act.put, List.setIfInBounds_toArray, List.set_cons_zero, List.set_cons_succ]
      refine v_run (i := 7) rfl (by kernel_rfl) (by kernel_rfl) (by rfl) (fun K hK => ?_)
      go_simp; refine hK _ _ ⟨SA, ?_⟩; clear hK K SH; have SH := SA
      try simp only [Act.put, List.setIfInBounds_toArray, List.set_cons_zero, List.set_cons_succ]
      refine v_run (i := 8) rfl (by kernel_rfl) (by kernel_rfl) (by rfl) (fun K hK => ?_)
      refine op_append (.tmp 32) (.tmp 34) 34 34 rfl rfl _ _ (.slice a3 n3 k3) w3 rfl rfl hrun ?_; refine hK _ _ ⟨SB, ?_⟩; clear hK K SH; have SH := SB
      try simp only [Act.put, List.setIfInBounds_toArray, List.set_cons_zero, List.set_cons_succ]
      refine v_take (i := 9) (d := (some 36)) (v := ?_) rfl rfl (by kernel_rfl) (fun _ _ _ h => h) (by rfl) SH (fun w' hb' => ?_) ?_
      rotate_left
      · (try go_simp); (try with_reducible rfl)
      try simp only [Act.put, List.setIfInBounds_toArray, List.set_cons_zero, List.set_cons_succ]
      refine v_last (i := 10) rfl (by kernel_rfl) (by kernel_rfl) (by kernel_rfl) (by rfl) (fun K hK => ?_)
      have z := (block_cell SB.2 (x.i)).trans HE; have fz := block_frozen SB.2 (x.i); go_simp; refine hK _ _ ?_; clear hK K
      gi_wp2
      have g5 := chain gg (Below.drew (Below.refl w2.heap.size w2))
      have hne : ∀ {C : Nat}, C < w1.heap.size + 3 → some C ≠ (Value.slice av nv cv).ownBlock := fun hC e => by have := (hrow.lt _ e.symm).1; omega
      have hal : (w2.drew.alloc (.cells #[.int .i64 (x.j : Int)] 3)).heap.size = w2.heap.size + 1 := by simp
      have b9 : Below w.heap.size w w3 := grown_below ((chain hbl g5).alloc (chain hbl g5).size (.cells #[.int .i64 (x.j : Int)] 3)) (Nat.le_refl _) (own_base (hrow.alloc (.cells #[.int .i64 (x.j : Int)] 3)) (by omega)) hg3
      refine ⟨((KeepsFrom.of_grownBy (row := none) ⟨g5.os, g5.tape, g5.output, g5.size, fun k hk _ => g5.block k hk⟩ (fun j e => by cases e)).trans ((KeepsOthers.alloc w2.drew (.cells #[.int .i64 (x.j : Int)] 3)).from _)).trans (((KeepsOthers.of_grownBy hg3 (fun j o ej hj => ?_)).from _).trans ((KeepsOthers.setCell w3 ⟨w1.heap.size, x.i, none⟩ _).from _)), trivial, vs.set x.i (.slice a3 n3 k3), ?_, ?_, ?_, b9.setCell (p := ⟨w1.heap.size, x.i, none⟩) (Nat.le_of_lt hl1) _, ?_⟩
      · rcases (hrow.alloc (.cells #[.int .i64 (x.j : Int)] 3)).2 with ⟨e, _⟩ | ⟨g, cap, cur, e, _, hgb, _⟩
        · rw [e] at ej; cases ej
        · rw [e] at ej
          have e9 : g = j := by simpa [Value.ownBlock] using ej
          rw [← e9, hgb] at hj; cases hj; rfl
      · show (World.setCell w3 ⟨w1.heap.size, x.i, none⟩ _).heap[w.heap.size]? = _
        rw [set_old (by omega), hg3.block _ (by rw [hal]; omega) (hne (by omega)), heap_alloc_old _ _ (by have := hb0.lt; show _ < w2.heap.size; omega)]
        exact (gg.block _ hb0.lt).trans hb0
      · show (World.setCell w3 ⟨w1.heap.size, x.i, none⟩ _).heap[w1.heap.size + 1]? = _
        rw [set_old (by omega)]
        exact SB.1
      · rw [E.out]
        rw [← ev] at hg3 hq
        exact hr2.push hil _ (by have := lt_of_block hr2.block; exact this) hown' hg3 hq
      · have := hg3.size
        simp at this ⊢; omega
  case done =>
    rintro D ys W hD rfl hI hK
    have hI2 := hI
    obtain ⟨vs, hb0, hb4, hr, hbl, hWz⟩ := hI2
    have hc := hb4.cell
    have FR := InvA.from w w1.heap.size (.slice ao N cap) N L W0.heap.size (by rw [Z0.out]; omega)
    gi_wp2
    refine ⟨by simp, .inl ⟨_, _, rfl, run_takeDeferred hK, ?_⟩⟩
    have hP := FR.putObj (.deferred none) hI hD hK rfl
    refine ⟨.tuple #[.slice (some ⟨w1.heap.size, 0, none⟩) N N, .int .i64 0], by simp [results, Tryd.results13, go_sem], some ⟨w1.heap.size, 0, none⟩, N, N, rfl, ?_, ?_⟩
    · rw [← st_end L]
      exact hP.rd h64
    · obtain ⟨_, -, -, -, b9, -⟩ := hP
      exact b9
  case stop =>
    rintro D c pre W _ _ h _
    exact h.elim
end Go.Proofs.YtjmfiekgpoonjaaDoor
