/- Marks: slices.SortFunc at marks. Written by wip/tools/gen30h.py. -/
import Derived.Test.YtgmblgpfgdfnaaaQMM29
import Derived.Test.YtgmblgpfgdfnaaaQMM32
import Derived.Shelf.SlSortCmp.WholeK
namespace Go.Proofs.Ytgmblgpfgdfnaaa
open Go Go.RowKit Go.Sort
set_option linter.unusedVariables false
set_option linter.unusedSimpArgs false
set_option maxRecDepth 100000
instance : Inhabited Vt := ⟨vt0⟩
def orZ (x y : Int) : Int := if x = 0 then y else x
theorem or_any (x y : Int) (B : Nat) (w : World) (h0 : w.cell? ⟨B, 0, none⟩ = some (.int .i64 x)) (h1 : w.cell? ⟨B, 1, none⟩ = some (.int .i64 y)) :
    Calls Try.prog 37 #[.slice (some ⟨B, 0, none⟩) 2 2] w fun e w' => e = .returned (.int .i64 (orZ x y)) ∧ w = w' := by
  obtain ⟨R, hR⟩ : ∃ R, R = orZ x y := ⟨_, rfl⟩
  rw [← hR]
  unfold orZ at hR
  have HR := Lib.hid hR
  clear hR
  go_enter Try.func37, Try.ntmps37
  go_wp2_with fail
  go_loopw [8] (fun i wr => ∃ k : Nat, k ≤ 2 ∧ i = .int .i64 (k : Int) ∧ Hid (1 ≤ k → x = 0) ∧ Hid (2 ≤ k → y = 0) ∧ w = wr) (fun i _ => 2 - (intOf i).toNat)
  case atStart => exact ⟨0, by omega, rfl, Lib.hid (fun h => by omega), Lib.hid (fun h => by omega), rfl⟩
  case round =>
    obtain ⟨k, hk, rfl, HX, HY, rfl⟩ := hrel
    match k, hk with
    | 0, _ =>
      by_cases hx : x = 0
      · have g0 : (x == 0) = true := by simpa using hx
        have HX1 := Lib.hid (show 1 ≤ 0 + 1 → x = 0 from fun _ => hx)
        clear hx
        go_wp2_with fail
        exact ⟨⟨1, by omega, rfl, HX1, Lib.hid (fun h => by omega), by first | rfl | trivial⟩, by simp [intOf]⟩
      · have g0 : (x == 0) = false := by simpa using hx
        have HF := Lib.hid (show R = x by rw [HR.out, if_neg hx])
        go_wp2_with fail
        go_ret
        exact ⟨by rw [HF.out]; rfl, by first | rfl | trivial⟩
    | 1, _ =>
      have hx0 := HX.out (Nat.le_refl _)
      have HF := Lib.hid (show R = y by rw [HR.out, if_pos hx0])
      by_cases hy : y = 0
      · have g0 : (y == 0) = true := by simpa using hy
        have HY1 := Lib.hid (show 2 ≤ 2 → y = 0 from fun _ => hy)
        have HX1 := Lib.hid (show 1 ≤ 2 → x = 0 from fun _ => hx0)
        clear hy hx0
        go_wp2_with fail
        exact ⟨⟨2, by omega, rfl, HX1, HY1, by first | rfl | trivial⟩, by simp [intOf]⟩
      · have g0 : (y == 0) = false := by simpa using hy
        clear hx0
        go_wp2_with fail
        go_ret
        exact ⟨by rw [HF.out]; rfl, by first | rfl | trivial⟩
    | 2, _ =>
      have hx0 := HX.out (by omega)
      have hy0 := HY.out (by omega)
      have HF := Lib.hid (show R = 0 by rw [HR.out, if_pos hx0, hy0])
      clear hx0 hy0
      go_wp2_with fail
      go_ret
      exact ⟨by rw [HF.out]; rfl, by first | rfl | trivial⟩
def cfM (x y : Vt) : Int := orZ (cmpZ x.vw y.vw) (cmpZ x.fr y.fr)
theorem lt_ahead (x y : Vt) : ltOf cfM x y = aheadB x y := by
  unfold ltOf cfM orZ cmpZ
  have h := aheadB_iff x y
  cases ha : aheadB x y with
  | true =>
    rw [ha] at h
    have h := h.1 rfl
    rw [decide_eq_true_eq]
    split <;> split <;> (try split) <;> (try split) <;> omega
  | false =>
    rw [ha] at h
    have h : ¬ (x.vw < y.vw ∨ (x.vw = y.vw ∧ x.fr < y.fr)) := fun k => by simpa using h.2 k
    rw [decide_eq_false_iff_not]
    split <;> split <;> (try split) <;> (try split) <;> omega
theorem swoM : SWO (ltOf cfM) := by
  refine ⟨fun x => ?_, fun x y z h k => ?_, fun x y z h k => ?_⟩
  · rw [lt_ahead]; unfold aheadB; simp
  · rw [lt_ahead] at *; exact aheadB_trans h k
  · rw [lt_ahead] at *
    have f : ∀ u v : Vt, aheadB u v = false → ¬ (u.vw < v.vw ∨ (u.vw = v.vw ∧ u.fr < v.fr)) := fun u v e k => by rw [(aheadB_iff u v).2 k] at e; cases e
    have h1 := f _ _ h
    have h2 := f _ _ k
    cases e : aheadB x z with
    | false => rfl
    | true => have := (aheadB_iff x z).1 e; omega
set_option maxHeartbeats 1000000 in
theorem say1_any (x y : Vt) (W : World) : Calls Try.prog 36 #[vtV x, vtV y] W fun e w' => e = .returned (.int .i64 (cfM x y)) ∧ ∃ q os', w' = grow (W.drewN q) os' := by
  obtain ⟨a, b, c⟩ := x
  obtain ⟨a', b', c'⟩ := y
  have CM0 := fun x y w => compare_any x y w
  have CM := Lib.hid CM0
  obtain ⟨R, hR⟩ : ∃ R, R = cfM ⟨a, b, c⟩ ⟨a', b', c'⟩ := ⟨_, rfl⟩
  rw [← hR]
  unfold cfM at hR
  simp only at hR
  obtain ⟨u, hu⟩ : ∃ u, u = cmpZ b b' := ⟨_, rfl⟩
  obtain ⟨t, ht⟩ : ∃ u, u = cmpZ a a' := ⟨_, rfl⟩
  rw [← hu, ← ht] at hR
  have CU := Lib.hid (fun w => hu ▸ compare_any b b' w)
  have CT := Lib.hid (fun w => ht ▸ compare_any a a' w)
  have HR := Lib.hid hR
  unfold vtV
  simp only
  obtain ⟨q0, q1, -, -⟩ := two_allocs W (.cells #[.int .i64 a, .int .i64 b, .int .i64 c] 30) (.cells #[.int .i64 a', .int .i64 b', .int .i64 c'] 30)
  obtain ⟨W2, hW2⟩ : ∃ V, V = (W.alloc (.cells #[.int .i64 a, .int .i64 b, .int .i64 c] 30)).alloc (.cells #[.int .i64 a', .int .i64 b', .int .i64 c'] 30) := ⟨_, rfl⟩
  rw [← hW2] at q0 q1
  have e2 := heap_alloc_new W2 (.cells #[.int .i64 u, .int .i64 t] 3)
  have r0 : ((W2.alloc (.cells #[.int .i64 u, .int .i64 t] 3)).drew).cell? ⟨W2.heap.size, 0, none⟩ = some (.int .i64 u) := by show (W2.alloc _).cell? _ = _; rw [block_cell e2 0]; rfl
  have r1 : ((W2.alloc (.cells #[.int .i64 u, .int .i64 t] 3)).drew).cell? ⟨W2.heap.size, 1, none⟩ = some (.int .i64 t) := by show (W2.alloc _).cell? _ = _; rw [block_cell e2 1]; rfl
  have OR := Lib.hid (or_any u t _ _ r0 r1)
  have HW2 := Lib.hid hW2
  clear hR hu ht CM0 CM e2 r0 r1 hW2
  go_enter Try.func36, Try.ntmps36
  go_wp2_with fail
  rw [← HW2.out]
  refine g_start (by kernel_rfl) ?_
  refine g_take (i := 0) (d := (some 5)) (v := ?_) rfl rfl (by kernel_rfl) (fun _ _ _ h => h) (by rfl) (fun w' hb' => ?_) ?_
  rotate_left
  · (try go_simp); (try with_reducible rfl)
  try simp only [Act.put, List.setIfInBounds_toArray, List.set_cons_zero, List.set_cons_succ]
  refine g_take (i := 1) (d := (some 6)) (v := ?_) rfl rfl (by kernel_rfl) (fun _ _ _ h => h) (by rfl) (fun w' hb' => ?_) ?_
  rotate_left
  · obtain ⟨d0, d1, d2, df⟩ := block_cells3 ((hb'.block _ (lt_of_block q0)).trans q0); (try go_simp); (try with_reducible rfl)
  try simp only [Act.put, List.setIfInBounds_toArray, List.set_cons_zero, List.set_cons_succ]
  refine g_take (i := 2) (d := (some 7)) (v := ?_) rfl rfl (by kernel_rfl) (fun _ _ _ h => h) (by rfl) (fun w' hb' => ?_) ?_
  rotate_left
  · (try go_simp); (try with_reducible rfl)
  try simp only [Act.put, List.setIfInBounds_toArray, List.set_cons_zero, List.set_cons_succ]
  refine g_take (i := 3) (d := (some 8)) (v := ?_) rfl rfl (by kernel_rfl) (fun _ _ _ h => h) (by rfl) (fun w' hb' => ?_) ?_
  rotate_left
  · obtain ⟨e0, e1, e2, ef⟩ := block_cells3 ((hb'.block _ (lt_of_block q1)).trans q1); (try go_simp); (try with_reducible rfl)
  try simp only [Act.put, List.setIfInBounds_toArray, List.set_cons_zero, List.set_cons_succ]
  refine g_take (i := 5) (d := (some 10)) (v := ?_) rfl rfl (by kernel_rfl) (fun _ _ _ h => h) (by rfl) (fun w' hb' => ?_) ?_
  rotate_left
  · (try go_simp); (try with_reducible rfl)
  try simp only [Act.put, List.setIfInBounds_toArray, List.set_cons_zero, List.set_cons_succ]
  refine g_take (i := 6) (d := (some 11)) (v := ?_) rfl rfl (by kernel_rfl) (fun _ _ _ h => h) (by rfl) (fun w' hb' => ?_) ?_
  rotate_left
  · obtain ⟨d0, d1, d2, df⟩ := block_cells3 ((hb'.block _ (lt_of_block q0)).trans q0); (try go_simp); (try with_reducible rfl)
  try simp only [Act.put, List.setIfInBounds_toArray, List.set_cons_zero, List.set_cons_succ]
  refine g_take (i := 7) (d := (some 12)) (v := ?_) rfl rfl (by kernel_rfl) (fun _ _ _ h => h) (by rfl) (fun w' hb' => ?_) ?_
  rotate_left
  · (try go_simp); (try with_reducible rfl)
  try simp only [Act.put, List.setIfInBounds_toArray, List.set_cons_zero, List.set_cons_succ]
  refine g_take (i := 8) (d := (some 13)) (v := ?_) rfl rfl (by kernel_rfl) (fun _ _ _ h => h) (by rfl) (fun w' hb' => ?_) ?_
  rotate_left
  · obtain ⟨e0, e1, e2, ef⟩ := block_cells3 ((hb'.block _ (lt_of_block q1)).trans q1); (try go_simp); (try with_reducible rfl)
  try simp only [Act.put, List.setIfInBounds_toArray, List.set_cons_zero, List.set_cons_succ]
  refine g_run (i := 4) rfl (by kernel_rfl) (by rfl) (fun K hK => ?_)
  go_simp; refine (CU.out _).mono ?_; rintro e w9 ⟨rfl, rfl⟩; refine hK _ _ ⟨Below.refl _ _, ?_⟩; clear hK K
  try simp only [Act.put, List.setIfInBounds_toArray, List.set_cons_zero, List.set_cons_succ]
  refine g_run (i := 9) rfl (by kernel_rfl) (by rfl) (fun K hK => ?_)
  go_simp; refine (CT.out _).mono ?_; rintro e w9 ⟨rfl, rfl⟩; refine hK _ _ ⟨Below.refl _ _, ?_⟩; clear hK K
  try simp only [Act.put, List.setIfInBounds_toArray, List.set_cons_zero, List.set_cons_succ]
  refine g_run (i := 10) rfl (by kernel_rfl) (by rfl) (fun K hK => ?_)
  go_simp; refine hK _ _ ⟨(Below.refl _ _).alloc (Nat.le_refl _) _, ?_⟩; clear hK K
  try simp only [Act.put, List.setIfInBounds_toArray, List.set_cons_zero, List.set_cons_succ]
  refine g_run (i := 11) rfl (by kernel_rfl) (by rfl) (fun K hK => ?_)
  go_simp; with_reducible refine (OR.out).mono ?_; rintro e w9 ⟨rfl, rfl⟩; refine hK _ _ ⟨Below.refl _ _, ?_⟩; clear hK K
  try simp only [Act.put, List.setIfInBounds_toArray, List.set_cons_zero, List.set_cons_succ]
  refine g_take (i := 12) (d := (some 4)) (v := ?_) rfl rfl (by kernel_rfl) (fun _ _ _ h => h) (by rfl) (fun w' hb' => ?_) ?_
  rotate_left
  · (try go_simp); (try with_reducible rfl)
  try simp only [Act.put, List.setIfInBounds_toArray, List.set_cons_zero, List.set_cons_succ]
  refine g_done (by kernel_rfl) ?_
  go_wp2_with fail
  go_ret
  exact ⟨by rw [HR.out]; rfl, 1, _, by rw [HW2.out, alloc_eq_grow, alloc_eq_grow, alloc_eq_grow, grow_grow, grow_grow]; rfl⟩
theorem flat_list (l : List Vt) : (flatK vtC 3 l.toArray).toList = l.flatMap vtC := by
  apply List.ext_getElem?
  intro t
  by_cases ht : t < l.length * 3
  · have h1 := get_flatK vtC 3 l.toArray t (by simpa using ht)
    have hs : t < (flatK vtC 3 l.toArray).size := by simpa using ht
    rw [getElem!_pos _ t hs] at h1
    rw [Array.getElem?_toList, Array.getElem?_eq_getElem hs, h1]
    have hj : t / 3 < l.length := by omega
    have h2 := flat_get vtC_len l (t / 3) (t % 3) hj (by omega)
    rw [show t / 3 * 3 + t % 3 = t by omega] at h2
    rw [h2]
    have h3 : l.toArray[t / 3]! = l[t / 3] := by rw [getElem!_pos l.toArray (t / 3) (by simpa using hj)]; simp
    rw [h3]
    have h4 : t % 3 < (vtC l[t / 3]).length := by rw [vtC_len]; omega
    rw [getElem!_pos (vtC l[t / 3]) (t % 3) h4, List.getElem?_eq_getElem h4]
  · rw [List.getElem?_eq_none (by simp; omega), List.getElem?_eq_none (by rw [flat_len vtC_len]; omega)]
theorem holds_own {w : World} {base g cap : Nat} {l : List Vt} (h : w.ownsRow base 30 3 (.slice (some ⟨g, 0, none⟩) l.length cap) l.length (l.flatMap vtC)) : HoldsK vtC 3 w g 0 l.toArray := by
  intro j hj
  have hj' : j < l.length * 3 := by simpa using hj
  refine ⟨?_, h.frozenAt _⟩
  rw [Nat.zero_add, h.cellAt j hj', ← flat_list, Array.getElem?_toList, Array.getElem?_eq_getElem hj, getElem!_pos _ j hj]
  rfl
theorem heap_sortedK {w : World} {g n : Nat} {os : Array Obj} {cur : Array Value} {e : TypeId} {fr : Nat × Nat} (F : Array Value) (hb : w.heap[g]? = some (.cells cur e fr)) :
    (grow (putRow id (Sort.ahead w n) g 0 F) os).heap[g]? = some (.cells (putCells id 0 F cur) e fr) := by
  have hg : g < w.heap.size := (Array.getElem?_eq_some_iff.1 hb).1
  rw [heap_grow_old _ _ (by simpa using hg)]
  simp [putRow, mapBlock, Sort.ahead, Array.getElem?_modify, hb, onCells]
theorem grownBy_sortedK {w : World} {g n : Nat} {os : Array Obj} (F : Array Value) : w.grownBy (grow (putRow id (Sort.ahead w n) g 0 F) os) (some g) := by
  refine ⟨rfl, rfl, rfl, by simp, fun k hk hne => ?_⟩
  rw [heap_grow_old _ _ (by simpa using hk)]
  have : g ≠ k := fun e => hne (by rw [e])
  simp [putRow, mapBlock, Sort.ahead, Array.getElem?_modify, this]
theorem take_putCellsK (cur F : Array Value) (h : F.size ≤ cur.size) : (putCells id 0 F cur).toList.take F.size = F.toList := by
  apply List.ext_getElem?
  intro j
  by_cases hj : j < F.size
  · rw [List.getElem?_take_of_lt hj, Array.getElem?_toList]
    simp [putCells, hj, show j < cur.size by omega]
  · rw [List.getElem?_take_eq_none (by omega), List.getElem?_eq_none (by simp; omega)]
theorem own_sortedK {w : World} {base g cap n : Nat} {os : Array Obj} {l ts : List Vt} (h : w.ownsRow base 30 3 (.slice (some ⟨g, 0, none⟩) l.length cap) l.length (l.flatMap vtC)) (hl : ts.length = l.length) :
    (sortWorldK vtC 3 w g 0 n ts.toArray os).ownsRow base 30 3 (.slice (some ⟨g, 0, none⟩) l.length cap) l.length (ts.flatMap vtC) := by
  obtain ⟨h1, h2⟩ := h
  refine ⟨by rw [flat_len vtC_len, hl], ?_⟩
  rcases h2 with ⟨h2, _⟩ | ⟨g', cap', cur, h2, h3, h4, h5, h6, h7, h8⟩
  · simp at h2
  · simp only [Value.slice.injEq, Option.some.injEq, Addr.mk.injEq, and_true, true_and] at h2
    obtain ⟨rfl, rfl⟩ := h2
    have hsz : (flatK vtC 3 ts.toArray).size = l.length * 3 := by simp [hl]
    refine .inr ⟨g, cap, putCells id 0 (flatK vtC 3 ts.toArray) cur, rfl, h3, heap_sortedK _ h4, h5, h6, by simp [putCells, h7], ?_⟩
    rw [← hsz, take_putCellsK _ _ (by rw [hsz, h7]; omega), flat_list]
theorem sort_any (base g cap : Nat) (l : List Vt) (w : World) (hown : w.ownsRow base 30 3 (.slice (some ⟨g, 0, none⟩) l.length cap) l.length (l.flatMap vtC)) (hl : l.length ≤ 1000) :
    Calls Try.prog 35 #[.slice (some ⟨g, 0, none⟩) l.length cap, .func (.func 36) #[] #[]] w fun e w' => e = .returned (.tuple #[]) ∧ ∃ ts : List Vt, ts.Perm l ∧ ts.Pairwise (fun a b => aheadB b a = false) ∧ w'.ownsRow base 30 3 (.slice (some ⟨g, 0, none⟩) l.length cap) l.length (ts.flatMap vtC) ∧ w.grownBy w' (some g) := by
  have hc : CmpLays Try.prog 36 #[] vtC 3 cfM g 0 l.toArray.size w := fun m os dk hs x y => say1_any x y _
  have h := AnyQ.slices_SortFunc Try.sortMark 3 Try.isAgg30 Try.sizeOf30 vtC vtC_len vtC_one cfM swoM 36 #[] g 0 cap l.toArray w (enters_of Try.func36 (by kernel_rfl) rfl) hc (holds_own hown) (hown.lt g rfl).2 (by simp; omega)
  change Calls Try.prog 35 _ _ _ at h
  rw [show l.toArray.size = l.length by simp] at h
  refine h.mono ?_
  rintro e w' ⟨rfl, d', n, os, hp, hs, rfl⟩
  obtain ⟨p1, p2, p3⟩ := hp
  have hlen : d'.toList.length = l.length := by simpa using p1
  refine ⟨rfl, d'.toList, ?_, ?_, ?_, ?_⟩
  · have e1 : (d'.extract 0 l.length).toList = d'.toList := by
      rw [show l.length = d'.size by simpa using p1.symm]; simp
    have e2 : (l.toArray.extract 0 l.length).toList = l := by simp
    rw [e1, e2] at p3
    exact p3
  · rw [List.pairwise_iff_getElem]
    intro i j hi hj hij
    have := hs i j (Nat.zero_le _) hij (by omega)
    rw [lt_ahead, getElem!_pos d' j (by simpa using hj), getElem!_pos d' i (by simpa using hi)] at this
    simpa using this
  · have := own_sortedK (n := n) (os := os) (ts := d'.toList) hown hlen
    simpa using this
  · exact grownBy_sortedK _
end Go.Proofs.Ytgmblgpfgdfnaaa
