/- Choose: the closure of at. Written by wip/tools/gen31i.py. -/
import Derived.Test.YtgmblgpfgdfnaaaQMM35
import Derived.Test.YtgmblgpfgdfnaaaQMM36
import Derived.Deep.CutRange
namespace Go.Proofs.Ytgmblgpfgdfnaaa
open Go Go.RowKit
set_option linter.unusedVariables false
set_option linter.unusedSimpArgs false
set_option maxRecDepth 100000

/-- What is chosen so far, and its view. -/
def choA (seq : Int) (o : Option Ce) : Array Value := match o with
  | none => #[.int .i64 seq, .int .i64 0, .string (str []), .bool true]
  | some b => #[.int .i64 seq, .int .i64 b.tm, .string (str b.body), .bool false]
def viewO (o : Option Ce) : Int := match o with
  | none => 0
  | some b => b.vw
def stepO (seq : Int) (o : Option Ce) (x : Ce) : Option Ce := if x.sq = seq then (match o with
  | none => some x
  | some b => if b.vw < x.vw then some x else some b) else o
theorem best_snoc : ∀ (l : List Ce) (o : Option Ce) (x : Ce), bestS (l ++ [x]) o = (match bestS l o with
  | none => some x
  | some b => if b.vw < x.vw then some x else some b)
  | [], none, x => rfl
  | [], some b, x => by show bestS [x] (some b) = _; unfold bestS; unfold bestS; rfl
  | c :: r, none, x => by
    show bestS (c :: (r ++ [x])) none = _
    unfold bestS
    exact best_snoc r (some c) x
  | c :: r, some b, x => by
    show bestS (c :: (r ++ [x])) (some b) = _
    unfold bestS
    exact best_snoc r _ x
/-- The choice among the certificates seen so far. -/
def pickO (seq : Int) (l : List Ce) : Option Ce := bestS (l.filter fun x => decide (x.sq = seq)) none
theorem pick_snoc (seq : Int) (l : List Ce) (x : Ce) : pickO seq (l ++ [x]) = stepO seq (pickO seq l) x := by
  unfold pickO stepO
  rw [List.filter_append]
  by_cases h : x.sq = seq
  · rw [if_pos h]
    have : [x].filter (fun x => decide (x.sq = seq)) = [x] := by simp [h]
    rw [this, best_snoc]
  · rw [if_neg h]
    have : [x].filter (fun x => decide (x.sq = seq)) = [] := by simp [h]
    rw [this, List.append_nil]
theorem at_all (l : List Cg) (seq : Int) : atL l seq = (allC l).filter fun x => decide (x.sq = seq) := by
  unfold atL allC
  induction l with
  | nil => rfl
  | cons c r ih => rw [List.flatMap_cons, List.flatMap_cons, List.filter_append, ih]
/-- Only these two blocks have changed. -/
def Grew2 (O V : Nat) (w w' : World) : Prop := ∃ m, w.grownBy m (some O) ∧ m.grownBy w' (some V)
theorem Grew2.below {O V B : Nat} {w0 w w' : World} (h : Grew2 O V w w') (hb : Below B w0 w) (hO : B ≤ O) (hV : B ≤ V) (hB : B ≤ w.heap.size) : Below B w0 w' := by
  obtain ⟨m, h1, h2⟩ := h
  exact (hb.grown h1 hB (fun k e => by injection e with e; omega)).grown h2 (Nat.le_trans hB h1.size) (fun k e => by injection e with e; omega)
theorem Grew2.block {O V k : Nat} {w w' : World} (h : Grew2 O V w w') (hk : k < w.heap.size) (h1 : k ≠ O) (h2 : k ≠ V) : w'.heap[k]? = w.heap[k]? := by
  obtain ⟨m, g1, g2⟩ := h
  rw [g2.block k (Nat.lt_of_lt_of_le hk g1.size) (by simpa using h2), g1.block k hk (by simpa using h1)]
theorem Grew2.size {O V : Nat} {w w' : World} (h : Grew2 O V w w') : w.heap.size ≤ w'.heap.size := by
  obtain ⟨m, g1, g2⟩ := h
  exact Nat.le_trans g1.size g2.size
theorem Grew2.keeps {O V B : Nat} {w w' : World} (h : Grew2 O V w w') (h1 : O < B) (h2 : V < B) : KeepsFrom B w w' :=
  ⟨h.size, fun k o hk ho _ => (h.block (lt_of_block ho) (by omega) (by omega)).trans ho⟩
theorem grew_none {O V : Nat} {w w' : World} (h : Below w.heap.size w w') : Grew2 O V w w' := ⟨w', grown_none h, grown_reflB⟩
theorem block_cells1 {w : World} {B : Nat} {a0 : Value} {t : TypeId} (h : w.heap[B]? = some (.cells #[a0] t (0, 0))) : w.cell? ⟨B, 0, none⟩ = some a0 ∧ ∀ i, w.frozen? ⟨B, i, none⟩ = false := by
  refine ⟨?_, ?_⟩
  all_goals simp [World.cell?, World.frozen?, h]
set_option maxHeartbeats 2000000 in
theorem better_any (x : Ce) (seq : Int) (o : Option Ce) (S O V : Nat) (w : World) (hS : w.heap[S]? = some (.cells #[.int .i64 seq] 3 (0, 0))) (hO : w.heap[O]? = some (.cells (choA seq o) 63 (0, 0))) (hV : w.heap[V]? = some (.cells #[.int .i64 (viewO o)] 3 (0, 0))) (hSO : S ≠ O) (hSV : S ≠ V) (hOV : O ≠ V) :
    Calls Try.prog 60 #[ceV x, .pointer (some ⟨S, 0, none⟩), .pointer (some ⟨O, 0, none⟩), .pointer (some ⟨V, 0, none⟩)] w fun e w' => e = .returned (.tuple #[]) ∧ w'.heap[O]? = some (.cells (choA seq (stepO seq o x)) 63 (0, 0)) ∧ w'.heap[V]? = some (.cells #[.int .i64 (viewO (stepO seq o x))] 3 (0, 0)) ∧ Grew2 O V w w' := by
  obtain ⟨a, b, c, d, ⟨va, vn, vk⟩⟩ := x
  unfold ceV stepO
  simp only
  obtain ⟨D, hD⟩ : ∃ D, D = str d := ⟨_, rfl⟩
  have HD := Lib.hid hD
  rw [← hD]
  clear hD
  obtain ⟨W1, hW1⟩ : ∃ W, W = w.alloc (.cells #[.int .i64 a, .int .i64 b, .int .i64 c, .string D, .slice va vn vk] 58) := ⟨_, rfl⟩
  have x1 := heap_alloc_new w (.cells #[.int .i64 a, .int .i64 b, .int .i64 c, .string D, .slice va vn vk] 58)
  have bx := (Below.refl w.heap.size w).alloc (Nat.le_refl _) (.cells #[.int .i64 a, .int .i64 b, .int .i64 c, .string D, .slice va vn vk] 58)
  have s1 := (bx.block _ (lt_of_block hS)).trans hS
  have o1 := (bx.block _ (lt_of_block hO)).trans hO
  have v1 := (bx.block _ (lt_of_block hV)).trans hV
  have lS := lt_of_block hS
  have lO := lt_of_block hO
  have lV := lt_of_block hV
  clear hS hO hV
  rw [← hW1] at x1 bx s1 o1 v1
  have lW : w.heap.size < W1.heap.size := lt_of_block x1
  obtain ⟨e0, e1, e2, e3, e4, ef⟩ := block_cells5 x1
  obtain ⟨s0, sf⟩ := block_cells1 s1
  obtain ⟨v0, vf⟩ := block_cells1 v1
  have BX := Lib.hid bx
  have HW := Lib.hid hW1
  clear bx hW1
  by_cases hq : a = seq
  · rw [if_pos hq]
    subst hq
    cases o with
    | none =>
      unfold viewO at v0 v1
      unfold choA at o1
      simp only at o1 v0 v1
      obtain ⟨o0, oo1, oo2, oo3, of⟩ := block_cells4 o1
      have HO1 := Lib.hid o1
      have HV1 := Lib.hid v1
      clear o1 v1 s1 x1
      go_enter Try.func60, Try.ntmps60
      go_upto_region 1 with (fail)
      rw [← HW.out]
      go_wp2_with fail
      go_end0
      refine ⟨rfl, ?_, ?_, ?_⟩
      · rw [set_old hOV]
        show _ = some (Obj.cells #[.int .i64 a, .int .i64 c, .string (str d), .bool false] _ _)
        rw [← HD.out]
        exact set4_new HO1.out
      · show _ = some (Obj.cells #[.int .i64 b] _ _)
        simpa using set_at (i := 0) (u := .int .i64 b) ((set4_old (Ne.symm hOV)).trans HV1.out)
      · exact ⟨_, grown_setB (grown_setB (grown_setB (grown_setB (grown_none BX.out)))), grown_setB grown_reflB⟩
    | some o =>
      obtain ⟨oa, ob, oc, od, ov⟩ := o
      unfold viewO at v0 v1
      unfold choA at o1
      simp only at o1 v0 v1
      obtain ⟨E, hE⟩ : ∃ E, E = str od := ⟨_, rfl⟩
      rw [← hE] at o1
      obtain ⟨o0, oo1, oo2, oo3, of⟩ := block_cells4 o1
      have HO1 := Lib.hid o1
      have HV1 := Lib.hid v1
      have HE := Lib.hid hE
      clear o1 v1 s1 x1 hE
      by_cases hg : ob < b
      · simp only
        rw [if_pos hg]
        go_enter Try.func60, Try.ntmps60
        go_upto_region 1 with (fail)
        rw [← HW.out]
        go_wp2_with fail
        go_end0
        refine ⟨rfl, ?_, ?_, ?_⟩
        · rw [set_old hOV]
          show _ = some (Obj.cells #[.int .i64 a, .int .i64 c, .string (str d), .bool false] _ _)
          rw [← HD.out]
          exact set4_new HO1.out
        · show _ = some (Obj.cells #[.int .i64 b] _ _)
          simpa using set_at (i := 0) (u := .int .i64 b) ((set4_old (Ne.symm hOV)).trans HV1.out)
        · exact ⟨_, grown_setB (grown_setB (grown_setB (grown_setB (grown_none BX.out)))), grown_setB grown_reflB⟩
      · simp only
        rw [if_neg hg]
        go_enter Try.func60, Try.ntmps60
        go_upto_region 1 with (fail)
        rw [← HW.out]
        go_wp2_with fail
        go_end0
        refine ⟨rfl, ?_, ?_, grew_none BX.out⟩
        · show _ = some (Obj.cells #[.int .i64 a, .int .i64 oc, .string (str od), .bool false] _ _)
          rw [← HE.out]; exact HO1.out
        · exact HV1.out
  · rw [if_neg hq]
    have hq1 : (a == seq) = false := by simpa using hq
    go_enter Try.func60, Try.ntmps60
    go_upto_region 1 with (fail)
    rw [← HW.out]
    go_wp2_with fail
    go_end0
    exact ⟨rfl, o1, v1, grew_none BX.out⟩
end Go.Proofs.Ytgmblgpfgdfnaaa
