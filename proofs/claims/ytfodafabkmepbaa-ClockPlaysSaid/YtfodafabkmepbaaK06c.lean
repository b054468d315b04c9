/- The clock's functions that the others call: what each comes to. -/
import Derived.Test.YtfodafabkmepbaaK06b
namespace Go.Proofs.Ytfodafabkmepbaa
open Go.RowKit
set_option linter.unusedVariables false
set_option linter.unusedSimpArgs false
theorem two_allocs (w : World) (a b : Obj) :
    ((w.alloc a).alloc b).heap[w.heap.size]? = some a ∧ ((w.alloc a).alloc b).heap[w.heap.size + 1]? = some b ∧ ((w.alloc a).alloc b).heap.size = w.heap.size + 2 ∧ ∀ k, k < w.heap.size → ((w.alloc a).alloc b).heap[k]? = w.heap[k]? := by
  have z1 : (w.alloc a).heap.size = w.heap.size + 1 := by simp
  refine ⟨?_, ?_, by simp, ?_⟩
  · rw [heap_alloc_old _ _ (by omega), heap_alloc_new]
  · rw [← z1, heap_alloc_new]
  · intro k hk
    rw [heap_alloc_old _ _ (by omega), heap_alloc_old _ _ hk]
theorem kept2_of_grown {w w' : World} {B R : Nat} (h : w.grownBy w' (some B)) : Kept2 w w' B R :=
  ⟨h.size, h.os, h.tape, h.output, fun k hk h1 _ => h.block k hk (by simp [h1])⟩
theorem kept2_refl {w : World} {B R : Nat} : Kept2 w w B R := ⟨Nat.le_refl _, rfl, rfl, rfl, fun _ _ _ _ => rfl⟩
theorem below_set {w0 w : World} {B i n : Nat} {u : Value} (h : Below n w0 w) (hB : n ≤ B) : Below n w0 (w.setCell ⟨B, i, none⟩ u) := h.setCell (p := ⟨B, i, none⟩) hB u
theorem below_set6 {w0 w : World} {n B : Nat} {u0 u1 u2 u3 u4 u5 : Value} (h : Below n w0 w) (hB : n ≤ B) :
    Below n w0 ((((((w.setCell ⟨B, 0, none⟩ u0).setCell ⟨B, 1, none⟩ u1).setCell ⟨B, 2, none⟩ u2).setCell ⟨B, 3, none⟩ u3).setCell ⟨B, 4, none⟩ u4).setCell ⟨B, 5, none⟩ u5) :=
  below_set (below_set (below_set (below_set (below_set (below_set h hB) hB) hB) hB) hB) hB
set_option maxRecDepth 100000 in
set_option maxHeartbeats 1000000 in
theorem with_no (c : Ck) (fv : Value) (w : World) (hm : ¬ MayP c) :
    Calls Try.prog 23 #[ckV c, fv] w fun e w' => e = .returned (.tuple #[ckV zeroC, .int .i64 1]) ∧ Below w.heap.size w w' := by
  have e1 := mayC_false hm
  obtain ⟨n, wt, b, cp, o, d⟩ := c
  have H := Lib.hid e1
  clear e1 hm
  unfold ckV
  go_enter Try.func23, Try.ntmps23
  go_wp2_with (go_at_call 11; refine (may_any ⟨n, wt, b, cp, o, d⟩ _).mono ?_; rintro e w' ⟨rfl, rfl⟩; rw [H.out])
  refine bodyPost_ret (v := .tuple #[.agg #[.int .i64 0, .int .i64 0, .int .i64 0, .int .i64 0, .bool false, .int .i64 0], .int .i64 1]) (by simp [results, Try.results23, go_sem]) rfl ⟨rfl, ?_⟩
  go_grown
set_option maxRecDepth 100000 in
set_option maxHeartbeats 1000000 in
theorem start_core (c c' : Ck) (ER : Int) (w : World) (hw : ∀ w1, Calls Try.prog 23 #[ckV c, .func (.func 25) #[] #[]] w1 fun e w' => e = .returned (.tuple #[ckV c', .int .i64 ER]) ∧ Below w1.heap.size w1 w') :
    Calls Try.prog 14 #[ckV c] w fun e w' => e = .returned (.tuple #[ckV c', .int .i64 ER]) ∧ Below w.heap.size w w' := by
  obtain ⟨n, wt, b, cp, o, d⟩ := c
  obtain ⟨n', wt', b', cp', o', d'⟩ := c'
  unfold ckV at hw ⊢
  have H := Lib.hid hw
  clear hw
  go_enter Try.func14, Try.ntmps14
  go_wp2_with fail
  obtain ⟨t1, t2, t3, t4⟩ := two_allocs w (.cells #[.int .i64 n, .int .i64 wt, .int .i64 b, .int .i64 cp, .bool o, .int .i64 d] 23) (.cells #[.int .i64 0, .int .i64 0, .int .i64 0, .int .i64 0, .bool false, .int .i64 0] 23)
  refine (H.out _).mono ?_
  rintro e w2 ⟨rfl, g⟩
  have r1 := (g.block (w.heap.size + 1) (by omega)).trans t2
  obtain ⟨b0, b1, b2, b3, b4, b5, bf⟩ := block_cells r1
  have bf0 := bf 0
  have bf1 := bf 1
  have bf2 := bf 2
  have bf3 := bf 3
  have bf4 := bf 4
  have bf5 := bf 5
  have sz := g.size
  have kept : Below w.heap.size w w2 := ⟨g.os, g.tape, g.output, by omega, fun k hk => (g.block k (by omega)).trans (t4 k hk)⟩
  have KP := Lib.hid kept
  clear bf r1 g kept t1 t2 t3 t4 sz
  go_wp2
  refine bodyPost_ret (v := .tuple #[.agg #[.int .i64 n', .int .i64 wt', .int .i64 b', .int .i64 cp', .bool o', .int .i64 d'], .int .i64 ER]) (by simp [results, Try.results14, go_sem, b0, b1, b2, b3, b4, b5]) rfl ⟨rfl, below_set6 KP.out (by omega)⟩
theorem start_yes (c : Ck) (hm : MayP c) (w : World) : Calls Try.prog 14 #[ckV c] w fun e w' => e = .returned (.tuple #[ckV { c with on := true, due := c.now + c.wait }, .int .i64 0]) ∧ Below w.heap.size w w' := by
  refine start_core c _ 0 w (fun w1 => ?_)
  have hm0 := hm
  unfold MayP at hm0
  obtain ⟨m1, m2, m3, m4, m5, m6, _, _⟩ := hm0
  refine (with_start c _ w1.heap.size (fun _ => True) w1 hm (Nat.le_refl _) (fun _ _ _ _ => trivial) (fun w2 h hz ho => (start1_any c _ w2 h m5 m6 (by omega) (by omega)).mono (fun e w3 ⟨a, b, g⟩ => ⟨a, b, kept2_of_grown g, trivial⟩))).mono ?_
  rintro e w' ⟨h1, h2, _⟩
  exact ⟨h1, h2.os, h2.tape, h2.output, h2.size, fun k hk => h2.block k hk (by omega)⟩
theorem start_no (c : Ck) (hm : ¬ MayP c) (w : World) : Calls Try.prog 14 #[ckV c] w fun e w' => e = .returned (.tuple #[ckV zeroC, .int .i64 1]) ∧ Below w.heap.size w w' :=
  start_core c _ 1 w (fun w1 => with_no c _ w1 hm)
set_option maxRecDepth 100000 in
set_option maxHeartbeats 1000000 in
theorem stop_core (c c' : Ck) (ER : Int) (w : World) (hw : ∀ w1, Calls Try.prog 23 #[ckV c, .func (.func 26) #[] #[]] w1 fun e w' => e = .returned (.tuple #[ckV c', .int .i64 ER]) ∧ Below w1.heap.size w1 w') :
    Calls Try.prog 15 #[ckV c] w fun e w' => e = .returned (.tuple #[ckV c', .int .i64 ER]) ∧ Below w.heap.size w w' := by
  obtain ⟨n, wt, b, cp, o, d⟩ := c
  obtain ⟨n', wt', b', cp', o', d'⟩ := c'
  unfold ckV at hw ⊢
  have H := Lib.hid hw
  clear hw
  go_enter Try.func15, Try.ntmps15
  go_wp2_with fail
  obtain ⟨t1, t2, t3, t4⟩ := two_allocs w (.cells #[.int .i64 n, .int .i64 wt, .int .i64 b, .int .i64 cp, .bool o, .int .i64 d] 23) (.cells #[.int .i64 0, .int .i64 0, .int .i64 0, .int .i64 0, .bool false, .int .i64 0] 23)
  refine (H.out _).mono ?_
  rintro e w2 ⟨rfl, g⟩
  have r1 := (g.block (w.heap.size + 1) (by omega)).trans t2
  obtain ⟨b0, b1, b2, b3, b4, b5, bf⟩ := block_cells r1
  have bf0 := bf 0
  have bf1 := bf 1
  have bf2 := bf 2
  have bf3 := bf 3
  have bf4 := bf 4
  have bf5 := bf 5
  have sz := g.size
  have kept : Below w.heap.size w w2 := ⟨g.os, g.tape, g.output, by omega, fun k hk => (g.block k (by omega)).trans (t4 k hk)⟩
  have KP := Lib.hid kept
  clear bf r1 g kept t1 t2 t3 t4 sz
  go_wp2
  refine bodyPost_ret (v := .tuple #[.agg #[.int .i64 n', .int .i64 wt', .int .i64 b', .int .i64 cp', .bool o', .int .i64 d'], .int .i64 ER]) (by simp [results, Try.results15, go_sem, b0, b1, b2, b3, b4, b5]) rfl ⟨rfl, below_set6 KP.out (by omega)⟩
theorem stop_yes (c : Ck) (hm : MayP c) (w : World) : Calls Try.prog 15 #[ckV c] w fun e w' => e = .returned (.tuple #[ckV { c with on := false, due := 0 }, .int .i64 0]) ∧ Below w.heap.size w w' := by
  refine stop_core c _ 0 w (fun w1 => ?_)
  have hm0 := hm
  unfold MayP at hm0
  obtain ⟨m1, m2, m3, m4, m5, m6, _, _⟩ := hm0
  refine (with_stop c _ w1.heap.size (fun _ => True) w1 hm (Nat.le_refl _) (fun _ _ _ _ => trivial) (fun w2 h hz ho => (halt_any c _ w2 h).mono (fun e w3 ⟨a, b, g⟩ => ⟨a, b, kept2_of_grown g, trivial⟩))).mono ?_
  rintro e w' ⟨h1, h2, _⟩
  exact ⟨h1, h2.os, h2.tape, h2.output, h2.size, fun k hk => h2.block k hk (by omega)⟩
theorem stop_no (c : Ck) (hm : ¬ MayP c) (w : World) : Calls Try.prog 15 #[ckV c] w fun e w' => e = .returned (.tuple #[ckV zeroC, .int .i64 1]) ∧ Below w.heap.size w w' :=
  stop_core c _ 1 w (fun w1 => with_no c _ w1 hm)
set_option maxRecDepth 100000 in
set_option maxHeartbeats 1000000 in
theorem double_core (c c' : Ck) (ER : Int) (w : World) (hw : ∀ w1, Calls Try.prog 23 #[ckV c, .func (.func 28) #[] #[]] w1 fun e w' => e = .returned (.tuple #[ckV c', .int .i64 ER]) ∧ Below w1.heap.size w1 w') :
    Calls Try.prog 17 #[ckV c] w fun e w' => e = .returned (.tuple #[ckV c', .int .i64 ER]) ∧ Below w.heap.size w w' := by
  obtain ⟨n, wt, b, cp, o, d⟩ := c
  obtain ⟨n', wt', b', cp', o', d'⟩ := c'
  unfold ckV at hw ⊢
  have H := Lib.hid hw
  clear hw
  go_enter Try.func17, Try.ntmps17
  go_wp2_with fail
  obtain ⟨t1, t2, t3, t4⟩ := two_allocs w (.cells #[.int .i64 n, .int .i64 wt, .int .i64 b, .int .i64 cp, .bool o, .int .i64 d] 23) (.cells #[.int .i64 0, .int .i64 0, .int .i64 0, .int .i64 0, .bool false, .int .i64 0] 23)
  refine (H.out _).mono ?_
  rintro e w2 ⟨rfl, g⟩
  have r1 := (g.block (w.heap.size + 1) (by omega)).trans t2
  obtain ⟨b0, b1, b2, b3, b4, b5, bf⟩ := block_cells r1
  have bf0 := bf 0
  have bf1 := bf 1
  have bf2 := bf 2
  have bf3 := bf 3
  have bf4 := bf 4
  have bf5 := bf 5
  have sz := g.size
  have kept : Below w.heap.size w w2 := ⟨g.os, g.tape, g.output, by omega, fun k hk => (g.block k (by omega)).trans (t4 k hk)⟩
  have KP := Lib.hid kept
  clear bf r1 g kept t1 t2 t3 t4 sz
  go_wp2
  refine bodyPost_ret (v := .tuple #[.agg #[.int .i64 n', .int .i64 wt', .int .i64 b', .int .i64 cp', .bool o', .int .i64 d'], .int .i64 ER]) (by simp [results, Try.results17, go_sem, b0, b1, b2, b3, b4, b5]) rfl ⟨rfl, below_set6 KP.out (by omega)⟩
theorem double_yes (c : Ck) (hm : MayP c) (w : World) : Calls Try.prog 17 #[ckV c] w fun e w' => e = .returned (.tuple #[ckV { c with wait := if c.cap < 2 * c.wait then c.cap else 2 * c.wait }, .int .i64 0]) ∧ Below w.heap.size w w' := by
  refine double_core c _ 0 w (fun w1 => ?_)
  have hm0 := hm
  unfold MayP at hm0
  obtain ⟨m1, m2, m3, m4, m5, m6, _, _⟩ := hm0
  refine (with_double c _ w1.heap.size (fun _ => True) w1 hm (Nat.le_refl _) (fun _ _ _ _ => trivial) (fun w2 h hz ho => (double1_any c _ w2 h (by omega) (by omega)).mono (fun e w3 ⟨a, b, g⟩ => ⟨a, b, kept2_of_grown g, trivial⟩))).mono ?_
  rintro e w' ⟨h1, h2, _⟩
  exact ⟨h1, h2.os, h2.tape, h2.output, h2.size, fun k hk => h2.block k hk (by omega)⟩
theorem double_no (c : Ck) (hm : ¬ MayP c) (w : World) : Calls Try.prog 17 #[ckV c] w fun e w' => e = .returned (.tuple #[ckV zeroC, .int .i64 1]) ∧ Below w.heap.size w w' :=
  double_core c _ 1 w (fun w1 => with_no c _ w1 hm)
set_option maxRecDepth 100000 in
set_option maxHeartbeats 1000000 in
theorem reset_core (c c' : Ck) (ER : Int) (w : World) (hw : ∀ w1, Calls Try.prog 23 #[ckV c, .func (.func 29) #[] #[]] w1 fun e w' => e = .returned (.tuple #[ckV c', .int .i64 ER]) ∧ Below w1.heap.size w1 w') :
    Calls Try.prog 18 #[ckV c] w fun e w' => e = .returned (.tuple #[ckV c', .int .i64 ER]) ∧ Below w.heap.size w w' := by
  obtain ⟨n, wt, b, cp, o, d⟩ := c
  obtain ⟨n', wt', b', cp', o', d'⟩ := c'
  unfold ckV at hw ⊢
  have H := Lib.hid hw
  clear hw
  go_enter Try.func18, Try.ntmps18
  go_wp2_with fail
  obtain ⟨t1, t2, t3, t4⟩ := two_allocs w (.cells #[.int .i64 n, .int .i64 wt, .int .i64 b, .int .i64 cp, .bool o, .int .i64 d] 23) (.cells #[.int .i64 0, .int .i64 0, .int .i64 0, .int .i64 0, .bool false, .int .i64 0] 23)
  refine (H.out _).mono ?_
  rintro e w2 ⟨rfl, g⟩
  have r1 := (g.block (w.heap.size + 1) (by omega)).trans t2
  obtain ⟨b0, b1, b2, b3, b4, b5, bf⟩ := block_cells r1
  have bf0 := bf 0
  have bf1 := bf 1
  have bf2 := bf 2
  have bf3 := bf 3
  have bf4 := bf 4
  have bf5 := bf 5
  have sz := g.size
  have kept : Below w.heap.size w w2 := ⟨g.os, g.tape, g.output, by omega, fun k hk => (g.block k (by omega)).trans (t4 k hk)⟩
  have KP := Lib.hid kept
  clear bf r1 g kept t1 t2 t3 t4 sz
  go_wp2
  refine bodyPost_ret (v := .tuple #[.agg #[.int .i64 n', .int .i64 wt', .int .i64 b', .int .i64 cp', .bool o', .int .i64 d'], .int .i64 ER]) (by simp [results, Try.results18, go_sem, b0, b1, b2, b3, b4, b5]) rfl ⟨rfl, below_set6 KP.out (by omega)⟩
theorem reset_yes (c : Ck) (hm : MayP c) (w : World) : Calls Try.prog 18 #[ckV c] w fun e w' => e = .returned (.tuple #[ckV { c with wait := c.base, due := if c.on then (if c.now + c.base < c.due then c.now + c.base else c.due) else c.due }, .int .i64 0]) ∧ Below w.heap.size w w' := by
  refine reset_core c _ 0 w (fun w1 => ?_)
  have hm0 := hm
  unfold MayP at hm0
  obtain ⟨m1, m2, m3, m4, m5, m6, _, _⟩ := hm0
  refine (with_reset c _ w1.heap.size (fun _ => True) w1 hm (Nat.le_refl _) (fun _ _ _ _ => trivial) (fun w2 h hz ho => (reset1_any c _ w2 h m5 m6 (by omega) (by omega)).mono (fun e w3 ⟨a, b, g⟩ => ⟨a, b, kept2_of_grown g, trivial⟩))).mono ?_
  rintro e w' ⟨h1, h2, _⟩
  exact ⟨h1, h2.os, h2.tape, h2.output, h2.size, fun k hk => h2.block k hk (by omega)⟩
theorem reset_no (c : Ck) (hm : ¬ MayP c) (w : World) : Calls Try.prog 18 #[ckV c] w fun e w' => e = .returned (.tuple #[ckV zeroC, .int .i64 1]) ∧ Below w.heap.size w w' :=
  reset_core c _ 1 w (fun w1 => with_no c _ w1 hm)
end Go.Proofs.Ytfodafabkmepbaa
