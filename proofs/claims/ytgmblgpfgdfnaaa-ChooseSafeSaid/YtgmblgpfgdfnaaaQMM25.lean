/- Marks: the small functions of both sides. Written by wip/tools/gen30b.py. -/
import Derived.Test.YtgmblgpfgdfnaaaQMM21
import Derived.Test.YtgmblgpfgdfnaaaQMM23
import Derived.Test.YtgmblgpfgdfnaaaQMM24
namespace Go.Proofs.Ytgmblgpfgdfnaaa
open Go Go.RowKit
set_option linter.unusedVariables false
set_option linter.unusedSimpArgs false
set_option maxRecDepth 100000
def vtC (x : Vt) : List Value := [.int .i64 x.fr, .int .i64 x.vw, .int .i64 x.tm]
def vtV (x : Vt) : Value := .agg #[.int .i64 x.fr, .int .i64 x.vw, .int .i64 x.tm]
theorem vtC_len (x : Vt) : (vtC x).length = 3 := rfl
theorem vtC_one (x : Vt) : ∀ u ∈ vtC x, u.oneCell' = true := by
  intro u hu
  simp only [vtC, List.mem_cons, List.not_mem_nil, or_false] at hu
  rcases hu with rfl | rfl | rfl <;> rfl
def RdT (w : World) (v : Value) (l : List Vt) : Prop := RdK 3 vtC w v l
theorem RdT.below {w w' : World} {v : Value} {l : List Vt} (h : RdT w v l) {B : Nat} (hb : Below B w w') (hB : w.heap.size ≤ B) : RdT w' v l := RdK.below h hb hB
theorem block_cells3 {w : World} {B : Nat} {a0 a1 a2 : Value} {t : TypeId} (h : w.heap[B]? = some (.cells #[a0, a1, a2] t (0, 0))) :
    w.cell? ⟨B, 0, none⟩ = some a0 ∧ w.cell? ⟨B, 1, none⟩ = some a1 ∧ w.cell? ⟨B, 2, none⟩ = some a2 ∧ ∀ i, w.frozen? ⟨B, i, none⟩ = false := by
  refine ⟨?_, ?_, ?_, ?_⟩
  all_goals simp [World.cell?, World.frozen?, h]
theorem rdt_cells {w : World} {ao : Option Addr} {n cap : Nat} {l : List Vt} (h : RdT w (.slice ao n cap) l) (j : Nat) (hj : j < l.length) :
    ∃ b off, ao = some ⟨b, off, none⟩ ∧ b < w.heap.size ∧ w.cell? ⟨b, off + j * 3, none⟩ = some (.int .i64 l[j].fr) ∧ w.cell? ⟨b, off + j * 3 + 1, none⟩ = some (.int .i64 l[j].vw) ∧ w.cell? ⟨b, off + j * 3 + 2, none⟩ = some (.int .i64 l[j].tm) := by
  obtain ⟨b, off, h1, h2, h3⟩ := RdK.cell vtC_len h j hj
  exact ⟨b, off, h1, h2, h3 0 (by omega), by rw [Nat.add_assoc]; exact h3 1 (by omega), by rw [Nat.add_assoc]; exact h3 2 (by omega)⟩
theorem rdt_val {w : World} {v : Value} {l : List Vt} (r : RdT w v l) : ∃ a n c, v = Value.slice a n c := by
  obtain ⟨ao, cap, rfl, _⟩ := r
  exact ⟨_, _, _, rfl⟩
theorem ret_b {a b : Bool} (h : a = b) : Ending.returned (.bool a) = .returned (.bool b) := by rw [h]
theorem isNum_any (n : Int) (w : World) : Calls Try.prog 28 #[.int .i64 n] w fun e w' => e = .returned (.bool (numB n)) ∧ w = w' := by
  unfold numB
  by_cases h0 : 0 ≤ n
  · have d0 : decide (0 ≤ n) = true := decide_eq_true h0
    by_cases h1 : n ≤ 2147483647
    · have d1 : decide (n ≤ 2147483647) = true := decide_eq_true h1
      rw [d0, d1]
      go_enter Try.func28, Try.ntmps28
      go_wp2_with fail
      go_ret
      exact ⟨rfl, rfl⟩
    · have d1 : decide (n ≤ 2147483647) = false := decide_eq_false h1
      rw [d0, d1]
      go_enter Try.func28, Try.ntmps28
      go_wp2_with fail
      go_ret
      exact ⟨rfl, rfl⟩
  · have d0 : decide (0 ≤ n) = false := decide_eq_false h0
    rw [d0]
    go_enter Try.func28, Try.ntmps28
    go_wp2_with fail
    go_ret
    exact ⟨rfl, rfl⟩
theorem refNum_any (n : Int) (w : World) : Calls Try.prog 26 #[.int .i64 n] w fun e w' => e = .returned (.bool (numB n)) ∧ w = w' := by
  unfold numB
  by_cases h0 : 0 ≤ n
  · have d0 : decide (0 ≤ n) = true := decide_eq_true h0
    by_cases h1 : n ≤ 2147483647
    · have d1 : decide (n ≤ 2147483647) = true := decide_eq_true h1
      rw [d0, d1]
      go_enter Try.func26, Try.ntmps26
      go_wp2_with fail
      go_ret
      exact ⟨rfl, rfl⟩
    · have d1 : decide (n ≤ 2147483647) = false := decide_eq_false h1
      rw [d0, d1]
      go_enter Try.func26, Try.ntmps26
      go_wp2_with fail
      go_ret
      exact ⟨rfl, rfl⟩
  · have d0 : decide (0 ≤ n) = false := decide_eq_false h0
    rw [d0]
    go_enter Try.func26, Try.ntmps26
    go_wp2_with fail
    go_ret
    exact ⟨rfl, rfl⟩
theorem due_any (n : Int) (w : World) : Calls Try.prog 13 #[.int .i64 n] w fun e w' => e = .returned (.bool (dueB n)) ∧ w = w' := by
  obtain ⟨R, hR⟩ : ∃ R, R = dueB n := ⟨_, rfl⟩
  rw [← hR]
  unfold dueB at hR
  have HR := Lib.hid hR
  clear hR
  by_cases h0 : 0 < n
  · by_cases h1 : n % 4 = 0
    · have RES := Lib.hid (show R = true by rw [HR.out, decide_eq_true h0, decide_eq_true h1]; rfl)
      have g1 : (n % 4 == 0) = true := by simpa using h1
      go_enter Try.func13, Try.ntmps13
      go_wp2_with fail
      go_ret
      exact ⟨ret_b RES.out.symm, rfl⟩
    · have RES := Lib.hid (show R = false by rw [HR.out, decide_eq_true h0, decide_eq_false h1]; rfl)
      have g1 : (n % 4 == 0) = false := by simpa using h1
      go_enter Try.func13, Try.ntmps13
      go_wp2_with fail
      go_ret
      exact ⟨ret_b RES.out.symm, rfl⟩
  · have RES := Lib.hid (show R = false by rw [HR.out, decide_eq_false h0]; rfl)
    go_enter Try.func13, Try.ntmps13
    go_wp2_with fail
    go_ret
    exact ⟨ret_b RES.out.symm, rfl⟩
theorem refDue_any (n : Int) (w : World) : Calls Try.prog 14 #[.int .i64 n] w fun e w' => e = .returned (.bool (dueB n)) ∧ w = w' := by
  obtain ⟨R, hR⟩ : ∃ R, R = dueB n := ⟨_, rfl⟩
  rw [← hR]
  unfold dueB at hR
  have HR := Lib.hid hR
  clear hR
  by_cases h0 : 0 < n
  · by_cases h1 : n % 4 = 0
    · have RES := Lib.hid (show R = true by rw [HR.out, decide_eq_true h0, decide_eq_true h1]; rfl)
      have g1 : (n % 4 == 0) = true := by simpa using h1
      go_enter Try.func14, Try.ntmps14
      go_wp2_with fail
      go_ret
      exact ⟨ret_b RES.out.symm, rfl⟩
    · have RES := Lib.hid (show R = false by rw [HR.out, decide_eq_true h0, decide_eq_false h1]; rfl)
      have g1 : (n % 4 == 0) = false := by simpa using h1
      go_enter Try.func14, Try.ntmps14
      go_wp2_with fail
      go_ret
      exact ⟨ret_b RES.out.symm, rfl⟩
  · have RES := Lib.hid (show R = false by rw [HR.out, decide_eq_false h0]; rfl)
    go_enter Try.func14, Try.ntmps14
    go_wp2_with fail
    go_ret
    exact ⟨ret_b RES.out.symm, rfl⟩
theorem within_any (low root s : Int) (v : Value) (h0 : 0 ≤ low) (hs : s ≤ 9223372036854775807) (w : World) : Calls Try.prog 29 #[.agg #[.int .i64 low, .int .i64 root, v], .int .i64 s] w fun e w' => e = .returned (.bool (witB low s)) ∧ Below w.heap.size w w' := by
  have q0 := heap_alloc_new w (.cells #[.int .i64 low, .int .i64 root, v] 24)
  have B0 := (Below.refl w.heap.size w).alloc (Nat.le_refl _) (.cells #[.int .i64 low, .int .i64 root, v] 24)
  obtain ⟨d0, d1, d2, df⟩ := block_cells3 q0
  obtain ⟨R, hR⟩ : ∃ R, R = witB low s := ⟨_, rfl⟩
  rw [← hR]
  unfold witB at hR
  have IN0 := fun w => isNum_any s w
  obtain ⟨u, hu⟩ : ∃ u, u = numB s := ⟨_, rfl⟩
  rw [← hu] at IN0 hR
  have IN := Lib.hid IN0
  have HR := Lib.hid hR
  clear hR hu IN0
  by_cases h1 : low < s
  · have e1 : decide (low < s) = true := decide_eq_true h1
    have f1 : IntKind.i64.wrap (s - low) = s - low := by rw [IntKind.wrap_i64]; omega
    by_cases h2 : s - low ≤ 16
    · have e2 : decide (s - low ≤ 16) = true := decide_eq_true h2
      have RES := Lib.hid (show R = u by rw [HR.out, e1, e2]; rfl)
      go_enter Try.func29, Try.ntmps29
      go_wp2_with (first | ((with_reducible refine (IN.out _).mono ?_); rintro e w1 ⟨rfl, rfl⟩))
      go_ret
      exact ⟨ret_b RES.out.symm, B0⟩
    · have e2 : decide (s - low ≤ 16) = false := decide_eq_false h2
      have RES := Lib.hid (show R = false by rw [HR.out, e1, e2]; rfl)
      go_enter Try.func29, Try.ntmps29
      go_wp2_with (first | ((with_reducible refine (IN.out _).mono ?_); rintro e w1 ⟨rfl, rfl⟩))
      go_ret
      exact ⟨ret_b RES.out.symm, B0⟩
  · have e1 : decide (low < s) = false := decide_eq_false h1
    have RES := Lib.hid (show R = false by rw [HR.out, e1]; rfl)
    go_enter Try.func29, Try.ntmps29
    go_wp2_with (first | ((with_reducible refine (IN.out _).mono ?_); rintro e w1 ⟨rfl, rfl⟩))
    go_ret
    exact ⟨ret_b RES.out.symm, B0⟩
theorem refWithin_any (low s : Int) (h0 : 0 ≤ low) (w : World) : Calls Try.prog 12 #[.int .i64 low, .int .i64 s] w fun e w' => e = .returned (.bool (witB low s)) ∧ w = w' := by
  obtain ⟨R, hR⟩ : ∃ R, R = witB low s := ⟨_, rfl⟩
  rw [← hR]
  unfold witB numB at hR
  have HR := Lib.hid hR
  clear hR
  by_cases h1 : low < s
  · by_cases h3 : s ≤ 2147483647
    · have f1 : IntKind.i64.wrap (s - 16) = s - 16 := by rw [IntKind.wrap_i64]; omega
      by_cases h2 : s - 16 ≤ low
      · have RES := Lib.hid (show R = true by rw [HR.out]; simp; omega)
        go_enter Try.func12, Try.ntmps12
        go_wp2_with fail
        go_ret
        exact ⟨ret_b RES.out.symm, rfl⟩
      · have RES := Lib.hid (show R = false by rw [HR.out]; simp; omega)
        go_enter Try.func12, Try.ntmps12
        go_wp2_with fail
        go_ret
        exact ⟨ret_b RES.out.symm, rfl⟩
    · have RES := Lib.hid (show R = false by rw [HR.out]; simp; omega)
      go_enter Try.func12, Try.ntmps12
      go_wp2_with fail
      go_ret
      exact ⟨ret_b RES.out.symm, rfl⟩
  · have RES := Lib.hid (show R = false by rw [HR.out]; simp; omega)
    go_enter Try.func12, Try.ntmps12
    go_wp2_with fail
    go_ret
    exact ⟨ret_b RES.out.symm, rfl⟩
theorem before_any (x y : Vt) (w : World) : Calls Try.prog 30 #[vtV x, vtV y] w fun e w' => e = .returned (.bool (aheadB x y)) ∧ Below w.heap.size w w' := by
  obtain ⟨a, b, c⟩ := x
  obtain ⟨a', b', c'⟩ := y
  obtain ⟨R, hR⟩ : ∃ R, R = aheadB ⟨a, b, c⟩ ⟨a', b', c'⟩ := ⟨_, rfl⟩
  rw [← hR]
  unfold aheadB at hR
  simp only at hR
  have HR := Lib.hid hR
  clear hR
  unfold vtV
  simp only
  obtain ⟨q0, q1, -, -⟩ := two_allocs w (.cells #[.int .i64 a, .int .i64 b, .int .i64 c] 30) (.cells #[.int .i64 a', .int .i64 b', .int .i64 c'] 30)
  have bel := ((Below.refl w.heap.size w).alloc (Nat.le_refl _) (.cells #[.int .i64 a, .int .i64 b, .int .i64 c] 30)).alloc (by simp) (.cells #[.int .i64 a', .int .i64 b', .int .i64 c'] 30)
  obtain ⟨d0, d1, d2, df⟩ := block_cells3 q0
  obtain ⟨e0, e1, e2, ef⟩ := block_cells3 q1
  by_cases h1 : b < b'
  · have RES := Lib.hid (show R = true by rw [HR.out, decide_eq_true h1]; rfl)
    go_enter Try.func30, Try.ntmps30
    go_wp2_with fail
    go_ret
    exact ⟨ret_b RES.out.symm, bel⟩
  · by_cases h2 : b = b'
    · have g2 : (b == b') = true := by simpa using h2
      by_cases h3 : a < a'
      · have RES := Lib.hid (show R = true by rw [HR.out, decide_eq_false h1, decide_eq_true h2, decide_eq_true h3]; rfl)
        clear h2
        go_enter Try.func30, Try.ntmps30
        go_wp2_with fail
        go_ret
        exact ⟨ret_b RES.out.symm, bel⟩
      · have RES := Lib.hid (show R = false by rw [HR.out, decide_eq_false h1, decide_eq_true h2, decide_eq_false h3]; rfl)
        clear h2
        go_enter Try.func30, Try.ntmps30
        go_wp2_with fail
        go_ret
        exact ⟨ret_b RES.out.symm, bel⟩
    · have g2 : (b == b') = false := by simpa using h2
      have RES := Lib.hid (show R = false by rw [HR.out, decide_eq_false h1, decide_eq_false h2]; rfl)
      go_enter Try.func30, Try.ntmps30
      go_wp2_with fail
      go_ret
      exact ⟨ret_b RES.out.symm, bel⟩
theorem refAhead_any (x y : Vt) (w : World) : Calls Try.prog 27 #[vtV x, vtV y] w fun e w' => e = .returned (.bool (aheadB x y)) ∧ Below w.heap.size w w' := by
  obtain ⟨a, b, c⟩ := x
  obtain ⟨a', b', c'⟩ := y
  obtain ⟨R, hR⟩ : ∃ R, R = aheadB ⟨a, b, c⟩ ⟨a', b', c'⟩ := ⟨_, rfl⟩
  rw [← hR]
  unfold aheadB at hR
  simp only at hR
  have HR := Lib.hid hR
  clear hR
  unfold vtV
  simp only
  obtain ⟨q0, q1, -, -⟩ := two_allocs w (.cells #[.int .i64 a, .int .i64 b, .int .i64 c] 30) (.cells #[.int .i64 a', .int .i64 b', .int .i64 c'] 30)
  have bel := ((Below.refl w.heap.size w).alloc (Nat.le_refl _) (.cells #[.int .i64 a, .int .i64 b, .int .i64 c] 30)).alloc (by simp) (.cells #[.int .i64 a', .int .i64 b', .int .i64 c'] 30)
  obtain ⟨d0, d1, d2, df⟩ := block_cells3 q0
  obtain ⟨e0, e1, e2, ef⟩ := block_cells3 q1
  by_cases h1 : b < b'
  · have RES := Lib.hid (show R = true by rw [HR.out, decide_eq_true h1]; rfl)
    go_enter Try.func27, Try.ntmps27
    go_wp2_with fail
    go_ret
    exact ⟨ret_b RES.out.symm, bel⟩
  · by_cases h2 : b = b'
    · have g2 : (b == b') = true := by simpa using h2
      by_cases h3 : a < a'
      · have RES := Lib.hid (show R = true by rw [HR.out, decide_eq_false h1, decide_eq_true h2, decide_eq_true h3]; rfl)
        clear h2
        go_enter Try.func27, Try.ntmps27
        go_wp2_with fail
        go_ret
        exact ⟨ret_b RES.out.symm, bel⟩
      · have RES := Lib.hid (show R = false by rw [HR.out, decide_eq_false h1, decide_eq_true h2, decide_eq_false h3]; rfl)
        clear h2
        go_enter Try.func27, Try.ntmps27
        go_wp2_with fail
        go_ret
        exact ⟨ret_b RES.out.symm, bel⟩
    · have g2 : (b == b') = false := by simpa using h2
      have RES := Lib.hid (show R = false by rw [HR.out, decide_eq_false h1, decide_eq_false h2]; rfl)
      go_enter Try.func27, Try.ntmps27
      go_wp2_with fail
      go_ret
      exact ⟨ret_b RES.out.symm, bel⟩
end Go.Proofs.Ytgmblgpfgdfnaaa
