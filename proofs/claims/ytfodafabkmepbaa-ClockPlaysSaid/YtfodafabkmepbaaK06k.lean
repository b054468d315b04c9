/- The document's At, Double, Reset, Tick. -/
import Derived.Test.YtfodafabkmepbaaK06i
namespace Go.Proofs.Ytfodafabkmepbaa
open Go.RowKit
set_option linter.unusedVariables false
set_option linter.unusedSimpArgs false
set_option maxRecDepth 100000 in
set_option maxHeartbeats 1000000 in
theorem rdouble_any (c : Ck) (hm : MayP c) (w : World) : Calls Try.prog 20 #[ckV c] w fun e w' => e = .returned (ckV { c with wait := if c.cap < 2 * c.wait then c.cap else 2 * c.wait }) ∧ Below w.heap.size w w' := by
  obtain ⟨n, wt, b, cp, o, d⟩ := c
  unfold MayP at hm
  simp only [] at hm
  obtain ⟨m1, m2, m3, m4, m5, m6, m7, m8⟩ := hm
  clear m7 m8
  simp only [ckV]
  by_cases h : cp < 2 * wt
  all_goals
    have hx := h
    simp only [h, if_true, if_false]
    go_enter Try.func20, Try.ntmps20
    go_wp2
  all_goals
    first
      | refine bodyPost_ret (v := .agg #[.int .i64 n, .int .i64 cp, .int .i64 b, .int .i64 cp, .bool o, .int .i64 d]) (by simp [results, Try.results20, go_sem]) rfl ⟨rfl, by go_grown⟩
      | refine bodyPost_ret (v := .agg #[.int .i64 n, .int .i64 (wt + wt), .int .i64 b, .int .i64 cp, .bool o, .int .i64 d]) (by simp [results, Try.results20, go_sem]) rfl ⟨by rw [show wt + wt = 2 * wt from by omega], by go_grown⟩
set_option maxRecDepth 100000 in
set_option maxHeartbeats 1000000 in
theorem rat_any (c : Ck) (l : Int) (h1 : 0 ≤ c.now) (h2 : c.now ≤ 1099511627776) (h3 : 0 ≤ l) (h4 : l ≤ 1048576) (w : World) : Calls Try.prog 19 #[ckV c, .int .i64 l] w fun e w' => e = .returned (ckV { c with on := decide (0 < l), due := if 0 < l then c.now + l else 0 }) ∧ Below w.heap.size w w' := by
  obtain ⟨n, wt, b, cp, o, d⟩ := c
  simp only [] at h1 h2
  simp only [ckV]
  by_cases h : 0 < l
  all_goals
    have hx := h
    simp only [h, if_true, if_false, decide_true, decide_false]
    go_enter Try.func19, Try.ntmps19
    go_wp2
  all_goals
    first
      | refine bodyPost_ret (v := .agg #[.int .i64 n, .int .i64 wt, .int .i64 b, .int .i64 cp, .bool true, .int .i64 (n + l)]) (by simp [results, Try.results19, go_sem]) rfl ⟨rfl, by go_grown⟩
      | refine bodyPost_ret (v := .agg #[.int .i64 n, .int .i64 wt, .int .i64 b, .int .i64 cp, .bool false, .int .i64 0]) (by simp [results, Try.results19, go_sem]) rfl ⟨rfl, by go_grown⟩
theorem rat_pos {n wt b cp d l : Int} {o : Bool} (h1 : 0 ≤ n) (h2 : n ≤ 1099511627776) (h3 : 0 < l) (h4 : l ≤ 1048576) (w : World) : Calls Try.prog 19 #[.agg #[.int .i64 n, .int .i64 wt, .int .i64 b, .int .i64 cp, .bool o, .int .i64 d], .int .i64 l] w fun e w' => e = .returned (.agg #[.int .i64 n, .int .i64 wt, .int .i64 b, .int .i64 cp, .bool true, .int .i64 (n + l)]) ∧ Below w.heap.size w w' := by
  have t := rat_any ⟨n, wt, b, cp, o, d⟩ l h1 h2 (by omega) h4 w
  simpa [ckV, h3] using t
theorem rat_zero {n wt b cp d : Int} {o : Bool} (h1 : 0 ≤ n) (h2 : n ≤ 1099511627776) (w : World) : Calls Try.prog 19 #[.agg #[.int .i64 n, .int .i64 wt, .int .i64 b, .int .i64 cp, .bool o, .int .i64 d], .int .i64 0] w fun e w' => e = .returned (.agg #[.int .i64 n, .int .i64 wt, .int .i64 b, .int .i64 cp, .bool false, .int .i64 0]) ∧ Below w.heap.size w w' := by
  have t := rat_any ⟨n, wt, b, cp, o, d⟩ 0 h1 h2 (by omega) (by omega) w
  simpa [ckV] using t
end Go.Proofs.Ytfodafabkmepbaa
