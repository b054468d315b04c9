/- Quorums: the document's faults; one number as a set. -/
import Derived.Test.YtgmblgpfgdfnaaaQMM4
namespace Go.Proofs.Ytgmblgpfgdfnaaa
open Go.RowKit
set_option linter.unusedVariables false
set_option linter.unusedSimpArgs false
set_option maxRecDepth 100000 in
theorem refFaults_any (n : Int) (w : World) :
    Calls Try.prog 19 #[.int .i64 n] w fun e w' => e = .returned (.int .i64 (fN n)) ∧ w = w' := by
  have hc := fN_cases n
  generalize fN n = f at hc ⊢
  have HC := Lib.hid hc
  clear hc
  go_enter Try.func19, Try.ntmps19
  go_wp2
  go_loop [3] (fun i => ∃ k : Nat, 1 ≤ k ∧ k ≤ 6 ∧ i = .int .i64 (k : Int) ∧ Hid (f = 0 ∨ (k : Int) ≤ f)) (fun i => 7 - (intOf i).toNat)
  case atStart => exact ⟨1, by omega, by omega, rfl, by have := HC.out; show _ ∨ _; omega⟩
  case round =>
    obtain ⟨k, h1, h2, rfl, hf⟩ := hrel
    by_cases hk : k ≤ 5
    · by_cases hn : n = 3 * (k : Int) + 1
      · have hfk : f = (k : Int) := by have := HC.out; omega
        have HF := Lib.hid hfk
        clear hfk hf
        go_wp2
        go_ret
        exact ⟨by rw [HF.out]; rfl, rfl⟩
      · have hf2 : f = 0 ∨ ((k + 1 : Nat) : Int) ≤ f := by have := HC.out; have := hf.out; omega
        have HF := Lib.hid hf2
        clear hf2 hf
        go_wp2
        exact ⟨⟨k + 1, by omega, by omega, by push_cast; rfl, HF⟩, by simp [intOf]; omega⟩
    · have hf0 : f = 0 := by have := HC.out; have := hf.out; omega
      have HF := Lib.hid hf0
      clear hf0 hf
      go_wp2
      go_ret
      exact ⟨by rw [HF.out]; rfl, rfl⟩
end Go.Proofs.Ytgmblgpfgdfnaaa
