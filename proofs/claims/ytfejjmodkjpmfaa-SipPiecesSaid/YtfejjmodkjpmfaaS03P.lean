/- The program's rounds. -/
import Derived.Test.YtfejjmodkjpmfaaS03R
import Derived.Test.YtfejjmodkjpmfaaMem
import Derived.RegionTactic
import Derived.Deep.QuietTactic
import Derived.BigQuiet
import Derived.StillTailTactics
import Derived.ChangeAlike
namespace Go.Proofs.Ytfejjmodkjpmfaa
open Go.RowKit
set_option linter.unusedVariables false
set_option linter.unusedSimpArgs false
set_option maxRecDepth 100000 in
set_option maxHeartbeats 1000000 in
theorem rounds_any (s : St) (hs : s.Ok) (n : Nat) (hn : n ≤ 4) (w : World) :
    Calls Try.prog 23 #[stV s, .int .i64 n] w fun e w' => e = .returned (stV (roundsN n s)) ∧ Below w.heap.size w w' := by
  obtain ⟨a0, b0, c0, d0⟩ := s
  unfold stV
  simp only []
  go_enter Try.func23, Try.ntmps23
  go_wp2
  go_region
  have B := Below.refl w.heap.size w
  go_wp2_with fail
  go_loopw [5, 6, 7, 8, 18] (fun va vb vc vd vi wr => ∃ (k a b c d : Nat), k ≤ n ∧ va = .int .u64 (a : Int) ∧ vb = .int .u64 (b : Int) ∧ vc = .int .u64 (c : Int) ∧ vd = .int .u64 (d : Int) ∧ vi = .int .i64 (k : Int) ∧
      Hid (roundsN k ⟨a0, b0, c0, d0⟩ = ⟨a, b, c, d⟩) ∧ Below w.heap.size w wr ∧ Hid (wr.heap[(w.heap.size + 1)]? = some (.cells #[.int .u64 0, .int .u64 0, .int .u64 0, .int .u64 0] 46 (0, 0))))
    (fun _ _ _ _ i _ => n - (intOf i).toNat)
  case atStart =>
    exact ⟨0, a0, b0, c0, d0, by omega, rfl, rfl, rfl, rfl, rfl, rfl, by go_grown, Lib.hid (two_allocs w _ _).2.1⟩
  case round =>
    obtain ⟨k, a, b, c, d, hk, rfl, rfl, rfl, rfl, rfl, hR, B, HB⟩ := hrel
    have hok := rounds_ok _ hs k
    rw [hR.out] at hok
    obtain ⟨ha, hb, hc, hd⟩ := hok
    simp only [] at ha hb hc hd
    by_cases hlt : k < n
    · obtain ⟨rb, erb⟩ : ∃ x, x = rotN b 13 := ⟨_, rfl⟩
      obtain ⟨rd, erd⟩ : ∃ x, x = rotN d 16 := ⟨_, rfl⟩
      have hrb : rb < 18446744073709551616 := by rw [erb]; exact rot_lt b 13 hb (by decide)
      have hrd : rd < 18446744073709551616 := by rw [erd]; exact rot_lt d 16 hd (by decide)
      obtain ⟨a1, ea1⟩ : ∃ x, x = addN a b := ⟨_, rfl⟩
      obtain ⟨c1, ec1⟩ : ∃ x, x = addN c d := ⟨_, rfl⟩
      have ha1 : a1 < 18446744073709551616 := by rw [ea1]; exact add_lt _ _
      have hc1 : c1 < 18446744073709551616 := by rw [ec1]; exact add_lt _ _
      obtain ⟨b1, eb1⟩ : ∃ x, x = xorN rb a1 := ⟨_, rfl⟩
      obtain ⟨d1, ed1⟩ : ∃ x, x = xorN rd c1 := ⟨_, rfl⟩
      have hb1 : b1 < 18446744073709551616 := by rw [eb1]; exact xor_lt hrb ha1
      have hd1 : d1 < 18446744073709551616 := by rw [ed1]; exact xor_lt hrd hc1
      obtain ⟨a2, ea2⟩ : ∃ x, x = rotN a1 32 := ⟨_, rfl⟩
      have ha2 : a2 < 18446744073709551616 := by rw [ea2]; exact rot_lt _ _ ha1 (by decide)
      obtain ⟨a3, ea3⟩ : ∃ x, x = addN a2 d1 := ⟨_, rfl⟩
      have ha3 : a3 < 18446744073709551616 := by rw [ea3]; exact add_lt _ _
      obtain ⟨rd1, erd1⟩ : ∃ x, x = rotN d1 21 := ⟨_, rfl⟩
      have hrd1 : rd1 < 18446744073709551616 := by rw [erd1]; exact rot_lt _ _ hd1 (by decide)
      obtain ⟨d2, ed2⟩ : ∃ x, x = xorN rd1 a3 := ⟨_, rfl⟩
      obtain ⟨c2, ec2⟩ : ∃ x, x = addN c1 b1 := ⟨_, rfl⟩
      have hc2 : c2 < 18446744073709551616 := by rw [ec2]; exact add_lt _ _
      obtain ⟨rb1, erb1⟩ : ∃ x, x = rotN b1 17 := ⟨_, rfl⟩
      have hrb1 : rb1 < 18446744073709551616 := by rw [erb1]; exact rot_lt _ _ hb1 (by decide)
      obtain ⟨b2, eb2⟩ : ∃ x, x = xorN rb1 c2 := ⟨_, rfl⟩
      obtain ⟨c3, ec3⟩ : ∃ x, x = rotN c2 32 := ⟨_, rfl⟩
      have q1 : IntKind.u64.wrap ((a : Int) + b) = (a1 : Int) := by rw [ea1]; exact add_is _ _
      have q2 : bits .xor .u64 (rb : Int) (a1 : Int) = (b1 : Int) := by rw [eb1]; exact xor_is hrb ha1
      have q3 : IntKind.u64.wrap ((c : Int) + d) = (c1 : Int) := by rw [ec1]; exact add_is _ _
      have q4 : bits .xor .u64 (rd : Int) (c1 : Int) = (d1 : Int) := by rw [ed1]; exact xor_is hrd hc1
      have q5 : IntKind.u64.wrap ((a2 : Int) + d1) = (a3 : Int) := by rw [ea3]; exact add_is _ _
      have q6 : bits .xor .u64 (rd1 : Int) (a3 : Int) = (d2 : Int) := by rw [ed2]; exact xor_is hrd1 ha3
      have q7 : IntKind.u64.wrap ((c1 : Int) + b1) = (c2 : Int) := by rw [ec2]; exact add_is _ _
      have q8 : bits .xor .u64 (rb1 : Int) (c2 : Int) = (b2 : Int) := by rw [eb2]; exact xor_is hrb1 hc2
      have T1 := fun w => rot13 b b rfl hb w
      have T2 := fun w => rot32 a1 a1 rfl ha1 w
      have T3 := fun w => rot16 d d rfl hd w
      have T4 := fun w => rot21 d1 d1 rfl hd1 w
      have T5 := fun w => rot17 b1 b1 rfl hb1 w
      have T6 := fun w => rot32 c2 c2 rfl hc2 w
      rw [← erb] at T1
      rw [← ea2] at T2
      rw [← erd] at T3
      rw [← erd1] at T4
      rw [← erb1] at T5
      rw [← ec3] at T6
      have hres : roundsN (k + 1) ⟨a0, b0, c0, d0⟩ = ⟨a3, b2, c3, d2⟩ := by
        rw [roundsN, hR.out]
        unfold roundN
        simp only [← erb, ← erd, ← ea1, ← ec1, ← eb1, ← ed1, ← ea2, ← ea3, ← erd1, ← ed2, ← ec2, ← erb1, ← eb2, ← ec3]
      have HRES := Lib.hid hres
      clear hres hR erb erd ea1 ec1 eb1 ed1 ea2 ea3 erd1 ed2 ec2 erb1 eb2 ec3 ha hb hc hd hrb hrd ha1 hc1 hb1 hd1 ha2 ha3 hrd1 hc2 hrb1
      go_wp2_with fail
      refine (T1 _).mono ?_
      rintro e w9 ⟨rfl, rfl⟩
      go_wp2_with fail
      refine (T2 _).mono ?_
      rintro e w9 ⟨rfl, rfl⟩
      go_wp2_with fail
      refine (T3 _).mono ?_
      rintro e w9 ⟨rfl, rfl⟩
      go_wp2_with fail
      refine (T4 _).mono ?_
      rintro e w9 ⟨rfl, rfl⟩
      go_wp2_with fail
      refine (T5 _).mono ?_
      rintro e w9 ⟨rfl, rfl⟩
      go_wp2_with fail
      refine (T6 _).mono ?_
      rintro e w9 ⟨rfl, rfl⟩
      go_wp2_with fail
      exact ⟨⟨k + 1, a3, b2, c3, d2, by omega, rfl, rfl, rfl, rfl, by push_cast; rfl, HRES, B, HB⟩, by simp [intOf]; omega⟩
    · obtain rfl : k = n := by omega
      have rq := HB.out
      have ltq := lt_of_block rq
      have sB := B.size
      obtain ⟨x0, x1, x2, x3, xf⟩ := block_cells4 rq
      have f0 := xf 0
      have f1 := xf 1
      have f2 := xf 2
      have f3 := xf 3
      clear xf
      have HR := hR
      clear hR
      go_wp2_with fail
      refine bodyPost_ret (v := .agg #[.int .u64 (a : Int), .int .u64 (b : Int), .int .u64 (c : Int), .int .u64 (d : Int)]) (by simp [results, Try.results23, go_sem, x0, x1, x2, x3]) rfl ⟨?_, by go_grown⟩
      rw [HR.out]
end Go.Proofs.Ytfejjmodkjpmfaa
