/- The small functions of the program's tag. -/
import Derived.Test.YtfejjmodkjpmfaaS03P
import Derived.Test.YtfejjmodkjpmfaaS03N
namespace Go.Proofs.Ytfejjmodkjpmfaa
open Go.RowKit
set_option linter.unusedVariables false
set_option linter.unusedSimpArgs false
theorem ix0 (a0 a1 a2 a3 a4 a5 a6 a7 : Value) (w : World) : (Instr.index 47 (.agg #[a0, a1, a2, a3, a4, a5, a6, a7]) (.int .i64 0)).run Try.prog w = .ok a0 w := by kernel_rfl
theorem ix1 (a0 a1 a2 a3 a4 a5 a6 a7 : Value) (w : World) : (Instr.index 47 (.agg #[a0, a1, a2, a3, a4, a5, a6, a7]) (.int .i64 1)).run Try.prog w = .ok a1 w := by kernel_rfl
theorem ix2 (a0 a1 a2 a3 a4 a5 a6 a7 : Value) (w : World) : (Instr.index 47 (.agg #[a0, a1, a2, a3, a4, a5, a6, a7]) (.int .i64 2)).run Try.prog w = .ok a2 w := by kernel_rfl
theorem ix3 (a0 a1 a2 a3 a4 a5 a6 a7 : Value) (w : World) : (Instr.index 47 (.agg #[a0, a1, a2, a3, a4, a5, a6, a7]) (.int .i64 3)).run Try.prog w = .ok a3 w := by kernel_rfl
theorem ix4 (a0 a1 a2 a3 a4 a5 a6 a7 : Value) (w : World) : (Instr.index 47 (.agg #[a0, a1, a2, a3, a4, a5, a6, a7]) (.int .i64 4)).run Try.prog w = .ok a4 w := by kernel_rfl
theorem ix5 (a0 a1 a2 a3 a4 a5 a6 a7 : Value) (w : World) : (Instr.index 47 (.agg #[a0, a1, a2, a3, a4, a5, a6, a7]) (.int .i64 5)).run Try.prog w = .ok a5 w := by kernel_rfl
theorem ix6 (a0 a1 a2 a3 a4 a5 a6 a7 : Value) (w : World) : (Instr.index 47 (.agg #[a0, a1, a2, a3, a4, a5, a6, a7]) (.int .i64 6)).run Try.prog w = .ok a6 w := by kernel_rfl
theorem ix7 (a0 a1 a2 a3 a4 a5 a6 a7 : Value) (w : World) : (Instr.index 47 (.agg #[a0, a1, a2, a3, a4, a5, a6, a7]) (.int .i64 7)).run Try.prog w = .ok a7 w := by kernel_rfl
theorem or_byte2 (m c k : Nat) (P : Int) (hP : P = ((256 ^ k : Nat) : Int)) (hk : k < 8) (hm : m < 256 ^ k) (hc : c < 256) : bits .or .u64 (m : Int) ((c : Int) * P) = ((m + c * 256 ^ k : Nat) : Int) := by
  have h0 : (256 : Nat) ^ k ≤ 256 ^ 7 := Nat.pow_le_pow_right (by decide) (by omega)
  have h2 : c * 256 ^ k < 18446744073709551616 := by
    have : c * 256 ^ k ≤ 255 * 256 ^ 7 := Nat.mul_le_mul (by omega) h0
    omega
  rw [hP, ← or_byte m c k hk hm hc]
  congr 1
  rw [IntKind.wrap_u64, ← Int.natCast_mul]; omega
theorem le8_two (m c k : Nat) (r : List UInt8) (hk : k < r.length) (hm : m = le8 (r.take k)) (hc : c = (r.getD k 0).toNat) : m + c * 256 ^ k = le8 (r.take (k + 1)) ∧ m < 256 ^ k := by
  have e : r.take (k + 1) = r.take k ++ [r.getD k 0] := by
    rw [List.take_add_one]; simp [List.getD, hk]
  have hl : (r.take k).length = k := by simp; omega
  have h1 := le8_lt (r.take k)
  rw [hl] at h1
  rw [e, le8_snoc, hl, hm, hc]
  exact ⟨rfl, h1⟩
set_option maxRecDepth 100000 in
set_option maxHeartbeats 1000000 in
theorem word_any (r0 r1 r2 r3 r4 r5 r6 r7 : UInt8) (w : World) :
    Calls Try.prog 22 #[.agg #[bv r0, bv r1, bv r2, bv r3, bv r4, bv r5, bv r6, bv r7]] w fun e w' => e = .returned (.int .u64 (le8 [r0, r1, r2, r3, r4, r5, r6, r7] : Int)) ∧ Below w.heap.size w w' := by
  unfold bv
  obtain ⟨c0, ec0⟩ : ∃ c, c = r0.toNat := ⟨_, rfl⟩
  have hc0 : c0 < 256 := by rw [ec0]; exact r0.toNat_lt
  rw [← ec0]
  have EC0 := Lib.hid ec0
  clear ec0
  obtain ⟨c1, ec1⟩ : ∃ c, c = r1.toNat := ⟨_, rfl⟩
  have hc1 : c1 < 256 := by rw [ec1]; exact r1.toNat_lt
  rw [← ec1]
  have EC1 := Lib.hid ec1
  clear ec1
  obtain ⟨c2, ec2⟩ : ∃ c, c = r2.toNat := ⟨_, rfl⟩
  have hc2 : c2 < 256 := by rw [ec2]; exact r2.toNat_lt
  rw [← ec2]
  have EC2 := Lib.hid ec2
  clear ec2
  obtain ⟨c3, ec3⟩ : ∃ c, c = r3.toNat := ⟨_, rfl⟩
  have hc3 : c3 < 256 := by rw [ec3]; exact r3.toNat_lt
  rw [← ec3]
  have EC3 := Lib.hid ec3
  clear ec3
  obtain ⟨c4, ec4⟩ : ∃ c, c = r4.toNat := ⟨_, rfl⟩
  have hc4 : c4 < 256 := by rw [ec4]; exact r4.toNat_lt
  rw [← ec4]
  have EC4 := Lib.hid ec4
  clear ec4
  obtain ⟨c5, ec5⟩ : ∃ c, c = r5.toNat := ⟨_, rfl⟩
  have hc5 : c5 < 256 := by rw [ec5]; exact r5.toNat_lt
  rw [← ec5]
  have EC5 := Lib.hid ec5
  clear ec5
  obtain ⟨c6, ec6⟩ : ∃ c, c = r6.toNat := ⟨_, rfl⟩
  have hc6 : c6 < 256 := by rw [ec6]; exact r6.toNat_lt
  rw [← ec6]
  have EC6 := Lib.hid ec6
  clear ec6
  obtain ⟨c7, ec7⟩ : ∃ c, c = r7.toNat := ⟨_, rfl⟩
  have hc7 : c7 < 256 := by rw [ec7]; exact r7.toNat_lt
  rw [← ec7]
  have EC7 := Lib.hid ec7
  clear ec7
  have jx0 := ix0 (.int .u8 c0) (.int .u8 c1) (.int .u8 c2) (.int .u8 c3) (.int .u8 c4) (.int .u8 c5) (.int .u8 c6) (.int .u8 c7)
  have jx1 := ix1 (.int .u8 c0) (.int .u8 c1) (.int .u8 c2) (.int .u8 c3) (.int .u8 c4) (.int .u8 c5) (.int .u8 c6) (.int .u8 c7)
  have jx2 := ix2 (.int .u8 c0) (.int .u8 c1) (.int .u8 c2) (.int .u8 c3) (.int .u8 c4) (.int .u8 c5) (.int .u8 c6) (.int .u8 c7)
  have jx3 := ix3 (.int .u8 c0) (.int .u8 c1) (.int .u8 c2) (.int .u8 c3) (.int .u8 c4) (.int .u8 c5) (.int .u8 c6) (.int .u8 c7)
  have jx4 := ix4 (.int .u8 c0) (.int .u8 c1) (.int .u8 c2) (.int .u8 c3) (.int .u8 c4) (.int .u8 c5) (.int .u8 c6) (.int .u8 c7)
  have jx5 := ix5 (.int .u8 c0) (.int .u8 c1) (.int .u8 c2) (.int .u8 c3) (.int .u8 c4) (.int .u8 c5) (.int .u8 c6) (.int .u8 c7)
  have jx6 := ix6 (.int .u8 c0) (.int .u8 c1) (.int .u8 c2) (.int .u8 c3) (.int .u8 c4) (.int .u8 c5) (.int .u8 c6) (.int .u8 c7)
  have jx7 := ix7 (.int .u8 c0) (.int .u8 c1) (.int .u8 c2) (.int .u8 c3) (.int .u8 c4) (.int .u8 c5) (.int .u8 c6) (.int .u8 c7)
  go_enter Try.func22, Try.ntmps22
  go_wp2_with fail
  have B := Below.refl w.heap.size w
  go_loopw [3, 7] (fun v i wr => ∃ k m : Nat, k ≤ 8 ∧ v = .int .u64 (m : Int) ∧ i = .int .i64 (k : Int) ∧ Hid (m = le8 ([r0, r1, r2, r3, r4, r5, r6, r7].take k)) ∧ Below w.heap.size w wr) (fun _ i _ => 8 - (intOf i).toNat)
  case atStart => exact ⟨0, 0, by omega, rfl, rfl, rfl, by go_grown⟩
  case round =>
    obtain ⟨k, m, hk, rfl, rfl, hm, B⟩ := hrel
    by_cases hlt : k < 8
    · have h8 : k = 0 ∨ k = 1 ∨ k = 2 ∨ k = 3 ∨ k = 4 ∨ k = 5 ∨ k = 6 ∨ k = 7 := by omega
      rcases h8 with rfl | rfl | rfl | rfl | rfl | rfl | rfl | rfl
      · obtain ⟨q1, q2⟩ := le8_two m c0 0 [r0, r1, r2, r3, r4, r5, r6, r7] (by simp) hm.out EC0.out
        obtain ⟨m', em⟩ : ∃ m', m' = m + c0 * 256 ^ 0 := ⟨_, rfl⟩
        have q3 := or_byte2 m c0 0 1 (by decide) (by decide) q2 hc0
        rw [← em] at q1 q3
        have HQ := Lib.hid q1
        clear q1 q2 hm em
        have hm0 : (m : Int) = m := rfl
        have q4 : bits .or .u64 (m : Int) (c0 : Int) = (m' : Int) := by simpa using q3
        go_wp2_with fail
        exact ⟨⟨1, m', by omega, rfl, rfl, HQ, B⟩, by simp [intOf]⟩
      · obtain ⟨q1, q2⟩ := le8_two m c1 1 [r0, r1, r2, r3, r4, r5, r6, r7] (by simp) hm.out EC1.out
        obtain ⟨m', em⟩ : ∃ m', m' = m + c1 * 256 ^ 1 := ⟨_, rfl⟩
        have q3 := or_byte2 m c1 1 256 (by decide) (by decide) q2 hc1
        rw [← em] at q1 q3
        have HQ := Lib.hid q1
        clear q1 q2 hm em
        
        
        go_wp2_with fail
        exact ⟨⟨2, m', by omega, rfl, rfl, HQ, B⟩, by simp [intOf]⟩
      · obtain ⟨q1, q2⟩ := le8_two m c2 2 [r0, r1, r2, r3, r4, r5, r6, r7] (by simp) hm.out EC2.out
        obtain ⟨m', em⟩ : ∃ m', m' = m + c2 * 256 ^ 2 := ⟨_, rfl⟩
        have q3 := or_byte2 m c2 2 65536 (by decide) (by decide) q2 hc2
        rw [← em] at q1 q3
        have HQ := Lib.hid q1
        clear q1 q2 hm em
        
        
        go_wp2_with fail
        exact ⟨⟨3, m', by omega, rfl, rfl, HQ, B⟩, by simp [intOf]⟩
      · obtain ⟨q1, q2⟩ := le8_two m c3 3 [r0, r1, r2, r3, r4, r5, r6, r7] (by simp) hm.out EC3.out
        obtain ⟨m', em⟩ : ∃ m', m' = m + c3 * 256 ^ 3 := ⟨_, rfl⟩
        have q3 := or_byte2 m c3 3 16777216 (by decide) (by decide) q2 hc3
        rw [← em] at q1 q3
        have HQ := Lib.hid q1
        clear q1 q2 hm em
        
        
        go_wp2_with fail
        exact ⟨⟨4, m', by omega, rfl, rfl, HQ, B⟩, by simp [intOf]⟩
      · obtain ⟨q1, q2⟩ := le8_two m c4 4 [r0, r1, r2, r3, r4, r5, r6, r7] (by simp) hm.out EC4.out
        obtain ⟨m', em⟩ : ∃ m', m' = m + c4 * 256 ^ 4 := ⟨_, rfl⟩
        have q3 := or_byte2 m c4 4 4294967296 (by decide) (by decide) q2 hc4
        rw [← em] at q1 q3
        have HQ := Lib.hid q1
        clear q1 q2 hm em
        
        
        go_wp2_with fail
        exact ⟨⟨5, m', by omega, rfl, rfl, HQ, B⟩, by simp [intOf]⟩
      · obtain ⟨q1, q2⟩ := le8_two m c5 5 [r0, r1, r2, r3, r4, r5, r6, r7] (by simp) hm.out EC5.out
        obtain ⟨m', em⟩ : ∃ m', m' = m + c5 * 256 ^ 5 := ⟨_, rfl⟩
        have q3 := or_byte2 m c5 5 1099511627776 (by decide) (by decide) q2 hc5
        rw [← em] at q1 q3
        have HQ := Lib.hid q1
        clear q1 q2 hm em
        
        
        go_wp2_with fail
        exact ⟨⟨6, m', by omega, rfl, rfl, HQ, B⟩, by simp [intOf]⟩
      · obtain ⟨q1, q2⟩ := le8_two m c6 6 [r0, r1, r2, r3, r4, r5, r6, r7] (by simp) hm.out EC6.out
        obtain ⟨m', em⟩ : ∃ m', m' = m + c6 * 256 ^ 6 := ⟨_, rfl⟩
        have q3 := or_byte2 m c6 6 281474976710656 (by decide) (by decide) q2 hc6
        rw [← em] at q1 q3
        have HQ := Lib.hid q1
        clear q1 q2 hm em
        
        
        go_wp2_with fail
        exact ⟨⟨7, m', by omega, rfl, rfl, HQ, B⟩, by simp [intOf]⟩
      · obtain ⟨q1, q2⟩ := le8_two m c7 7 [r0, r1, r2, r3, r4, r5, r6, r7] (by simp) hm.out EC7.out
        obtain ⟨m', em⟩ : ∃ m', m' = m + c7 * 256 ^ 7 := ⟨_, rfl⟩
        have q3 := or_byte2 m c7 7 72057594037927936 (by decide) (by decide) q2 hc7
        rw [← em] at q1 q3
        have HQ := Lib.hid q1
        clear q1 q2 hm em
        
        
        go_wp2_with fail
        exact ⟨⟨8, m', by omega, rfl, rfl, HQ, B⟩, by simp [intOf]⟩
    · obtain rfl : k = 8 := by omega
      have HM := hm
      clear hm
      go_wp2_with fail
      go_ret
      refine ⟨?_, B⟩
      rw [HM.out]
      rfl
end Go.Proofs.Ytfejjmodkjpmfaa
