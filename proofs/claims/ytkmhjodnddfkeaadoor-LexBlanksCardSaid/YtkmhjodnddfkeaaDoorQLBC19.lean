/- Lex: the document's Word. Written by wip/tools/gen16r.py. -/
import Derived.Test.YtkmhjodnddfkeaaDoorQLBC18
namespace Go.Proofs.YtkmhjodnddfkeaaDoor
open Go Go.RowKit
set_option linter.unusedVariables false
set_option linter.unusedSimpArgs false
set_option maxRecDepth 100000
def azB (c : UInt8) : Bool := decide (97 ≤ c.toNat ∧ c.toNat ≤ 122)
def wds : List UInt8 := [32, 97, 98, 111, 114, 116, 32, 97, 110, 100, 32, 100, 101, 108, 101, 116, 101, 32, 101, 108, 115, 101, 32, 102, 97, 108, 115, 101, 32, 102, 111, 114, 32, 103, 101, 116, 32, 104, 97, 115, 32, 105, 102, 32, 105, 110, 32, 108, 101, 110, 32, 108, 101, 116, 32, 110, 105, 108, 32, 110, 111, 116, 32, 111, 114, 32, 112, 117, 116, 32, 114, 101, 112, 101, 97, 116, 32, 114, 101, 116, 117, 114, 110, 32, 115, 99, 97, 110, 32, 115, 101, 116, 32, 115, 104, 111, 119, 32, 116, 114, 117, 101, 32]
theorem wds_len : wds.length = 103 := rfl
theorem words_az : ∀ l ∈ wordsL, l.all azB = true := by decide +kernel
theorem words_in : ∀ l ∈ wordsL, ∃ i, i < 103 ∧ i + l.length + 2 ≤ 103 ∧ (wds.drop i).take (l.length + 2) = 32 :: l ++ [32] := by
  have h : (wordsL.all fun l => (List.range 103).any fun i => decide (i + l.length + 2 ≤ 103) && ((wds.drop i).take (l.length + 2) == 32 :: l ++ [32])) = true := by kernel_rfl
  intro l hl
  have h1 := List.all_eq_true.1 h l hl
  obtain ⟨i, hi, h2⟩ := List.any_eq_true.1 h1
  simp only [Bool.and_eq_true, decide_eq_true_iff, beq_iff_eq] at h2
  exact ⟨i, List.mem_range.1 hi, h2.1, h2.2⟩
theorem words_out : ∀ i, i < 103 → wds.getD i 0 = 32 → (wds.drop (i + 1)).takeWhile (fun c => c != 32) = [] ∨ (wds.drop (i + 1)).takeWhile (fun c => c != 32) ∈ wordsL := by
  have h : ((List.range 103).all fun i => !(wds.getD i 0 == 32) || ((wds.drop (i + 1)).takeWhile (fun c => c != 32)).isEmpty || wordsL.contains ((wds.drop (i + 1)).takeWhile (fun c => c != 32))) = true := by kernel_rfl
  intro i hi hw
  have h1 := List.all_eq_true.1 h i (List.mem_range.2 hi)
  simp only [hw, beq_self_eq_true, Bool.not_true, Bool.false_or, Bool.or_eq_true, List.isEmpty_iff, List.contains_iff_mem] at h1
  exact h1
theorem words_two : ∀ i, i < 103 → (wds.drop i).take 2 ≠ [32, 32] := by
  have h : ((List.range 103).all fun i => !((wds.drop i).take 2 == [32, 32])) = true := by kernel_rfl
  intro i hi e
  have h1 := List.all_eq_true.1 h i (List.mem_range.2 hi)
  rw [e] at h1
  simp at h1
theorem words_hit {s : List UInt8} (hz : s.all azB = true) (hne : s ≠ []) {i : Nat} (hi : i < 103) (h : (wds.drop i).take (s.length + 2) = 32 :: s ++ [32]) : s ∈ wordsL := by
  have hd : wds.drop i = (32 :: s ++ [32]) ++ (wds.drop i).drop (s.length + 2) := by rw [← h, List.take_append_drop]
  have h0 : wds.getD i 0 = 32 := by
    have := congrArg (fun l => l.getD 0 0) hd
    simpa [List.getD, List.getElem?_drop] using this
  have h1 : wds.drop (i + 1) = s ++ 32 :: (wds.drop i).drop (s.length + 2) := by
    have := congrArg (List.drop 1) hd
    rw [List.drop_drop] at this
    rw [this]
    simp
  have h2 : (wds.drop (i + 1)).takeWhile (fun c => c != 32) = s := by
    rw [h1, List.takeWhile_append_of_pos]
    · simp
    · intro c hc
      have := List.all_eq_true.1 hz c hc
      unfold azB at this
      rw [decide_eq_true_iff] at this
      rw [bne_iff_ne]
      intro e
      rw [e] at this
      exact absurd this (by decide)
  rcases words_out i hi h0 with e | e
  · rw [h2] at e; exact absurd e hne
  · rwa [h2] at e
theorem word_of {s : List UInt8} (h : s ∈ wordsL) : wordB s = true := by unfold wordB; rw [List.contains_iff_mem]; exact h
theorem no_word {s : List UInt8} (h : ¬ s ∈ wordsL) : wordB s = false := by
  unfold wordB
  rw [Bool.eq_false_iff]
  intro e
  exact h (List.contains_iff_mem.1 e)
set_option maxHeartbeats 4000000 in
theorem refWord_any (s : List UInt8) (hl : s.length ≤ 100) (w : World) : Calls Tryd.prog 11 #[.string (str s)] w fun e w' => e = .returned (.bool (wordB s)) ∧ w' = w := by
  have hsz := str_size s
  go_enter Tryd.func11, Tryd.ntmps11
  go_wp2_with fail
  go_loopw [3] (fun i wr => ∃ j : Nat, j ≤ s.length ∧ i = .int .i64 (j : Int) ∧ Hid ((s.take j).all azB = true) ∧ wr = w) (fun i _ => s.length - (intOf i).toNat)
  case atStart => exact ⟨0, Nat.zero_le _, rfl, Lib.hid rfl, rfl⟩
  case round =>
    obtain ⟨j, hjs, rfl, HZ, rfl⟩ := hrel
    by_cases hlt : j < s.length
    · have h2 : ((j : Int) < (s.length : Int)) := by omega
      have h3 : decide ((j : Int) < (s.length : Int)) = true := decide_eq_true h2
      have HGet : s.getD j 0 = s[j] := by simp [List.getD, hlt]
      have hup : (s.take (j + 1)).all azB = ((s.take j).all azB && azB s[j]) := by
        rw [List.take_succ_eq_append_getElem hlt, List.all_append]
        simp
      have hin : s[j] ∈ s := List.getElem_mem _
      obtain ⟨c, hc⟩ : ∃ c, c = s[j] := ⟨_, rfl⟩
      rw [← hc] at HGet hup hin
      obtain ⟨m, hm⟩ : ∃ m, m = c.toNat := ⟨_, rfl⟩
      have hcc : ∀ h : j < (str s).size, ((str s)[j]'h).toNat = m := fun h => by rw [str_byte, HGet, hm]
      have HM := Lib.hid hm
      have HUP := Lib.hid hup
      have HIN := Lib.hid hin
      clear hc HGet hm hup hin
      by_cases hz : 97 ≤ m ∧ m ≤ 122
      · have i4 : ¬ ((m : Int) < 97) := by omega
        have i5 : ¬ ((122 : Int) < m) := by omega
        have HZ2 := Lib.hid (show (s.take (j + 1)).all azB = true by rw [HUP.out, HZ.out]; unfold azB; rw [← HM.out]; simpa using hz)
        clear hz
        go_wp2_with fail
        exact ⟨⟨j + 1, by omega, by push_cast; rfl, HZ2, trivial⟩, by simp [intOf]; omega⟩
      · have HB := Lib.hid (show wordB s = false from no_word (fun h => hz (by
          have := List.all_eq_true.1 (words_az s h) c HIN.out
          unfold azB at this
          rw [decide_eq_true_iff, ← HM.out] at this
          exact this)))
        by_cases hr : m < 97
        · have i4 : ((m : Int) < 97) := by omega
          clear hz hr
          go_wp2_with fail
          go_ret
          exact ⟨by rw [HB.out]; rfl, rfl⟩
        · have i4 : ¬ ((m : Int) < 97) := by omega
          have i5 : ((122 : Int) < m) := by omega
          clear hz hr
          go_wp2_with fail
          go_ret
          exact ⟨by rw [HB.out]; rfl, rfl⟩
    · have h2 : ¬ ((j : Int) < (s.length : Int)) := by omega
      have h3 : decide ((j : Int) < (s.length : Int)) = false := decide_eq_false h2
      obtain rfl : j = s.length := by omega
      rw [List.take_of_length_le (Nat.le_refl _)] at HZ
      go_wp2_with fail
      clear h2 h3 hlt hjs
      go_loopw [4] (fun i wr2 => ∃ k : Nat, k ≤ 103 ∧ i = .int .i64 (k : Int) ∧ Hid (∀ i, i < k → (wds.drop i).take (s.length + 2) ≠ 32 :: s ++ [32]) ∧ wr2 = wr) (fun i _ => 103 - (intOf i).toNat)
      case atStart => exact ⟨0, Nat.zero_le _, rfl, Lib.hid (fun i h => absurd h (Nat.not_lt_zero _)), rfl⟩
      case round =>
        obtain ⟨k, hk, rfl, HN, rfl⟩ := hrel
        obtain ⟨a1, ha1⟩ : ∃ a1, a1 = k + s.length := ⟨_, rfl⟩
        obtain ⟨a2, ha2⟩ : ∃ a2, a2 = a1 + 2 := ⟨_, rfl⟩
        have Y1 : (k : Int) + (s.length : Int) = (a1 : Int) := by rw [ha1]; push_cast; rfl
        have Y2 : (a1 : Int) + 2 = (a2 : Int) := by rw [ha2]; push_cast; rfl
        have E1 : IntKind.i64.wrap ((k : Int) + (s.length : Int)) = (a1 : Int) := by rw [IntKind.wrap_i64, ha1]; push_cast; omega
        have E2 : IntKind.i64.wrap ((a1 : Int) + 2) = (a2 : Int) := by rw [IntKind.wrap_i64, ha2]; push_cast; omega
        have hb1 : a1 ≤ 300 := by omega
        have hb2 : a2 ≤ 302 := by omega
        have HA1 := Lib.hid ha1
        have HA2 := Lib.hid ha2
        have hka : k ≤ a2 := by omega
        clear ha1 ha2
        by_cases hle : a2 ≤ 103
        · have h2 : ((a2 : Int) ≤ 103) := by omega
          have hsub : a2 - k = s.length + 2 := by rw [HA2.out, HA1.out]; omega
          by_cases hne : s = []
          · have t0 : ((str s).toList == []) = true := by rw [tl_eq]; exact decide_eq_true hne
            have HN2 := Lib.hid (show ∀ i, i < k + 1 → (wds.drop i).take (s.length + 2) ≠ 32 :: s ++ [32] from fun i hi => by
              rcases Nat.lt_succ_iff_lt_or_eq.1 hi with h | h
              · exact HN.out i h
              · rw [h, hne]; exact words_two k (by have := HA2.out; omega))
            clear hne
            go_wp2_with fail
            exact ⟨⟨k + 1, by have := HA2.out; omega, by push_cast; rfl, HN2, trivial⟩, by have := HA2.out; simp [intOf]; omega⟩
          · have t0 : ((str s).toList == []) = false := by rw [tl_eq]; exact decide_eq_false hne
            obtain ⟨X, hX⟩ : ∃ X, X = (⟨#[32, 97, 98, 111, 114, 116, 32, 97, 110, 100, 32, 100, 101, 108, 101, 116, 101, 32, 101, 108, 115, 101, 32, 102, 97, 108, 115, 101, 32, 102, 111, 114, 32, 103, 101, 116, 32, 104, 97, 115, 32, 105, 102, 32, 105, 110, 32, 108, 101, 110, 32, 108, 101, 116, 32, 110, 105, 108, 32, 110, 111, 116, 32, 111, 114, 32, 112, 117, 116, 32, 114, 101, 112, 101, 97, 116, 32, 114, 101, 116, 117, 114, 110, 32, 115, 99, 97, 110, 32, 115, 101, 116, 32, 115, 104, 111, 119, 32, 116, 114, 117, 101, 32]⟩ : ByteArray).extract k a2 := ⟨_, rfl⟩
            obtain ⟨S1, hS1⟩ : ∃ S1, S1 = (⟨#[32]⟩ : ByteArray) ++ str s := ⟨_, rfl⟩
            obtain ⟨S2, hS2⟩ : ∃ S2, S2 = S1 ++ (⟨#[32]⟩ : ByteArray) := ⟨_, rfl⟩
            have hX2 : X = str ((wds.drop k).take (s.length + 2)) := by rw [hX, ← hsub, ← str_extract]; rfl
            have hS1e : S1 = str (32 :: s) := by rw [hS1]; exact str_append [32] s
            have hS2e : S2 = str (32 :: s ++ [32]) := by rw [hS2, hS1e]; exact str_append (32 :: s) [32]
            have hS1s : S1.size = s.length + 1 := by rw [hS1e, str_size]; rfl
            have HC := Lib.hid (show (X.toList == S2.toList) = decide ((wds.drop k).take (s.length + 2) = 32 :: s ++ [32]) by rw [hX2, hS2e]; exact eq_str _ _)
            replace hX := hX.symm
            replace hS1 := hS1.symm
            replace hS2 := hS2.symm
            clear hX2 hS1e hS2e hsub
            by_cases hit : (wds.drop k).take (s.length + 2) = 32 :: s ++ [32]
            · have tc : (X.toList == S2.toList) = true := by rw [HC.out]; exact decide_eq_true hit
              have HB := Lib.hid (word_of (words_hit HZ.out hne (by have := HA2.out; omega) hit))
              clear hit hne
              go_wp2_with fail
              go_ret
              exact ⟨by rw [HB.out]; rfl, rfl⟩
            · have tc : (X.toList == S2.toList) = false := by rw [HC.out]; exact decide_eq_false hit
              have HN2 := Lib.hid (show ∀ i, i < k + 1 → (wds.drop i).take (s.length + 2) ≠ 32 :: s ++ [32] from fun i hi => by
                rcases Nat.lt_succ_iff_lt_or_eq.1 hi with h | h
                · exact HN.out i h
                · rw [h]; exact hit)
              clear hit hne
              go_wp2_with fail
              exact ⟨⟨k + 1, by have := HA2.out; omega, by push_cast; rfl, HN2, trivial⟩, by have := HA2.out; simp [intOf]; omega⟩
        · have h2 : ¬ ((a2 : Int) ≤ 103) := by omega
          have HB := Lib.hid (show wordB s = false from no_word (fun h => by
            obtain ⟨i, i1, i2, i3⟩ := words_in s h
            refine HN.out i ?_ i3
            have := HA2.out; have := HA1.out; omega))
          go_wp2_with fail
          go_ret
          exact ⟨by rw [HB.out]; rfl, rfl⟩
end Go.Proofs.YtkmhjodnddfkeaaDoor
