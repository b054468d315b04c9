/- Values: the document's digits, and what it shows. Written by wip/tools/gen9q2.py. -/
import Derived.Test.YtcehgfganjdghaaDoorQVTC28
namespace Go.Proofs.YtcehgfganjdghaaDoor.V7
open Go Go.RowKit
set_option linter.unusedVariables false
set_option linter.unusedSimpArgs false
/-- Digits laid so far: l of u, n is left. -/
structure DInv (u n : Nat) (l : List UInt8) : Prop where
  len : l.length ≤ 20
  small : n < 10 ^ (20 - l.length)
  ok : (l = [] ∧ n = u) ∨ (l ≠ [] ∧ n = 0 ∧ l = Lib.decDigits u) ∨ (l ≠ [] ∧ 0 < n ∧ Lib.decDigits n ++ l = Lib.decDigits u)
theorem DInv.start {u : Nat} (h : u < 18446744073709551616) : DInv u u [] := ⟨by simp, by simp; omega, .inl ⟨rfl, rfl⟩⟩
theorem DInv.step {u n : Nat} {l : List UInt8} (h : DInv u n l) (hn : 0 < n ∨ l = []) : DInv u (n / 10) (UInt8.ofNat (48 + n % 10) :: l) := by
  have hl := h.len
  have hs := h.small
  have h20 : l.length < 20 := by
    rcases hn with hn | hn
    · by_cases e : l.length = 20
      · rw [e] at hs; simp at hs; omega
      · omega
    · subst hn; simp
  have h10 : 10 ^ (20 - l.length) = 10 ^ (20 - (l.length + 1)) * 10 := by rw [← Nat.pow_succ]; congr 1; omega
  refine ⟨by simp; omega, by rw [List.length_cons]; rw [h10] at hs; exact Nat.div_lt_of_lt_mul (by rw [Nat.mul_comm]; exact hs), ?_⟩
  have key : Lib.decDigits n ++ l = Lib.decDigits u := by
    rcases h.ok with ⟨rfl, rfl⟩ | ⟨h1, rfl, h2⟩ | ⟨_, _, h2⟩
    · simp
    · rcases hn with hn | hn
      · omega
      · exact absurd hn h1
    · exact h2
  rw [Lib.decDigits] at key
  by_cases h9 : n < 10
  · rw [dif_pos h9] at key
    refine .inr (.inl ⟨by simp, by omega, ?_⟩)
    rw [← key, Nat.mod_eq_of_lt h9]; rfl
  · rw [dif_neg h9] at key
    refine .inr (.inr ⟨by simp, by omega, ?_⟩)
    rw [← key, List.append_assoc]; rfl
theorem DInv.done {u n : Nat} {l : List UInt8} (h : DInv u n l) (h0 : n = 0) (hl : l ≠ []) : l = Lib.decDigits u := by
  rcases h.ok with ⟨h1, _⟩ | ⟨_, _, h2⟩ | ⟨_, h2, _⟩
  · exact absurd h1 hl
  · exact h2
  · omega
def lenOf (v : Value) : Nat := match v with | .string b => b.size | _ => 0
theorem ret_strL {a b : List UInt8} (h : a = b) : Ending.returned (.string (str a)) = .returned (.string (str b)) := by rw [h]
set_option maxRecDepth 100000 in
set_option maxHeartbeats 4000000 in
theorem refDigits_any (a : Int) (hf : fits a) (w : World) :
    Calls Tryd.prog 80 #[.int .i64 a] w fun e w' => e = .returned (.string (str (Lib.itoa a))) ∧ w = w' := by
  obtain ⟨u, hu⟩ : ∃ u, u = a.natAbs := ⟨_, rfl⟩
  have hu64 : u < 18446744073709551616 := by obtain ⟨f1, f2⟩ := hf; omega
  have SZ := fun w => size_at a u (Lib.hid hu) hf w
  have hI := Lib.hid (DInv.start hu64)
  obtain ⟨R, hR⟩ : ∃ R, R = Lib.itoa a := ⟨_, rfl⟩
  rw [← hR]
  have HR := Lib.hid (show R = if a < 0 then 45 :: Lib.decDigits u else Lib.decDigits u by
    rw [hR]; unfold Lib.itoa; split
    · rw [hu]
    · rw [hu, show a.toNat = a.natAbs by omega])
  clear hR hu hf
  go_enter Tryd.func80, Tryd.ntmps80
  go_wp2_with fail
  refine (SZ _).mono ?_
  rintro e w' ⟨rfl, rfl⟩
  clear SZ
  go_wp2_with fail
  go_loop [3, 4] (fun n s => ∃ (m : Nat) (L : List UInt8), n = .int .u64 (m : Int) ∧ s = .string (str L) ∧ Hid (DInv u m L)) (fun _ s => 30 - lenOf s)
  case atStart => exact ⟨u, [], rfl, by rfl, hI⟩
  case round =>
    obtain ⟨m, L, rfl, rfl, HI⟩ := hrel
    have hm64 : (m : Int) < 100000000000000000000 := by
      have h1 := HI.out.small
      have h2 : 10 ^ (20 - L.length) ≤ 10 ^ 20 := Nat.pow_le_pow_right (by decide) (by omega)
      have h3 : (10 : Nat) ^ 20 = 100000000000000000000 := by decide
      omega
    by_cases hp : 0 < m
    · have tp : decide (0 < (m : Int)) = true := by simpa using hp
      have hst := HI.out.step (.inl hp)
      have hl20 := HI.out.len
      have HN := Lib.hid hst
      clear hst
      have hm10 : m % 10 < 10 := Nat.mod_lt _ (by decide)
      obtain ⟨r, hr⟩ : ∃ r, r = m % 10 := ⟨_, rfl⟩
      rw [← hr] at HN hm10
      obtain ⟨q, hq⟩ : ∃ q, q = m / 10 := ⟨_, rfl⟩
      rw [← hq] at HN
      have e1 : (m : Int) % 10 = (r : Int) := by omega
      have e2 : (m : Int) / 10 = (q : Int) := by omega
      have e3 : (m : Int).tmod 10 = (r : Int) := by rw [Int.tmod_eq_emod_of_nonneg (by omega)]; exact e1
      have e4 : (m : Int).tdiv 10 = (q : Int) := by rw [Int.tdiv_eq_ediv_of_nonneg (by omega)]; exact e2
      have hcat : ∀ (w : World), (Op.stringOp .add (str [UInt8.ofNat (48 + r)]) (str L)).run Tryd.prog w = .ok (.string (str (UInt8.ofNat (48 + r) :: L))) w := fun w => by rw [run_string_add_sum w _ _ (by rw [str_size, str_size]; simp; omega), str_cat]; rfl
      have hcat2 : ∀ (w : World), (binOp .add 9 (.string (str [UInt8.ofNat (48 + r)])) (.string (str L))).run Tryd.prog w = .ok (.string (str (UInt8.ofNat (48 + r) :: L))) w := fun w => by rw [binOp_string_add]; exact hcat w
      have HC0 := Lib.hid hcat
      have hz : (str L).size ≤ 20 := by rw [str_size]; exact hl20
      have HC := Lib.hid hcat2
      clear hcat hcat2 hr hq
      rcases (by omega : r = 0 ∨ r = 1 ∨ r = 2 ∨ r = 3 ∨ r = 4 ∨ r = 5 ∨ r = 6 ∨ r = 7 ∨ r = 8 ∨ r = 9) with rfl | rfl | rfl | rfl | rfl | rfl | rfl | rfl | rfl | rfl
      all_goals
        have hcat2 := HC.out
        have hcat := HC0.out
        clear HC HC0
        go_wp2_with fail
        exact ⟨⟨q, _, rfl, rfl, HN⟩, by have := HI.out.len; show 30 - (str (_ :: L)).size < 30 - (str L).size; rw [str_size, str_size, List.length_cons]; omega⟩
    · obtain rfl : m = 0 := by omega
      clear hp hm64
      cases L with
      | nil =>
        have HN := Lib.hid (HI.out.step (.inr rfl))
        have hne : (str []).toList.isEmpty = true := by rw [str_tl]; rfl
        have hcat : ∀ (w : World), (Op.stringOp .add (str [48]) (str [])).run Tryd.prog w = .ok (.string (str [48])) w := fun w => by rw [run_string_add_sum w _ _ (by decide), str_cat]; rfl
        have hcat2 : ∀ (w : World), (binOp .add 9 (.string (str [48])) (.string (str []))).run Tryd.prog w = .ok (.string (str [48])) w := fun w => by rw [binOp_string_add]; exact hcat w
        go_wp2_with fail
        exact ⟨⟨0, [48], rfl, rfl, HN⟩, by decide⟩
      | cons x t =>
        have HD := HI.out.done rfl (by simp)
        have HL := HI.out.len
        obtain ⟨L, hL⟩ : ∃ L, L = x :: t := ⟨_, rfl⟩
        have hne : (str L).toList.isEmpty = false := by rw [hL, str_tl]; rfl
        have hne2 : ((str L).toList == []) = false := by rw [hL, str_tl]; rfl
        rw [← hL] at HD HL HI ⊢
        have HDD := Lib.hid HD
        clear hL HD
        have hz : (str L).size ≤ 20 := by rw [str_size]; exact HL
        by_cases ha : a < 0
        · have ta : decide (a < 0) = true := by simpa using ha
          have hcat : ∀ (w : World), (Op.stringOp .add (str [45]) (str L)).run Tryd.prog w = .ok (.string (str (45 :: L))) w := fun w => by rw [run_string_add_sum w _ _ (by rw [str_size, str_size]; simp; omega), str_cat]; rfl
          have hcat2 : ∀ (w : World), (binOp .add 9 (.string (str [45])) (.string (str L))).run Tryd.prog w = .ok (.string (str (45 :: L))) w := fun w => by rw [binOp_string_add]; exact hcat w
          go_wp2_with fail
          go_ret
          exact ⟨by rw [HR.out, if_pos ha, ← HDD.out]; exact congrArg (fun s => Ending.returned (Value.string s)) (by show str [45] ++ str L = _; rw [str_cat]; rfl), rfl⟩
        · have ta : decide (a < 0) = false := by simpa using ha
          go_wp2_with fail
          go_ret
          exact ⟨ret_strL (by rw [HR.out, if_neg (by omega), HDD.out]), rfl⟩
set_option maxRecDepth 100000 in
theorem refShow_nil (i : Int) (s : List UInt8) (w : World) :
    Calls Tryd.prog 43 #[.agg #[.int .i64 0, .int .i64 i, .string (str s)]] w fun e w' => e = .returned (.string (str [110, 105, 108])) ∧ Below w.heap.size w w' := by
  have bel := (Below.refl w.heap.size w).alloc (Nat.le_refl _) (.cells #[.int .i64 0, .int .i64 i, .string (str s)] 30)
  go_enter Tryd.func43, Tryd.ntmps43
  go_wp2_with fail
  go_ret
  exact ⟨rfl, bel⟩
set_option maxRecDepth 100000 in
theorem refShow_no (s : List UInt8) (w : World) :
    Calls Tryd.prog 43 #[.agg #[.int .i64 1, .int .i64 0, .string (str s)]] w fun e w' => e = .returned (.string (str [102, 97, 108, 115, 101])) ∧ Below w.heap.size w w' := by
  have bel := (Below.refl w.heap.size w).alloc (Nat.le_refl _) (.cells #[.int .i64 1, .int .i64 0, .string (str s)] 30)
  go_enter Tryd.func43, Tryd.ntmps43
  go_wp2_with fail
  go_ret
  exact ⟨rfl, bel⟩
set_option maxRecDepth 100000 in
theorem refShow_yes (s : List UInt8) (w : World) :
    Calls Tryd.prog 43 #[.agg #[.int .i64 1, .int .i64 1, .string (str s)]] w fun e w' => e = .returned (.string (str [116, 114, 117, 101])) ∧ Below w.heap.size w w' := by
  have bel := (Below.refl w.heap.size w).alloc (Nat.le_refl _) (.cells #[.int .i64 1, .int .i64 1, .string (str s)] 30)
  go_enter Tryd.func43, Tryd.ntmps43
  go_wp2_with fail
  go_ret
  exact ⟨rfl, bel⟩
set_option maxRecDepth 100000 in
theorem refShow_int (i : Int) (s : List UInt8) (hf : fits i) (w : World) :
    Calls Tryd.prog 43 #[.agg #[.int .i64 2, .int .i64 i, .string (str s)]] w fun e w' => e = .returned (.string (str (Lib.itoa i))) ∧ Below w.heap.size w w' := by
  have bel := (Below.refl w.heap.size w).alloc (Nat.le_refl _) (.cells #[.int .i64 2, .int .i64 i, .string (str s)] 30)
  go_enter Tryd.func43, Tryd.ntmps43
  go_wp2_with fail
  refine (refDigits_any i hf _).mono ?_
  rintro e w' ⟨rfl, rfl⟩
  go_wp2_with fail
  go_ret
  exact ⟨rfl, bel⟩
set_option maxRecDepth 100000 in
theorem refShow_text (i : Int) (s : List UInt8) (w : World) :
    Calls Tryd.prog 43 #[.agg #[.int .i64 3, .int .i64 i, .string (str s)]] w fun e w' => e = .returned (.string (str s)) ∧ Below w.heap.size w w' := by
  have bel := (Below.refl w.heap.size w).alloc (Nat.le_refl _) (.cells #[.int .i64 3, .int .i64 i, .string (str s)] 30)
  go_enter Tryd.func43, Tryd.ntmps43
  go_wp2_with fail
  go_ret
  exact ⟨rfl, bel⟩
end Go.Proofs.YtcehgfganjdghaaDoor.V7
