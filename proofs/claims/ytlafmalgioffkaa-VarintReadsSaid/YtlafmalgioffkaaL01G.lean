/- Both readers of layer 1 step alike. Written by wip/tools/gen1k.py. -/
import Derived.Test.YtlafmalgioffkaaL01J
import Derived.Test.YtlafmalgioffkaaL01U
namespace Go.Proofs.Ytlafmalgioffkaa
open Go.RowKit
set_option linter.unusedVariables false
set_option linter.unusedSimpArgs false
section
variable {B : Nat} {v : Value} {l : List UInt8} {at_ err n c : Nat} {z z0 : Value} {w w' : World} {e : Ending}
/-- What a step hands back, and what it leaves. -/
def PR (B : Nat) (v : Value) (l : List UInt8) (at_ err : Nat) (z : Value) (w : World) (e : Ending) (w' : World) : Prop := e = .returned z ∧ RS w' B v l at_ err ∧ w.grownBy w' (some B)
def PT (B : Nat) (l : List UInt8) (at_ err : Nat) (z : Value) (w : World) (e : Ending) (w' : World) : Prop := e = .returned z ∧ TS w' B l at_ err ∧ w.grownBy w' (some B)
theorem rr_done (he : err ≠ 0) (h : RR B v l at_ err n c z z0 w e w') : PR B v l at_ err z0 w e w' := by simpa [RR, PR, he] using h
theorem rr_bad (he : err = 0) (hc : c ≠ 0) (h : RR B v l at_ err n c z z0 w e w') : PR B v l at_ c z0 w e w' := by simpa [RR, PR, he, hc] using h
theorem rr_ok (he : err = 0) (hc : c = 0) (h : RR B v l at_ err n c z z0 w e w') : PR B v l (at_ + n) 0 z w e w' := by simpa [RR, PR, he, hc] using h
theorem int_ne {n : Nat} (h : n ≠ 0) : ((n : Int) != 0) = true := by simp; omega
theorem int_beq {n : Nat} (h : n ≠ 0) : ((n : Int) == 0) = false := by simp; omega
end
theorem cutText_err {l s : List UInt8} {n c : Nat} (h : cutTextL l = (s, n, c)) (hc : c ≠ 0) : s = [] ∧ n = 0 := by
  obtain ⟨x, n0, c0, h0⟩ : ∃ x n c, cutL l = (x, n, c) := ⟨_, _, _, rfl⟩
  rw [cutTextL_eq h0] at h
  split at h
  · cases h; exact ⟨rfl, rfl⟩
  · split at h
    · cases h; exact ⟨rfl, rfl⟩
    · split at h
      · cases h; exact ⟨rfl, rfl⟩
      · cases h; exact absurd rfl hc
/-- A step of both. -/
def Both (B D : Nat) (v : Value) (l : List UInt8) (at_ err : Nat) (F G : Nat) (xs : Array Value) (z : Value) : Prop :=
  ∃ at' err', (∀ w, RS w B v l at_ err → Calls Try.prog F (#[.pointer (some ⟨B, 0, none⟩)] ++ xs) w (PR B v l at' err' z w)) ∧ ∀ w, TS w D l at_ err → Calls Try.prog G (#[.pointer (some ⟨D, 0, none⟩)] ++ xs) w (PT D l at' err' z w)
theorem num_two (B D : Nat) (v : Value) (l : List UInt8) (at_ err : Nat) (hat : at_ ≤ l.length) (hle : l.length ≤ 2000) (most : Int) (hu : U64 most) : ∃ X : Int, Both B D v l at_ err 32 33 #[.int .u64 most] (.int .u64 X) := by
  obtain ⟨d, hd⟩ : ∃ d, d = l.drop at_ := ⟨_, rfl⟩
  obtain ⟨x, n, c, hc⟩ : ∃ x n c, cutL d = (x, n, c) := ⟨_, _, _, rfl⟩
  have hdl : d.length = l.length - at_ := by rw [hd]; simp
  obtain ⟨f1, f2, f3, f4, f5, f6⟩ := cutL_facts hc
  have hc' := hc
  rw [hd] at hc'
  have hn : at_ + n ≤ l.length := by omega
  have C := fun w (h : RS w B v l at_ err) => limited_any B most v l at_ err x n c hc' w h
  by_cases he : err = 0
  · by_cases h0 : c = 0
    · by_cases hx : most < (x : Int)
      · have C' : ∀ w, RS w B v l at_ err → Calls Try.prog 51 #[.agg #[.pointer (some ⟨B, 0, none⟩), .int .u64 most]] w fun e w' => e = .returned (.tuple #[.int .u64 0, .int .i64 ((0 : Nat) : Int), .int .i64 ((8 : Nat) : Int)]) ∧ Below w.heap.size w w' := fun w h => (C w h).mono (by rintro e w' ⟨rfl, g⟩; rw [if_pos hx]; exact ⟨rfl, g⟩)
        exact ⟨0, at_, 8, fun w h => (num_meth B most v l at_ err 0 8 _ w h (by omega) C').mono fun e w' h => rr_bad he (by decide) h, fun w h => tnum_over D l at_ err most he d hd.symm (by omega) x n (h0 ▸ hc) hx w h⟩
      · have C' := fun w (h : RS w B v l at_ err) => (C w h).mono (R' := fun e w' => e = .returned (.tuple #[.int .u64 (x : Int), .int .i64 (n : Int), .int .i64 (c : Int)]) ∧ Below w.heap.size w w') (by rintro e w' ⟨rfl, g⟩; rw [if_neg hx]; exact ⟨rfl, g⟩)
        exact ⟨(x : Int), at_ + n, 0, fun w h => (num_meth B most v l at_ err n c _ w h hn C').mono fun e w' h => rr_ok he h0 h, fun w h => tnum_ok D l at_ err most he d hd.symm (by omega) x n (h0 ▸ hc) hx hn w h⟩
    · have hx : ¬ most < (x : Int) := by have := hu.1; have := (f4 h0).1; omega
      have C' := fun w (h : RS w B v l at_ err) => (C w h).mono (R' := fun e w' => e = .returned (.tuple #[.int .u64 (x : Int), .int .i64 (n : Int), .int .i64 (c : Int)]) ∧ Below w.heap.size w w') (by rintro e w' ⟨rfl, g⟩; rw [if_neg hx]; exact ⟨rfl, g⟩)
      exact ⟨0, at_, c, fun w h => (num_meth B most v l at_ err n c _ w h hn C').mono fun e w' h => rr_bad he h0 h, fun w h => tnum_bad D l at_ err most hu.1 he d hd.symm (by omega) x n c hc (int_beq h0) w h⟩
  · have C' : ∃ z N K, at_ + N ≤ l.length ∧ ∀ w, RS w B v l at_ err → Calls Try.prog 51 #[.agg #[.pointer (some ⟨B, 0, none⟩), .int .u64 most]] w fun e w' => e = .returned (.tuple #[z, .int .i64 ((N : Nat) : Int), .int .i64 ((K : Nat) : Int)]) ∧ Below w.heap.size w w' := by
      by_cases hx : most < (x : Int)
      · exact ⟨.int .u64 0, 0, 8, by omega, fun w h => (C w h).mono (by rintro e w' ⟨rfl, g⟩; rw [if_pos hx]; exact ⟨rfl, g⟩)⟩
      · exact ⟨.int .u64 (x : Int), n, c, hn, fun w h => (C w h).mono (by rintro e w' ⟨rfl, g⟩; rw [if_neg hx]; exact ⟨rfl, g⟩)⟩
    obtain ⟨z, N, K, hN, C'⟩ := C'
    exact ⟨0, at_, err, fun w h => (num_meth B most v l at_ err N K _ w h hN C').mono fun e w' h => rr_done he h, fun w h => tnum_done D l at_ err most (int_ne he) w h⟩
theorem int_two (B D : Nat) (v : Value) (l : List UInt8) (at_ err : Nat) (hat : at_ ≤ l.length) (hle : l.length ≤ 2000) : ∃ X : Int, Both B D v l at_ err 34 35 #[] (.int .i64 X) := by
  obtain ⟨d, hd⟩ : ∃ d, d = l.drop at_ := ⟨_, rfl⟩
  obtain ⟨x, n, c, hc⟩ : ∃ x n c, cutL d = (x, n, c) := ⟨_, _, _, rfl⟩
  have hdl : d.length = l.length - at_ := by rw [hd]; simp
  obtain ⟨f1, f2, f3, f4, f5, f6⟩ := cutL_facts hc
  have hc' := hc
  rw [hd] at hc'
  have hn : at_ + n ≤ l.length := by omega
  have C := fun w (h : RS w B v l at_ err) => rdInt_any B v l at_ err x n c hc' w h
  by_cases he : err = 0
  · by_cases h0 : c = 0
    · exact ⟨unzig x, at_ + n, c, fun w h => (int_meth B v l at_ err n c _ w h hn C).mono fun e w' h => by have := rr_ok he h0 h; rw [h0]; exact this, fun w h => tint_go D l at_ err he d hd.symm (by omega) x n c hc hn w h⟩
    · obtain ⟨rfl, rfl⟩ := f4 h0
      exact ⟨0, at_, c, fun w h => (int_meth B v l at_ err 0 c _ w h hn C).mono fun e w' h => rr_bad he h0 h, fun w h => tint_go D l at_ err he d hd.symm (by omega) 0 0 c hc hn w h⟩
  · exact ⟨0, at_, err, fun w h => (int_meth B v l at_ err n c _ w h hn C).mono fun e w' h => rr_done he h, fun w h => tint_done D l at_ err (int_ne he) w h⟩
theorem text_two (B D : Nat) (v : Value) (l : List UInt8) (at_ err : Nat) (hat : at_ ≤ l.length) (hle : l.length ≤ 2000) : ∃ s : List UInt8, Both B D v l at_ err 36 37 #[] (.string (str s)) := by
  obtain ⟨d, hd⟩ : ∃ d, d = l.drop at_ := ⟨_, rfl⟩
  obtain ⟨x, n0, c0, hc⟩ : ∃ x n c, cutL d = (x, n, c) := ⟨_, _, _, rfl⟩
  have hdl : d.length = l.length - at_ := by rw [hd]; simp
  obtain ⟨s, n, c, ht⟩ : ∃ s n c, cutTextL d = (s, n, c) := ⟨_, _, _, rfl⟩
  have f2 := (cutTextL_fact ht).1
  have ht' := ht
  rw [hd] at ht'
  have hn : at_ + n ≤ l.length := by omega
  have C := fun w (h : RS w B v l at_ err) => rdText_any B v l at_ err n c s ht' w h
  by_cases he : err = 0
  · by_cases h0 : c = 0
    · exact ⟨s, at_ + n, c, fun w h => (text_meth B v l at_ err n c _ w h hn C).mono fun e w' h => by have := rr_ok he h0 h; rw [h0]; exact this, fun w h => ttext_go D l at_ err he d hd.symm (by omega) x n0 c0 hc s n c ht hn w h⟩
    · obtain ⟨rfl, rfl⟩ := cutText_err ht h0
      exact ⟨[], at_, c, fun w h => (text_meth B v l at_ err 0 c _ w h hn C).mono fun e w' h => rr_bad he h0 h, fun w h => ttext_go D l at_ err he d hd.symm (by omega) x n0 c0 hc [] 0 c ht hn w h⟩
  · exact ⟨[], at_, err, fun w h => (text_meth B v l at_ err n c _ w h hn C).mono fun e w' h => rr_done he h, fun w h => ttext_done D l at_ err (int_ne he) w h⟩
theorem byte_two (B D : Nat) (v : Value) (l : List UInt8) (at_ err : Nat) (hat : at_ ≤ l.length) (hle : l.length ≤ 2000) : ∃ X : Int, Both B D v l at_ err 38 39 #[] (.int .u8 X) := by
  by_cases hx : at_ = l.length
  · have C := fun w (h : RS w B v l at_ err) => rdByte_end B v l at_ err (by omega) w h
    by_cases he : err = 0
    · exact ⟨0, at_, 2, fun w h => (byte_meth B v l at_ err 0 2 _ w h (by omega) C).mono fun e w' h => rr_bad he (by decide) h, fun w h => tbyte_end D l at_ err he hx w h⟩
    · exact ⟨0, at_, err, fun w h => (byte_meth B v l at_ err 0 2 _ w h (by omega) C).mono fun e w' h => rr_done he h, fun w h => tbyte_done D l at_ err (int_ne he) w h⟩
  · have C := fun w (h : RS w B v l at_ err) => rdByte_some B v l at_ err (by omega) (.int .u8 ((l.getD at_ 0).toNat : Int)) rfl w h
    by_cases he : err = 0
    · exact ⟨((l.getD at_ 0).toNat : Int), at_ + 1, 0, fun w h => (byte_meth B v l at_ err 1 0 _ w h (by omega) C).mono fun e w' h => rr_ok he rfl h, fun w h => tbyte_some D l at_ err he (by omega) _ rfl w h⟩
    · exact ⟨0, at_, err, fun w h => (byte_meth B v l at_ err 1 0 _ w h (by omega) C).mono fun e w' h => rr_done he h, fun w h => tbyte_done D l at_ err (int_ne he) w h⟩
theorem flag_two (B D : Nat) (v : Value) (l : List UInt8) (at_ err : Nat) (hat : at_ ≤ l.length) (hle : l.length ≤ 2000) : ∃ b : Bool, Both B D v l at_ err 40 41 #[] (.bool b) := by
  by_cases hx : at_ = l.length
  · have C := fun w (h : RS w B v l at_ err) => rdFlag_end B v l at_ err (by omega) w h
    by_cases he : err = 0
    · exact ⟨false, at_, 2, fun w h => (flag_meth B v l at_ err 0 2 _ w h (by omega) C).mono fun e w' h => rr_bad he (by decide) h, fun w h => tflag_end D l at_ err he hx w h⟩
    · exact ⟨false, at_, err, fun w h => (flag_meth B v l at_ err 0 2 _ w h (by omega) C).mono fun e w' h => rr_done he h, fun w h => tflag_done D l at_ err (int_ne he) w h⟩
  · by_cases h1 : 1 < ((l.getD at_ 0).toNat : Int)
    · have C := fun w (h : RS w B v l at_ err) => rdFlag_bad B v l at_ err (by omega) _ rfl h1 w h
      by_cases he : err = 0
      · exact ⟨false, at_, 3, fun w h => (flag_meth B v l at_ err 0 3 _ w h (by omega) C).mono fun e w' h => rr_bad he (by decide) h, fun w h => tflag_bad D l at_ err he (by omega) _ rfl h1 w h⟩
      · exact ⟨false, at_, err, fun w h => (flag_meth B v l at_ err 0 3 _ w h (by omega) C).mono fun e w' h => rr_done he h, fun w h => tflag_done D l at_ err (int_ne he) w h⟩
    · have C := fun w (h : RS w B v l at_ err) => rdFlag_is B v l at_ err (by omega) _ rfl h1 w h
      by_cases he : err = 0
      · exact ⟨((l.getD at_ 0).toNat : Int) == 1, at_ + 1, 0, fun w h => (flag_meth B v l at_ err 1 0 _ w h (by omega) C).mono fun e w' h => rr_ok he rfl h, fun w h => tflag_is D l at_ err he (by omega) _ rfl h1 w h⟩
      · exact ⟨false, at_, err, fun w h => (flag_meth B v l at_ err 1 0 _ w h (by omega) C).mono fun e w' h => rr_done he h, fun w h => tflag_done D l at_ err (int_ne he) w h⟩
theorem fail_two (B D : Nat) (v : Value) (l : List UInt8) (at_ err : Nat) (hat : at_ ≤ l.length) (hle : l.length ≤ 2000) (k : Nat) : Both B D v l at_ err 42 43 #[.int .i64 (k : Int)] (.tuple #[]) := by
  by_cases he : err = 0
  · exact ⟨at_, k, fun w h => fail_go B v l at_ err k he w h, fun w h => tfail_go D l at_ err k he w h⟩
  · exact ⟨at_, err, fun w h => fail_done B v l at_ err k (int_beq he) w h, fun w h => tfail_done D l at_ err k (int_beq he) w h⟩
/-- What both say at their end. -/
theorem ends_two (B D : Nat) (v : Value) (l : List UInt8) (at_ err : Nat) (hat : at_ ≤ l.length) (hle : l.length ≤ 2000) : ∃ E A : Int, (∀ w, RS w B v l at_ err → Calls Try.prog 44 #[.pointer (some ⟨B, 0, none⟩)] w fun e w' => e = .returned (.tuple #[.int .i64 E, .int .i64 A]) ∧ Below w.heap.size w w') ∧ ∀ w, TS w D l at_ err → Calls Try.prog 45 #[.pointer (some ⟨D, 0, none⟩)] w fun e w' => e = .returned (.tuple #[.int .i64 E, .int .i64 A]) ∧ Below w.heap.size w w' := by
  by_cases he : err = 0
  · by_cases hx : at_ = l.length
    · exact ⟨0, 0, fun w h => end_none B v l at_ err he hx w h, fun w h => tend_none D l at_ err he hx w h⟩
    · exact ⟨7, at_, fun w h => end_left B v l at_ err he (by omega) w h, fun w h => tend_left D l at_ err he (by omega) w h⟩
  · exact ⟨err, at_, fun w h => end_some B v l at_ err (int_beq he) w h, fun w h => tend_some D l at_ err (int_beq he) w h⟩
end Go.Proofs.Ytlafmalgioffkaa
