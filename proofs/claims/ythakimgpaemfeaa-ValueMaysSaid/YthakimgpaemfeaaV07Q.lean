/- Values: the law ValueOrder, its ways joined. -/
import Derived.Test.YthakimgpaemfeaaV07O
import Derived.Test.YthakimgpaemfeaaV07P
namespace Go.Proofs.Ythakimgpaemfeaa
open Go Go.RowKit
set_option linter.unusedVariables false
theorem less_of (a b : V) (ha : mayB a = true) (hb : mayB b = true) : lessB a b = decide (ordV a b < 0) := by
  unfold lessB; rw [ha, hb]; rfl
theorem take_max (s : List UInt8) (h : s.length ≤ maxLen) : (s.take 200).length ≤ maxLen := Nat.le_trans (List.length_take_le' _ _) h
theorem order_law (ka ia : Int) (sa : List UInt8) (kb ib : Int) (sb : List UInt8) (kc ic : Int) (sc : List UInt8) (w : World) (ha : sa.length ≤ maxLen) (hb : sb.length ≤ maxLen) (hc : sc.length ≤ maxLen) :
    Calls Try.prog 8 #[.agg #[.int .i64 ka, .int .i64 ia, .string (str sa)], .agg #[.int .i64 kb, .int .i64 ib, .string (str sb)], .agg #[.int .i64 kc, .int .i64 ic, .string (str sc)]] w fun e w' => e = .returned (.bool true) ∧ Below w.heap.size w w' := by
  have FA := fun w => few_any ka ia sa w ha
  have FB := fun w => few_any kb ib sb w hb
  have FC := fun w => few_any kc ic sc w hc
  have la := take_max sa ha
  have lb := take_max sb hb
  have lc := take_max sc hc
  generalize sa.take 200 = ta at FA la
  generalize sb.take 200 = tb at FB lb
  generalize sc.take 200 = tc at FC lc
  have MA := fun w => may_any ka ia ta w la
  have MB := fun w => may_any kb ib tb w lb
  have MC := fun w => may_any kc ic tc w lc
  have LAB := fun w => less_any ka ia ta kb ib tb w la lb
  have LBA := fun w => less_any kb ib tb ka ia ta w lb la
  have LBC := fun w => less_any kb ib tb kc ic tc w lb lc
  have LAC := fun w => less_any ka ia ta kc ic tc w la lc
  cases m1 : mayB ⟨ka, ia, ta⟩ with
  | false =>
    rw [m1] at MA
    exact ord_m1 ka ia sa kb ib sb kc ic sc ta tb tc w FA FB FC MA
  | true =>
  cases m2 : mayB ⟨kb, ib, tb⟩ with
  | false =>
    rw [m1] at MA
    rw [m2] at MB
    exact ord_m2 ka ia sa kb ib sb kc ic sc ta tb tc w FA FB FC MA MB
  | true =>
  cases m3 : mayB ⟨kc, ic, tc⟩ with
  | false =>
    rw [m1] at MA
    rw [m2] at MB
    rw [m3] at MC
    exact ord_m3 ka ia sa kb ib sb kc ic sc ta tb tc w FA FB FC MA MB MC
  | true =>
  rw [less_of _ _ m1 m2] at LAB
  rw [less_of _ _ m2 m1] at LBA
  rw [less_of _ _ m2 m3] at LBC
  rw [less_of _ _ m1 m3] at LAC
  rw [m1] at MA
  rw [m2] at MB
  rw [m3] at MC
  have fl := ordV_flip ⟨ka, ia, ta⟩ ⟨kb, ib, tb⟩
  rcases ordV_range ⟨ka, ia, ta⟩ ⟨kb, ib, tb⟩ with h | h | h
  · have ne : (⟨ka, ia, ta⟩ : V) ≠ ⟨kb, ib, tb⟩ := fun e => by have := (ordV_zero _ _).2 e; omega
    have NE := val_eq_no ka ia ta kb ib tb ne
    rw [show decide (ordV ⟨ka, ia, ta⟩ ⟨kb, ib, tb⟩ < 0) = true by simp; omega] at LAB
    rw [show decide (ordV ⟨kb, ib, tb⟩ ⟨ka, ia, ta⟩ < 0) = false by simp; omega] at LBA
    by_cases hbc : ordV ⟨kb, ib, tb⟩ ⟨kc, ic, tc⟩ < 0
    · have hac := ordV_trans _ _ _ (show ordV ⟨ka, ia, ta⟩ ⟨kb, ib, tb⟩ < 0 by omega) hbc
      rw [show decide (ordV ⟨kb, ib, tb⟩ ⟨kc, ic, tc⟩ < 0) = true by simpa using hbc] at LBC
      rw [show decide (ordV ⟨ka, ia, ta⟩ ⟨kc, ic, tc⟩ < 0) = true by simpa using hac] at LAC
      exact ord_lt1 ka ia sa kb ib sb kc ic sc ta tb tc w FA FB FC MA MB MC LAB LBA LBC LAC NE
    · rw [show decide (ordV ⟨kb, ib, tb⟩ ⟨kc, ic, tc⟩ < 0) = false by simpa using hbc] at LBC
      exact ord_lt0 ka ia sa kb ib sb kc ic sc ta tb tc w FA FB FC MA MB MC LAB LBA LBC NE
  · have e := (ordV_zero _ _).1 h
    injection e with e1 e2 e3
    rw [show decide (ordV ⟨ka, ia, ta⟩ ⟨kb, ib, tb⟩ < 0) = false by simp; omega] at LAB
    rw [show decide (ordV ⟨kb, ib, tb⟩ ⟨ka, ia, ta⟩ < 0) = false by simp; omega] at LBA
    exact ord_eq ka ia sa kb ib sb kc ic sc ta tb tc w FA FB FC MA MB MC LAB LBA (fun w => by rw [e1, e2, e3]; exact val_eq _ _ _ _)
  · have ne : (⟨ka, ia, ta⟩ : V) ≠ ⟨kb, ib, tb⟩ := fun e => by have := (ordV_zero _ _).2 e; omega
    have NE := val_eq_no ka ia ta kb ib tb ne
    rw [show decide (ordV ⟨ka, ia, ta⟩ ⟨kb, ib, tb⟩ < 0) = false by simp; omega] at LAB
    rw [show decide (ordV ⟨kb, ib, tb⟩ ⟨ka, ia, ta⟩ < 0) = true by simp; omega] at LBA
    exact ord_gt ka ia sa kb ib sb kc ic sc ta tb tc w FA FB FC MA MB MC LAB LBA NE
theorem order_row (ka ia : Int) (sa : List UInt8) (kb ib : Int) (sb : List UInt8) (kc ic : Int) (sc : List UInt8) (w : World) (wka : (Lit.int .i64 ka).wf = true) (wia : (Lit.int .i64 ia).wf = true) (ha : sa.length ≤ maxLen)
    (wkb : (Lit.int .i64 kb).wf = true) (wib : (Lit.int .i64 ib).wf = true) (hb : sb.length ≤ maxLen) (wkc : (Lit.int .i64 kc).wf = true) (wic : (Lit.int .i64 ic).wf = true) (hc : sc.length ≤ maxLen) :
    Calls Try.prog 8 #[.agg #[.int .i64 ka, .int .i64 ia, .string (str sa)], .agg #[.int .i64 kb, .int .i64 ib, .string (str sb)], .agg #[.int .i64 kc, .int .i64 ic, .string (str sc)]] w fun e w' => e = .returned (.bool true) ∧ Below w.heap.size w w' :=
  order_law ka ia sa kb ib sb kc ic sc w ha hb hc
end Go.Proofs.Ythakimgpaemfeaa
