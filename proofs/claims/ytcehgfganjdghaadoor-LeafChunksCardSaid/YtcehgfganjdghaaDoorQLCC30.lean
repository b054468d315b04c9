/- Values: what is encoded is cut as it was; what is cut has just these bytes. Written by wip/tools/gen7v.py. -/
import Derived.Test.YtcehgfganjdghaaDoorQLCC23
import Derived.Test.YtcehgfganjdghaaDoorQLCC29
namespace Go.Proofs.YtcehgfganjdghaaDoor.V7
open Go Go.RowKit
set_option linter.unusedVariables false
set_option linter.unusedSimpArgs false
theorem unzig_zig (x : Nat) : zigN (unzig x) = x := by
  unfold zigN unzig
  split
  · rw [if_pos (by omega)]; omega
  · rw [if_neg (by omega)]; omega
theorem unzig_i64 {x : Nat} (h : x < 18446744073709551616) : I64 (unzig x) := by
  unfold unzig I64
  split <;> omega
theorem encL_of {k i : Int} {s : List UInt8} (hm : mayB ⟨k, i, s⟩ = true) : encL ⟨k, i, s⟩ = if k = 1 then [1, if i = 0 then 0 else 1] else if k = 2 then 2 :: putL (zigN i) else if k = 3 then 3 :: textL s else [0] := by
  unfold encL
  rw [if_neg (by rw [hm]; simp)]
theorem encL_len (k i : Int) (s : List UInt8) (hm : mayB ⟨k, i, s⟩ = true) : 0 < (encL ⟨k, i, s⟩).length ∧ (encL ⟨k, i, s⟩).length ≤ 100 := by
  rw [encL_of hm]
  have hc := hm
  simp only [mayB, decide_eq_true_eq] at hc
  have h3 : k = 3 → s.length ≤ 64 := by
    rintro rfl
    rcases hc with h | h | h | h
    · exact absurd h.1 (by decide)
    · exact absurd h.1 (by decide)
    · exact absurd h.1 (by decide)
    · exact h.2.2
  split
  · simp
  · split
    · have := putL_len (zigN i)
      simp; omega
    · split
      · rename_i h
        have := textL_len s (h3 h)
        simp; omega
      · simp
theorem cutVL_back (k i : Int) (s t : List UInt8) (hm : mayB ⟨k, i, s⟩ = true) (hI : I64 i) : cutVL (encL ⟨k, i, s⟩ ++ t) = ((k, i, s), (encL ⟨k, i, s⟩).length, 0) := by
  rw [encL_of hm]
  have hc := hm
  simp only [mayB, decide_eq_true_eq] at hc
  rcases hc with ⟨rfl, rfl, rfl⟩ | ⟨rfl, h2, rfl⟩ | ⟨rfl, rfl⟩ | ⟨rfl, rfl, h3⟩
  · rfl
  · rcases h2 with rfl | rfl
    · simp [cutVL]
    · simp [cutVL]
  · rw [if_neg (by decide), if_pos rfl]
    have e := cut_put (v := zigN i) (by have := (zigN_u64 hI).2; omega) t
    rw [List.cons_append, cutVL_2 e, if_neg (by simp), zig_unzig]
    rfl
  · rw [if_neg (by decide), if_neg (by decide), if_pos rfl]
    have e := cut_put (v := s.length) (by omega) (s ++ t)
    rw [← List.append_assoc] at e
    have e2 := cutTextL_eq e
    rw [if_neg (by simp), if_neg (by omega), if_neg (by simp)] at e2
    rw [List.append_assoc, List.drop_left, List.take_left, ← List.append_assoc] at e2
    have e3 : textL s = putL s.length ++ s := if_pos (by omega)
    rw [e3, List.cons_append, cutVL_3 e2, if_neg (by simp), if_neg (by omega)]
    simp
theorem cutVL_facts {l : List UInt8} {k i : Int} {s : List UInt8} {n x : Nat} (h : cutVL l = ((k, i, s), n, x)) :
    (x = 0 → mayB ⟨k, i, s⟩ = true ∧ 1 ≤ n ∧ n ≤ l.length ∧ encL ⟨k, i, s⟩ = l.take n ∧ I64 i ∧ s.length ≤ maxLen) ∧ (x ≠ 0 → (k, i, s) = (0, 0, []) ∧ n = 0) := by
  cases l with
  | nil => cases h; exact ⟨by simp, fun _ => ⟨rfl, rfl⟩⟩
  | cons c r =>
    rcases u8_cases c with rfl | rfl | rfl | rfl | hc
    · cases h
      exact ⟨fun _ => ⟨by decide, by simp, by simp, rfl, ⟨by decide, by decide⟩, by decide⟩, fun h => absurd rfl h⟩
    · cases r with
      | nil => cases h; exact ⟨by simp, fun _ => ⟨rfl, rfl⟩⟩
      | cons d r =>
        by_cases hd : 1 < d.toNat
        · rw [cutVL_1_no hd] at h; cases h; exact ⟨by simp, fun _ => ⟨rfl, rfl⟩⟩
        · rw [cutVL_1_yes hd] at h
          cases h
          refine ⟨fun _ => ?_, fun h => absurd rfl h⟩
          rcases (show d.toNat = 0 ∨ d.toNat = 1 by omega) with h | h
          · obtain rfl : d = 0 := UInt8.toNat.inj h
            exact ⟨by decide, by simp, by simp, rfl, ⟨by decide, by decide⟩, by decide⟩
          · obtain rfl : d = 1 := UInt8.toNat.inj h
            exact ⟨by decide, by simp, by simp, rfl, ⟨by decide, by decide⟩, by decide⟩
    · obtain ⟨y, m, e, hc⟩ : ∃ y m e, cutL r = (y, m, e) := ⟨_, _, _, rfl⟩
      have hf := cutL_facts hc
      rw [cutVL_2 hc] at h
      by_cases he : e = 0
      · subst he
        rw [if_neg (by simp)] at h
        cases h
        refine ⟨fun _ => ?_, fun h => absurd rfl h⟩
        have hm : mayB ⟨2, unzig y, []⟩ = true := by simp [mayB]
        refine ⟨hm, by omega, by simp; omega, ?_, unzig_i64 hf.1, by decide⟩
        rw [encL_of hm, if_neg (by decide), if_pos rfl, unzig_zig, (put_cut hc).1]
        simp
      · rw [if_pos he] at h
        cases h
        exact ⟨fun h => absurd h he, fun _ => ⟨rfl, rfl⟩⟩
    · obtain ⟨s', m, e, hc⟩ : ∃ s m e, cutTextL r = (s, m, e) := ⟨_, _, _, rfl⟩
      rw [cutVL_3 hc] at h
      have hf := cutTextL_len hc
      by_cases he : e = 0
      · subst he
        rw [if_neg (by simp)] at h
        by_cases hs : 64 < s'.length
        · rw [if_pos hs] at h
          cases h
          exact ⟨by simp, fun _ => ⟨rfl, rfl⟩⟩
        · rw [if_neg hs] at h
          cases h
          refine ⟨fun _ => ?_, fun h => absurd rfl h⟩
          have hm : mayB ⟨3, 0, s⟩ = true := by simp [mayB]; omega
          refine ⟨hm, by omega, by simp; omega, ?_, ⟨by decide, by decide⟩, by unfold maxLen; omega⟩
          obtain ⟨y, p, e, hc0⟩ : ∃ y p e, cutL r = (y, p, e) := ⟨_, _, _, rfl⟩
          rw [cutTextL_eq hc0] at hc
          by_cases h1 : e ≠ 0
          · rw [if_pos h1] at hc; cases hc; exact absurd rfl h1
          · rw [if_neg h1] at hc
            by_cases h2 : 255 < y
            · rw [if_pos h2] at hc; cases hc
            · rw [if_neg h2] at hc
              by_cases h3 : r.length < p + y
              · rw [if_pos h3] at hc; cases hc
              · rw [if_neg h3] at hc
                have he0 : e = 0 := by omega
                subst he0
                cases hc
                have hlen : ((r.drop p).take y).length = y := by simp; omega
                rw [encL_of hm, if_neg (by decide), if_neg (by decide), if_pos rfl]
                have e3 : textL ((r.drop p).take y) = putL ((r.drop p).take y).length ++ (r.drop p).take y := if_pos (by omega)
                rw [e3, hlen, (put_cut hc0).1, List.take_succ_cons, List.take_add]
      · rw [if_pos he] at h
        cases h
        exact ⟨fun h => absurd h he, fun _ => ⟨rfl, rfl⟩⟩
    · rw [cutVL_big hc] at h
      cases h
      exact ⟨by simp, fun _ => ⟨rfl, rfl⟩⟩
/-- The first bytes of a slice, as a value. -/
def slV (ao : Option Addr) (j cap : Nat) : Value := .slice (if cap = 0 then ao else ao.map (·.add 0)) j cap
theorem rd_slV {w : World} {ao : Option Addr} {n cap : Nat} {l : List UInt8} (h : Rd w (.slice ao n cap) l) (j : Nat) (hj : j ≤ n) (hc : n ≤ cap) : Rd w (slV ao j cap) (l.take j) := by
  have := rd_sliced h 0 j (by omega) hj
  simpa [slV] using this
theorem slV_op (op : Oper) (a : Act) (s y : Operand) (ao : Option Addr) (n cap j : Nat) (ho : op.op = .slice 58 s none (some y) none) (hs : a.eval s = .slice ao n cap) (hy : a.eval y = .int .i64 (j : Int)) (hj : j ≤ n) (hc : n ≤ cap) (hm : cap ≤ maxLen) (w : World) :
    (execOp a.eval op).run Tryd.prog w = .ok (.value (slV ao j cap)) w := by
  obtain ⟨i0, hi, hz0, hz1, hz2⟩ := info_parts u8info
  have h2 : j ≤ cap := by omega
  simp [execOp, ho, hs, hy, Instr.sliceAt, Instr.slice, run_underlying Tryd.underlying58, Instr.sliceBounds, Instr.sliceBound, asIntOf, h2, sizeOf, typeInfo, hi, hz1, Result.andThen, slV]
end Go.Proofs.YtcehgfganjdghaaDoor.V7
