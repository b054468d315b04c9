/- Values: what bytes are read as: the cuts, joined; the document's bytes of a value. -/
/- What is put is cut as it was, and what is cut has just these bytes: on lists of bytes. -/
/- Values: what is encoded is cut as it was; what is cut has just these bytes. Written by wip/tools/gen7v.py. -/
/- Leaves: Put, Delete. Written by wip/tools/gen9g.py. -/
/- Leaves: what is put is got, what is deleted is not, all else is as it was. Plain mathematics. -/
import Derived.Test.YtoagdmglchccnaaGreatDoorQRR21
import Derived.Test.YtoagdmglchccnaaGreatDoorQRR8
import Derived.Test.YtoagdmglchccnaaGreatDoorQRR19
import Derived.Test.YtoagdmglchccnaaGreatDoorQRR17
import Derived.Test.YtoagdmglchccnaaGreatDoorQRR7
namespace Go.Proofs.YtoagdmglchccnaaGreatDoor.V7
open Go Go.RowKit
set_option linter.unusedVariables false
set_option linter.unusedSimpArgs false
theorem u8_cases (c : UInt8) : c = 0 ∨ c = 1 ∨ c = 2 ∨ c = 3 ∨ 3 < c.toNat := by
  have h := c.toNat_lt
  rcases (show c.toNat = 0 ∨ c.toNat = 1 ∨ c.toNat = 2 ∨ c.toNat = 3 ∨ 3 < c.toNat by omega) with h | h | h | h | h
  · exact .inl (UInt8.toNat.inj h)
  · exact .inr (.inl (UInt8.toNat.inj h))
  · exact .inr (.inr (.inl (UInt8.toNat.inj h)))
  · exact .inr (.inr (.inr (.inl (UInt8.toNat.inj h))))
  · exact .inr (.inr (.inr (.inr h)))
theorem cutVL_big {c : UInt8} {r : List UInt8} (h : 3 < c.toNat) : cutVL (c :: r) = ((0, 0, []), 0, 3) := by
  have h0 : c ≠ 0 := by intro e; subst e; simp at h
  have h1 : c ≠ 1 := by intro e; subst e; simp at h
  have h2 : c ≠ 2 := by intro e; subst e; simp at h
  have h3 : c ≠ 3 := by intro e; subst e; simp at h
  simp only [cutVL, if_neg h0, if_neg h1, if_neg h2, if_neg h3]
theorem cutVL_1_no {d : UInt8} {r : List UInt8} (h : 1 < d.toNat) : cutVL (1 :: d :: r) = ((0, 0, []), 0, 3) := by
  simp [cutVL, h]
theorem cutVL_1_yes {d : UInt8} {r : List UInt8} (h : ¬ 1 < d.toNat) : cutVL (1 :: d :: r) = ((1, (d.toNat : Int), []), 2, 0) := by
  simp [cutVL, h]
theorem cutVL_2 {r : List UInt8} {x n e : Nat} (h : cutL r = (x, n, e)) : cutVL (2 :: r) = if e ≠ 0 then ((0, 0, []), 0, e) else ((2, unzig x, []), n + 1, 0) := by
  simp [cutVL, h]
theorem cutVL_3 {r : List UInt8} {s : List UInt8} {n e : Nat} (h : cutTextL r = (s, n, e)) : cutVL (3 :: r) = if e ≠ 0 then ((0, 0, []), 0, e) else if 64 < s.length then ((0, 0, []), 0, 5) else ((3, 0, s), n + 1, 0) := by
  simp [cutVL, h]
theorem bne_int {e : Nat} (h : e ≠ 0) : ((e : Int) != 0) = true ∧ ((e : Int) == 0) = false := by
  constructor
  · simpa using h
  · simpa using h
/-- The program's cut. -/
theorem cutV_any (v : Value) (l : List UInt8) (w : World) (h : Rd w v l) :
    Calls Tryz.prog 149 #[v] w fun e w' => e = .returned (cutT (cutVL l)) ∧ Below w.heap.size w w' := by
  cases l with
  | nil => exact cutV_nil v w h
  | cons c r =>
    rcases u8_cases c with rfl | rfl | rfl | rfl | hc
    · exact cutV_0 v r w h
    · cases r with
      | nil => exact cutV_1_no v [] 0 0 2 w h (by omega) (by omega) rfl (fun v w h => cutBool_at v [] w h)
      | cons d r =>
        by_cases hd : 1 < d.toNat
        · rw [cutVL_1_no hd]
          refine cutV_1_no v (d :: r) 0 0 3 w h (by omega) (by omega) rfl (fun v w h => ?_)
          have := cutBool_at v (d :: r) w h
          rw [show cutBoolV (d :: r) = _ from if_pos hd] at this
          exact this
        · rw [cutVL_1_yes hd]
          refine cutV_1_yes v (d :: r) d.toNat 1 0 w h (by omega) (by omega) (fun v w h => ?_)
          have := cutBool_at v (d :: r) w h
          rw [show cutBoolV (d :: r) = _ from if_neg hd] at this
          exact this
    · obtain ⟨x, n, e, hc⟩ : ∃ x n e, cutL r = (x, n, e) := ⟨_, _, _, rfl⟩
      have hf := cutL_facts hc
      rw [cutVL_2 hc]
      by_cases he : e = 0
      · subst he
        rw [if_neg (by simp)]
        exact cutV_2_yes v r (unzig x) n 0 w h (by omega) (by omega) (fun v w h => cutInt_at v r x n 0 hc w h)
      · rw [if_pos he]
        exact cutV_2_no v r (unzig x) n e w h (by omega) (by omega) (bne_int he).1 (fun v w h => cutInt_at v r x n e hc w h)
    · obtain ⟨s, n, e, hc⟩ : ∃ s n e, cutTextL r = (s, n, e) := ⟨_, _, _, rfl⟩
      have hf := cutTextL_len hc
      rw [cutVL_3 hc]
      have T := fun v w h => cutText8 v r s n e hc w h
      by_cases he : e = 0
      · subst he
        rw [if_neg (by simp)]
        by_cases hs : 64 < s.length
        · rw [if_pos hs]
          simp only [if_pos hs] at T
          exact cutV_3_no v r [] 0 5 w h (by omega) (by omega) rfl T
        · rw [if_neg hs]
          simp only [if_neg hs] at T
          exact cutV_3_yes v r s n 0 w h (by omega) (by omega) T
      · rw [if_pos he]
        obtain ⟨rfl, rfl⟩ := cutTextL_err hc he
        simp only [if_neg (show ¬ 64 < ([] : List UInt8).length by simp)] at T
        exact cutV_3_no v r [] 0 e w h (by omega) (by omega) (bne_int he).1 T
    · rw [cutVL_big hc]
      exact cutV_big v c r w h hc
/-- The document's. -/
theorem refCutV_any (l : List UInt8) (hl : l.length ≤ 2000) (w : World) :
    Calls Tryz.prog 127 #[.string (str l)] w fun e w' => e = .returned (cutT (cutVL l)) ∧ Below w.heap.size w w' := by
  have hlm : l.length ≤ maxLen := by unfold maxLen; omega
  cases l with
  | nil => exact refCutV_nil w
  | cons c r =>
    rw [List.length_cons] at hl hlm
    have hr : r.length ≤ maxLen := by omega
    rcases u8_cases c with rfl | rfl | rfl | rfl | hc
    · exact refCutV_0 r w hr
    · cases r with
      | nil => exact refCutV_1_nil w
      | cons d r =>
        rw [List.length_cons] at hr hlm
        by_cases hd : 1 < d.toNat
        · rw [cutVL_1_no hd]
          exact refCutV_1_no d r w (by omega) (by omega) hd
        · rw [cutVL_1_yes hd]
          rcases (show d.toNat = 0 ∨ d.toNat = 1 by omega) with h | h
          · obtain rfl : d = 0 := UInt8.toNat.inj h
            exact refCutV_1_0 r w (by omega)
          · obtain rfl : d = 1 := UInt8.toNat.inj h
            exact refCutV_1_1 r w (by omega)
    · obtain ⟨x, n, e, hc⟩ : ∃ x n e, cutL r = (x, n, e) := ⟨_, _, _, rfl⟩
      have hf := cutL_facts hc
      rw [cutVL_2 hc]
      by_cases he : e = 0
      · subst he
        rw [if_neg (by simp)]
        exact refCutV_2_yes r (unzig x) n 0 w hr (by omega) (by omega) (fun w => refCutInt_at r x n 0 hc hr w)
      · rw [if_pos he]
        exact refCutV_2_no r (unzig x) n e w hr (by omega) (by omega) (bne_int he).1 (bne_int he).2 (fun w => refCutInt_at r x n e hc hr w)
    · obtain ⟨s, n, e, hc⟩ : ∃ s n e, cutTextL r = (s, n, e) := ⟨_, _, _, rfl⟩
      obtain ⟨x, m, c, hc0⟩ : ∃ x m c, cutL r = (x, m, c) := ⟨_, _, _, rfl⟩
      have hf := cutTextL_len hc
      rw [cutVL_3 hc]
      have T := fun w => refCutText_at r x m c hc0 (by omega) w
      rw [hc] at T
      by_cases he : e = 0
      · subst he
        rw [if_neg (by simp)]
        by_cases hs : 64 < s.length
        · rw [if_pos hs]
          exact refCutV_3_long r s n 0 w hr (by omega) (by omega) hs (by omega) T
        · rw [if_neg hs]
          exact refCutV_3_yes r s n 0 w hr (by omega) (by omega) (by omega) T
      · rw [if_pos he]
        obtain ⟨rfl, rfl⟩ := cutTextL_err hc he
        exact refCutV_3_no r [] 0 e w hr (by omega) (by omega) (bne_int he).1 (bne_int he).2 T
    · rw [cutVL_big hc]
      exact refCutV_big c r w hr hc
end Go.Proofs.YtoagdmglchccnaaGreatDoor.V7
namespace Go.Proofs.YtoagdmglchccnaaGreatDoor
open Go.RowKit
set_option linter.unusedVariables false
set_option linter.unusedSimpArgs false
theorem put_cutGo (l : List UInt8) : ∀ (k a z m : Nat), k ≤ 9 → cutGo k a l = (z, m, 0) →
    ∃ v, z = a + v * 128 ^ k ∧ m = k + (putF (9 - k) v).length ∧ putF (9 - k) v = l.take (m - k) ∧ (0 < k → v ≠ 0) := by
  induction l with
  | nil => intro k a z m _ h; simp [cutGo] at h
  | cons b r ih =>
    intro k a z m hk h
    have hb := b.toNat_lt
    have hbb : UInt8.ofNat b.toNat = b := by simp
    unfold cutGo at h
    split at h
    · simp at h
    · rename_i h9
      split at h
      · rename_i h128
        split at h
        · simp at h
        · rename_i hz
          simp only [Prod.mk.injEq, and_true] at h
          obtain ⟨rfl, rfl⟩ := h
          have hp : putF (9 - k) b.toNat = [b] := by
            cases hq : 9 - k with
            | zero => simp [putF]
            | succ j => unfold putF; rw [if_pos h128, hbb]
          refine ⟨b.toNat, rfl, by rw [hp]; rfl, ?_, fun h0 h1 => hz ⟨h1, h0⟩⟩
          rw [hp, Nat.add_sub_cancel_left]; rfl
      · rename_i h128
        have hk9 : k < 9 := by
          rcases Nat.lt_or_ge k 9 with h' | h'
          · exact h'
          · exact absurd ⟨by omega, by omega⟩ h9
        obtain ⟨v, h1, h2, h3, h4⟩ := ih (k + 1) _ z m (by omega) h
        have hv := h4 (by omega)
        have e1 : ((b.toNat - 128) + 128 * v) / 128 = v := by omega
        have e2 : ((b.toNat - 128) + 128 * v) % 128 = b.toNat - 128 := by omega
        have hp : putF (9 - k) ((b.toNat - 128) + 128 * v) = b :: putF (9 - (k + 1)) v := by
          rw [show 9 - k = (9 - (k + 1)) + 1 from by omega, putF, if_neg (by omega), e1, e2, show b.toNat - 128 + 128 = b.toNat from by omega, hbb]
        refine ⟨(b.toNat - 128) + 128 * v, ?_, ?_, ?_, by omega⟩
        · rw [h1, Nat.pow_succ, Nat.add_mul, Nat.mul_comm 128 v, Nat.mul_comm (128 ^ k) 128, ← Nat.mul_assoc, Nat.add_assoc]
        · rw [hp, h2]; simp; omega
        · have hm : m - k = (m - (k + 1)) + 1 := by omega
          rw [hp, hm, List.take_succ_cons, h3]
theorem put_cut {l : List UInt8} {z m : Nat} (h : cutL l = (z, m, 0)) : putL z = l.take m ∧ m = (putL z).length := by
  obtain ⟨v, h1, h2, h3, _⟩ := put_cutGo l 0 0 z m (by omega) h
  have : z = v := by simpa using h1
  subst this
  exact ⟨by simpa [putL] using h3, by simpa [putL] using h2⟩
end Go.Proofs.YtoagdmglchccnaaGreatDoor
namespace Go.Proofs.YtoagdmglchccnaaGreatDoor.V7
open Go Go.RowKit
set_option linter.unusedVariables false
set_option linter.unusedSimpArgs false
theorem unzig_zig (x : Nat) : zigN (unzig x) = x := by
  unfold zigN unzig
  split
  · rw [if_pos (by omega)]; omega
  · rw [if_neg (by omega)]; omega
theorem unzig_i64 {x : Nat} (h : x < 18446744073709551616) : I64 (unzig x) := by
  unfold unzig I64
  split <;> omega
theorem encL_of {k i : Int} {s : List UInt8} (hm : mayB ⟨k, i, s⟩ = true) : encL ⟨k, i, s⟩ = if k = 1 then [1, if i = 0 then 0 else 1] else if k = 2 then 2 :: putL (zigN i) else if k = 3 then 3 :: textL s else [0] := by
  unfold encL
  rw [if_neg (by rw [hm]; simp)]
theorem cutVL_facts {l : List UInt8} {k i : Int} {s : List UInt8} {n x : Nat} (h : cutVL l = ((k, i, s), n, x)) :
    (x = 0 → mayB ⟨k, i, s⟩ = true ∧ 1 ≤ n ∧ n ≤ l.length ∧ encL ⟨k, i, s⟩ = l.take n ∧ I64 i ∧ s.length ≤ maxLen) ∧ (x ≠ 0 → (k, i, s) = (0, 0, []) ∧ n = 0) := by
  cases l with
  | nil => cases h; exact ⟨by simp, fun _ => ⟨rfl, rfl⟩⟩
  | cons c r =>
    rcases u8_cases c with rfl | rfl | rfl | rfl | hc
    · cases h
      exact ⟨fun _ => ⟨by decide, by simp, by simp, rfl, ⟨by decide, by decide⟩, by decide⟩, fun h => absurd rfl h⟩
    · cases r with
      | nil => cases h; exact ⟨by simp, fun _ => ⟨rfl, rfl⟩⟩
      | cons d r =>
        by_cases hd : 1 < d.toNat
        · rw [cutVL_1_no hd] at h; cases h; exact ⟨by simp, fun _ => ⟨rfl, rfl⟩⟩
        · rw [cutVL_1_yes hd] at h
          cases h
          refine ⟨fun _ => ?_, fun h => absurd rfl h⟩
          rcases (show d.toNat = 0 ∨ d.toNat = 1 by omega) with h | h
          · obtain rfl : d = 0 := UInt8.toNat.inj h
            exact ⟨by decide, by simp, by simp, rfl, ⟨by decide, by decide⟩, by decide⟩
          · obtain rfl : d = 1 := UInt8.toNat.inj h
            exact ⟨by decide, by simp, by simp, rfl, ⟨by decide, by decide⟩, by decide⟩
    · obtain ⟨y, m, e, hc⟩ : ∃ y m e, cutL r = (y, m, e) := ⟨_, _, _, rfl⟩
      have hf := cutL_facts hc
      rw [cutVL_2 hc] at h
      by_cases he : e = 0
      · subst he
        rw [if_neg (by simp)] at h
        cases h
        refine ⟨fun _ => ?_, fun h => absurd rfl h⟩
        have hm : mayB ⟨2, unzig y, []⟩ = true := by simp [mayB]
        refine ⟨hm, by omega, by simp; omega, ?_, unzig_i64 hf.1, by decide⟩
        rw [encL_of hm, if_neg (by decide), if_pos rfl, unzig_zig, (put_cut hc).1]
        simp
      · rw [if_pos he] at h
        cases h
        exact ⟨fun h => absurd h he, fun _ => ⟨rfl, rfl⟩⟩
    · obtain ⟨s', m, e, hc⟩ : ∃ s m e, cutTextL r = (s, m, e) := ⟨_, _, _, rfl⟩
      rw [cutVL_3 hc] at h
      have hf := cutTextL_len hc
      by_cases he : e = 0
      · subst he
        rw [if_neg (by simp)] at h
        by_cases hs : 64 < s'.length
        · rw [if_pos hs] at h
          cases h
          exact ⟨by simp, fun _ => ⟨rfl, rfl⟩⟩
        · rw [if_neg hs] at h
          cases h
          refine ⟨fun _ => ?_, fun h => absurd rfl h⟩
          have hm : mayB ⟨3, 0, s⟩ = true := by simp [mayB]; omega
          refine ⟨hm, by omega, by simp; omega, ?_, ⟨by decide, by decide⟩, by unfold maxLen; omega⟩
          obtain ⟨y, p, e, hc0⟩ : ∃ y p e, cutL r = (y, p, e) := ⟨_, _, _, rfl⟩
          rw [cutTextL_eq hc0] at hc
          by_cases h1 : e ≠ 0
          · rw [if_pos h1] at hc; cases hc; exact absurd rfl h1
          · rw [if_neg h1] at hc
            by_cases h2 : 255 < y
            · rw [if_pos h2] at hc; cases hc
            · rw [if_neg h2] at hc
              by_cases h3 : r.length < p + y
              · rw [if_pos h3] at hc; cases hc
              · rw [if_neg h3] at hc
                have he0 : e = 0 := by omega
                subst he0
                cases hc
                have hlen : ((r.drop p).take y).length = y := by simp; omega
                rw [encL_of hm, if_neg (by decide), if_neg (by decide), if_pos rfl]
                have e3 : textL ((r.drop p).take y) = putL ((r.drop p).take y).length ++ (r.drop p).take y := if_pos (by omega)
                rw [e3, hlen, (put_cut hc0).1, List.take_succ_cons, List.take_add]
      · rw [if_pos he] at h
        cases h
        exact ⟨fun h => absurd h he, fun _ => ⟨rfl, rfl⟩⟩
    · rw [cutVL_big hc] at h
      cases h
      exact ⟨by simp, fun _ => ⟨rfl, rfl⟩⟩
/-- The first bytes of a slice, as a value. -/
def slV (ao : Option Addr) (j cap : Nat) : Value := .slice (if cap = 0 then ao else ao.map (·.add 0)) j cap
end Go.Proofs.YtoagdmglchccnaaGreatDoor.V7
namespace Go.Proofs.YtoagdmglchccnaaGreatDoor
open Go Go.RowKit
set_option linter.unusedVariables false
set_option linter.unusedSimpArgs false
/-- A list of items of the call's own, and an error's number. -/
def OwnIE (w : World) (l : List It) (c : Nat) (e : Ending) (w' : World) : Prop := ∃ v', e = .returned (.tuple #[v', .int .i64 (c : Int)]) ∧ w'.ownsRow w.heap.size 154 5 v' l.length (l.flatMap itC) ∧ Below w.heap.size w w'
def putE (l : List It) (x : It) : Nat := if isL l = true ∧ mayI x = true then (if foundL l x.key = false ∧ l.length = 64 then 5 else 0) else 1
def putR (l : List It) (x : It) : List It := if putE l x = 0 then withL l x else []
def delE (l : List It) (k : List UInt8) : Nat := if isL l = true then (if foundL l k = true then 0 else 6) else 1
def delR (l : List It) (k : List UInt8) : List It := if delE l k = 0 then withoutL l k else []
end Go.Proofs.YtoagdmglchccnaaGreatDoor
namespace Go.Proofs.YtoagdmglchccnaaGreatDoor
open Go Go.RowKit
set_option linter.unusedVariables false
set_option linter.unusedSimpArgs false
theorem at_mem {l : List It} (hs : l.Pairwise (fun a b => ltB a.key b.key = true)) {k : List UInt8} {y : It} : atL l k = some y ↔ (y ∈ l ∧ y.key = k) := by
  unfold atL
  constructor
  · intro h
    have h1 := List.find?_some h
    exact ⟨List.mem_of_find?_eq_some h, by simpa using h1⟩
  · rintro ⟨h1, h2⟩
    obtain ⟨i, hi, rfl⟩ := List.getElem_of_mem h1
    rw [List.find?_eq_some_iff_getElem]
    refine ⟨by simp [h2], i, hi, rfl, fun j hj => ?_⟩
    have h3 := ltB_ne (sorted_at hs hj hi)
    rw [h2] at h3
    simpa using h3
theorem with_mem {l : List It} {x y : It} : y ∈ withL l x ↔ ((y ∈ l ∧ ltB y.key x.key = true) ∨ y = x ∨ (y ∈ l ∧ ltB x.key y.key = true)) := by
  unfold withL
  simp only [List.mem_append, List.mem_cons, List.mem_filter]
theorem with_sorted {l : List It} (hs : l.Pairwise (fun a b => ltB a.key b.key = true)) (x : It) : (withL l x).Pairwise (fun a b => ltB a.key b.key = true) := by
  unfold withL
  rw [List.pairwise_append]
  refine ⟨hs.filter _, ?_, ?_⟩
  · rw [List.pairwise_cons]
    exact ⟨fun y hy => (List.mem_filter.1 hy).2, hs.filter _⟩
  · intro a ha b hb
    have h1 := (List.mem_filter.1 ha).2
    rcases List.mem_cons.1 hb with rfl | hb
    · exact h1
    · exact lt_trans h1 (List.mem_filter.1 hb).2
theorem putE_zero {l : List It} {x : It} (h : putE l x = 0) : isL l = true ∧ mayI x = true ∧ (foundL l x.key = true ∨ l.length < 64) := by
  unfold putE at h
  by_cases h1 : isL l = true ∧ mayI x = true
  · rw [if_pos h1] at h
    refine ⟨h1.1, h1.2, ?_⟩
    by_cases h2 : foundL l x.key = false ∧ l.length = 64
    · rw [if_pos h2] at h; omega
    · have := isL_len h1.1
      cases hf : foundL l x.key with
      | true => exact .inl rfl
      | false => exact .inr (by rw [hf] at h2; simp at h2; omega)
  · rw [if_neg h1] at h; omega
theorem with_len {l : List It} {x : It} (h : putE l x = 0) : (withL l x).length ≤ 64 := by
  obtain ⟨h1, h2, h3⟩ := putE_zero h
  have hs := isL_sorted h1
  have h64 := isL_len h1
  cases hf : foundL l x.key with
  | true =>
    obtain ⟨hp, hk⟩ := found_yes hf
    rw [← with_in hs x hp hk]
    simp; omega
  | false =>
    rw [← with_out hs x (found_no hf)]
    have := posL_le l x.key
    rw [hf] at h3
    simp at h3 ⊢; omega
theorem with_is {l : List It} {x : It} (h : putE l x = 0) : isL (withL l x) = true := by
  obtain ⟨h1, h2, h3⟩ := putE_zero h
  refine (isL_iff _).2 ⟨with_len h, fun y hy => ?_, with_sorted (isL_sorted h1) x⟩
  rcases with_mem.1 hy with ⟨hy, _⟩ | rfl | ⟨hy, _⟩
  · exact isL_may h1 y hy
  · exact h2
  · exact isL_may h1 y hy
theorem with_other {l : List It} {x : It} (h : putE l x = 0) {k : List UInt8} (hk : k ≠ x.key) : atL (withL l x) k = atL l k := by
  have hs := isL_sorted (putE_zero h).1
  apply Option.ext
  intro y
  rw [at_mem (with_sorted hs x), at_mem hs, with_mem]
  constructor
  · rintro ⟨(⟨h1, _⟩ | rfl | ⟨h1, _⟩), h2⟩
    · exact ⟨h1, h2⟩
    · exact absurd h2.symm hk
    · exact ⟨h1, h2⟩
  · rintro ⟨h1, h2⟩
    refine ⟨?_, h2⟩
    cases h3 : ltB y.key x.key with
    | true => exact .inl ⟨h1, rfl⟩
    | false =>
      cases h4 : ltB x.key y.key with
      | true => exact .inr (.inr ⟨h1, rfl⟩)
      | false => exact absurd (h2.symm.trans (ltB_tri h3 h4)) hk
theorem delE_zero {l : List It} {k : List UInt8} (h : delE l k = 0) : isL l = true ∧ foundL l k = true := by
  unfold delE at h
  by_cases h1 : isL l = true
  · rw [if_pos h1] at h
    by_cases h2 : foundL l k = true
    · exact ⟨h1, h2⟩
    · rw [if_neg h2] at h; omega
  · rw [if_neg h1] at h; omega
theorem without_sorted {l : List It} (hs : l.Pairwise (fun a b => ltB a.key b.key = true)) (k : List UInt8) : (withoutL l k).Pairwise (fun a b => ltB a.key b.key = true) := hs.filter _
theorem without_len {l : List It} {k : List UInt8} (h : delE l k = 0) : (withoutL l k).length + 1 = l.length := by
  obtain ⟨h1, h2⟩ := delE_zero h
  obtain ⟨hp, hk⟩ := found_yes h2
  rw [← without_in (isL_sorted h1) hp hk]
  simp; omega
theorem without_is {l : List It} {k : List UInt8} (h : delE l k = 0) : isL (withoutL l k) = true := by
  obtain ⟨h1, h2⟩ := delE_zero h
  refine (isL_iff _).2 ⟨by have := without_len h; have := isL_len h1; omega, fun y hy => ?_, without_sorted (isL_sorted h1) k⟩
  exact isL_may h1 y (List.mem_filter.1 hy).1
theorem without_other {l : List It} {k' : List UInt8} (h : delE l k' = 0) {k : List UInt8} (hk : k ≠ k') : atL (withoutL l k') k = atL l k := by
  have hs := isL_sorted (delE_zero h).1
  apply Option.ext
  intro y
  rw [at_mem (without_sorted hs k'), at_mem hs]
  unfold withoutL
  rw [List.mem_filter]
  constructor
  · rintro ⟨⟨h1, _⟩, h2⟩; exact ⟨h1, h2⟩
  · rintro ⟨h1, h2⟩; exact ⟨⟨h1, by simp [h2, hk]⟩, h2⟩
def zI : It := ⟨[], ⟨0, 0, []⟩, 0⟩
def gI (l : List It) (k : List UInt8) : It := if isL l = true then (atL l k).getD zI else zI
def gB (l : List It) (k : List UInt8) : Bool := isL l && (atL l k).isSome
end Go.Proofs.YtoagdmglchccnaaGreatDoor
