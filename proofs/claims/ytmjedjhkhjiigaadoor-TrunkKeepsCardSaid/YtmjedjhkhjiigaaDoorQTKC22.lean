/- Trunks: their mathematics. Which bucket a key has, what a change keeps. -/
import Derived.Test.YtmjedjhkhjiigaaDoorQTKC21
import Derived.Test.YtmjedjhkhjiigaaDoorQTKC18
namespace Go.Proofs.YtmjedjhkhjiigaaDoor
open Go Go.RowKit
set_option linter.unusedVariables false
set_option linter.unusedSimpArgs false
/-- A key's bucket. -/
def bkN (k : List UInt8) : Nat := (k.getD 0 0).toNat % 16
theorem bkN_lt (k : List UInt8) : bkN k < 16 := Nat.mod_lt _ (by decide)
theorem bk_is {k : List UInt8} (h : isB k = true) : bk k = ((bkN k : Nat) : Int) := by unfold bk; rw [if_pos h]; rfl
theorem bk_no {k : List UInt8} (h : isB k = false) : bk k = -1 := by unfold bk; rw [h, if_neg (by simp)]
theorem mayTs_at {lv : Nat → List It} {vs : Nat → Int} {n : Nat} (h : mayTs lv vs n = true) {b : Nat} (hb : b < n) : mayT (b : Int) (lv b) (vs b) = true := by
  unfold mayTs at h; rw [List.all_eq_true] at h; exact h b (List.mem_range.2 hb)
theorem mayTs_mk {lv : Nat → List It} {vs : Nat → Int} {n : Nat} (h : ∀ b, b < n → mayT (b : Int) (lv b) (vs b) = true) : mayTs lv vs n = true := by
  unfold mayTs; rw [List.all_eq_true]; exact fun b hb => h b (List.mem_range.1 hb)
theorem mayT_is {b v : Int} {l : List It} (h : mayT b l v = true) : isL l = true := by
  unfold mayT at h; simp only [Bool.and_eq_true] at h; exact h.1.1
theorem mayT_ver {b v : Int} {l : List It} (h : mayT b l v = true) : verB v = true := by
  unfold mayT at h; simp only [Bool.and_eq_true] at h; exact h.1.2
theorem verB_iff {n : Int} : verB n = true ↔ (0 ≤ n ∧ n ≤ 2147483647) := by unfold verB; simp
theorem mayT_mem {b v : Int} {l : List It} (h : mayT b l v = true) {x : It} (hx : x ∈ l) : bk x.key = b ∧ x.ver ≤ v := by
  unfold mayT at h; simp only [Bool.and_eq_true, Bool.not_eq_true'] at h
  have h2 := h.2
  rw [List.any_eq_false] at h2
  have h3 := h2 x hx
  unfold badI at h3
  simp only [Bool.or_eq_true, bne_iff_ne, decide_eq_true_eq, not_or, Decidable.not_not, Int.not_lt] at h3
  exact ⟨h3.1, h3.2⟩
theorem mayT_mk {b v : Int} {l : List It} (h1 : isL l = true) (h2 : verB v = true) (h3 : ∀ x ∈ l, bk x.key = b ∧ x.ver ≤ v) : mayT b l v = true := by
  unfold mayT
  rw [h1, h2, Bool.true_and, Bool.true_and, Bool.not_eq_true', List.any_eq_false]
  intro x hx
  unfold badI
  simp only [Bool.or_eq_true, bne_iff_ne, decide_eq_true_eq, not_or, Decidable.not_not, Int.not_lt]
  exact h3 x hx
/-- A function with another value at one place. -/
def upd {α : Type} (f : Nat → α) (b : Nat) (x : α) : Nat → α := fun i => if i = b then x else f i
theorem upd_at {α : Type} (f : Nat → α) (b : Nat) (x : α) : upd f b x b = x := if_pos rfl
theorem upd_ne {α : Type} (f : Nat → α) {b i : Nat} (x : α) (h : i ≠ b) : upd f b x i = f i := if_neg h
theorem mayTs_upd {lv : Nat → List It} {vs : Nat → Int} {n b : Nat} {l : List It} {v : Int} (h : mayTs lv vs n = true) (hl : mayT (b : Int) l v = true) : mayTs (upd lv b l) (upd vs b v) n = true := by
  refine mayTs_mk fun i hi => ?_
  by_cases hb : i = b
  · subst hb; rw [upd_at, upd_at]; exact hl
  · rw [upd_ne _ _ hb, upd_ne _ _ hb]; exact mayTs_at h hi
theorem put_mayT {b v : Int} {l : List It} {x : It} (h : mayT b l v = true) (hp : putE l x = 0) (hb : bk x.key = b) (hv : v ≤ x.ver) : mayT b (withL l x) x.ver = true := by
  have hm := (putE_zero hp).2.1
  have hver : verB x.ver = true := by
    unfold mayI at hm
    simp only [Bool.and_eq_true, decide_eq_true_eq] at hm
    exact verB_iff.2 ⟨hm.2.2.2.1, hm.2.2.2.2⟩
  refine mayT_mk (with_is hp) hver fun y hy => ?_
  rcases with_mem.1 hy with ⟨h1, _⟩ | rfl | ⟨h1, _⟩
  · exact ⟨(mayT_mem h h1).1, Int.le_trans (mayT_mem h h1).2 hv⟩
  · exact ⟨hb, Int.le_refl _⟩
  · exact ⟨(mayT_mem h h1).1, Int.le_trans (mayT_mem h h1).2 hv⟩
theorem del_mayT {b v ver : Int} {l : List It} {k : List UInt8} (h : mayT b l v = true) (hp : delE l k = 0) (hv : v ≤ ver) (hr : verB ver = true) : mayT b (withoutL l k) ver = true := by
  refine mayT_mk (without_is hp) hr fun y hy => ?_
  have h1 : y ∈ l := (List.mem_filter.1 hy).1
  exact ⟨(mayT_mem h h1).1, Int.le_trans (mayT_mem h h1).2 hv⟩
/-- What is got of a trunk. -/
def gTI (lv : Nat → List It) (k : List UInt8) : It := if isB k = true then gI (lv (bkN k)) k else zI
def gTB (lv : Nat → List It) (k : List UInt8) : Bool := isB k && gB (lv (bkN k)) k
/-- No other bucket of a trunk has a key. -/
theorem other_none {lv : Nat → List It} {vs : Nat → Int} (h : mayTs lv vs 16 = true) {k : List UInt8} {b : Nat} (hb : b < 16) (hk : bk k ≠ (b : Int)) : ∀ x ∈ lv b, x.key ≠ k := by
  rintro x hx rfl
  exact hk (mayT_mem (mayTs_at h hb) hx).1
theorem RdT.put {w : World} {cs : Array Value} {lv : Nat → List It} {vs : Nat → Int} (h : RdT w cs lv vs) {b : Nat} (hb : b < 16) {u : Value} {l : List It} {v : Int} (hu : RdI w u l) :
    RdT w ((cs.setIfInBounds b u).setIfInBounds (16 + b) (.int .i64 v)) (upd lv b l) (upd vs b v) := by
  have hs := h.size
  refine ⟨by simp [hs], fun i hi => ?_, fun i hi => ?_⟩
  · rw [Array.getElem?_setIfInBounds_ne (by omega)]
    by_cases hib : i = b
    · subst hib
      exact ⟨u, by rw [Array.getElem?_setIfInBounds_self_of_lt (by omega)], by rw [upd_at]; exact hu⟩
    · rw [Array.getElem?_setIfInBounds_ne (by omega), upd_ne _ _ hib]
      exact h.leaf i hi
  · by_cases hib : i = b
    · subst hib
      rw [Array.getElem?_setIfInBounds_self_of_lt (by simp; omega), upd_at]
    · rw [Array.getElem?_setIfInBounds_ne (by omega), Array.getElem?_setIfInBounds_ne (by omega), upd_ne _ _ hib]
      exact h.ver i hi
/-- The empty trunk's cells. -/
def zT : Array Value := #[.slice none 0 0, .slice none 0 0, .slice none 0 0, .slice none 0 0, .slice none 0 0, .slice none 0 0, .slice none 0 0, .slice none 0 0, .slice none 0 0, .slice none 0 0, .slice none 0 0, .slice none 0 0, .slice none 0 0, .slice none 0 0, .slice none 0 0, .slice none 0 0, .int .i64 0, .int .i64 0, .int .i64 0, .int .i64 0, .int .i64 0, .int .i64 0, .int .i64 0, .int .i64 0, .int .i64 0, .int .i64 0, .int .i64 0, .int .i64 0, .int .i64 0, .int .i64 0, .int .i64 0, .int .i64 0]
theorem rdt_zero (w : World) : RdT w zT (fun _ => []) (fun _ => 0) := by
  refine ⟨rfl, fun b hb => ⟨.slice none 0 0, ?_, rdk_nil w⟩, fun b hb => ?_⟩
  · have : b = 0 ∨ b = 1 ∨ b = 2 ∨ b = 3 ∨ b = 4 ∨ b = 5 ∨ b = 6 ∨ b = 7 ∨ b = 8 ∨ b = 9 ∨ b = 10 ∨ b = 11 ∨ b = 12 ∨ b = 13 ∨ b = 14 ∨ b = 15 := by omega
    rcases this with rfl | rfl | rfl | rfl | rfl | rfl | rfl | rfl | rfl | rfl | rfl | rfl | rfl | rfl | rfl | rfl <;> rfl
  · have : b = 0 ∨ b = 1 ∨ b = 2 ∨ b = 3 ∨ b = 4 ∨ b = 5 ∨ b = 6 ∨ b = 7 ∨ b = 8 ∨ b = 9 ∨ b = 10 ∨ b = 11 ∨ b = 12 ∨ b = 13 ∨ b = 14 ∨ b = 15 := by omega
    rcases this with rfl | rfl | rfl | rfl | rfl | rfl | rfl | rfl | rfl | rfl | rfl | rfl | rfl | rfl | rfl | rfl <;> rfl
/-- What comes of putting into a trunk: the error. -/
def putTE (lv : Nat → List It) (vs : Nat → Int) (x : It) : Nat := if mayTs lv vs 16 = true ∧ isB x.key = true then (if putE (lv (bkN x.key)) x ≠ 1 ∧ x.ver < vs (bkN x.key) then 18 else putE (lv (bkN x.key)) x) else 1
/-- Likewise of deleting. -/
def delTE (lv : Nat → List It) (vs : Nat → Int) (k : List UInt8) (ver : Int) : Nat := if verB ver = false ∨ mayTs lv vs 16 = false then 1 else if isB k = false then 6 else if delE (lv (bkN k)) k = 0 ∧ ver < vs (bkN k) then 18 else delE (lv (bkN k)) k
end Go.Proofs.YtmjedjhkhjiigaaDoor
