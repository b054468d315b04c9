/- Span: what a range cut in two has; what is under a pattern; the sum; the names. Plain mathematics. -/
/- Span: what a round that appends keeps. -/
import Derived.Test.YtbdfcgffkonbiaaGreatDoorQSSC27
import Derived.Test.YtbdfcgffkonbiaaGreatDoorQSSC10
import Derived.Test.YtbdfcgffkonbiaaGreatDoorQSSC32
import Derived.Test.YtbdfcgffkonbiaaGreatDoorQSSC34
import Derived.Test.YtbdfcgffkonbiaaGreatDoorQSSC25
import Derived.RangeFuncBox
import Derived.OwnWalkIn
namespace Go.Proofs.YtbdfcgffkonbiaaGreatDoor
open Go Go.RowKit
set_option linter.unusedVariables false
set_option linter.unusedSimpArgs false
set_option linter.unusedSectionVars false
theorem patB_all {l : List UInt8} (h : patB l = true) : l.all okc = true := by
  unfold patB at h
  simp only [Bool.and_eq_true] at h
  exact h.2
theorem isB_pat {l : List UInt8} (h : isB l = true) : patB l = true := by
  unfold isB at h
  simp only [Bool.and_eq_true] at h
  exact h.2
theorem endL_nil {l : List UInt8} : endL l = [] ↔ l = [] := by
  constructor
  · intro h
    have := endL_len l
    rw [h] at this
    exact List.eq_nil_of_length_eq_zero this.symm
  · rintro rfl; rfl
theorem range_prefix {k a : List UInt8} (hk : isB k = true) (ha : patB a = true) : (!ltB k a && (decide (endL a = []) || ltB k (endL a))) = a.isPrefixOf k := by
  by_cases h : a = []
  · subst h
    rw [lt_nil]
    simp [endL_nil]
  · have h2 : ¬ endL a = [] := fun e => h (endL_nil.1 e)
    have := end_prefix a k h (patB_all ha) (patB_all (isB_pat hk))
    simp only [h2, decide_false, Bool.false_or]
    exact this
section
variable {lv : Nat → List It} {vs : Nat → Int} (h : mayTs lv vs 16 = true)
include h
theorem rng_sorted (f t : List UInt8) : SrtI (rngL lv f t) := (allS_sorted h).filter _
theorem rng_mem {f t : List UInt8} {x : It} : x ∈ rngL lv f t ↔ x ∈ allS lv ∧ inK f t x.key = true := by unfold rngL; exact List.mem_filter
theorem rng_key {f t : List UInt8} {x : It} (hx : x ∈ rngL lv f t) : isB x.key = true := allS_key h ((rng_mem h).1 hx).1
theorem rng_all : rngL lv [] [] = allS lv := by
  unfold rngL
  refine filter_all fun x _ => ?_
  unfold inK; rw [lt_nil]; rfl
theorem rng_cut {f c t : List UInt8} (hc : c ≠ []) (hcf : ltB c f = false) (hct : t = [] ∨ ltB c t = true) : rngL lv f c ++ rngL lv c t = rngL lv f t := by
  have e1 : ∀ k, ltB k c = true → ltB k f = false → inK f t k = true := fun k h1 h2 => by
    unfold inK; rw [h2]
    rcases hct with h3 | h3
    · simp [h3]
    · rw [lt_trans h1 h3]; simp
  refine srt_ext (key := It.key) (lt := ltB) (fun h1 h2 => lt_trans h1 h2) ltB_self ?_ (rng_sorted h f t) fun x => ?_
  · refine List.pairwise_append.2 ⟨rng_sorted h f c, rng_sorted h c t, fun a ha b hb => ?_⟩
    have ha2 := ((rng_mem h).1 ha).2
    have hb2 := ((rng_mem h).1 hb).2
    unfold inK at ha2 hb2
    simp only [hc, decide_false, Bool.false_or, Bool.and_eq_true, Bool.not_eq_true'] at ha2 hb2
    cases hab : ltB a.key b.key with
    | true => rfl
    | false =>
      have := le_lt hab ha2.2
      rw [hb2.1] at this; cases this
  · rw [List.mem_append, rng_mem h, rng_mem h, rng_mem h]
    constructor
    · rintro (⟨h1, h2⟩ | ⟨h1, h2⟩)
      · unfold inK at h2
        simp only [hc, decide_false, Bool.false_or, Bool.and_eq_true, Bool.not_eq_true'] at h2
        exact ⟨h1, e1 _ h2.2 h2.1⟩
      · refine ⟨h1, ?_⟩
        unfold inK at h2 ⊢
        rw [Bool.and_eq_true] at h2 ⊢
        refine ⟨?_, h2.2⟩
        cases hxf : ltB x.key f with
        | false => rfl
        | true =>
          have hxc : ltB x.key c = false := by simpa using h2.1
          have := le_lt hxc hxf
          rw [hcf] at this; cases this
    · rintro ⟨h1, h2⟩
      have h3 := h2
      unfold inK at h3
      rw [Bool.and_eq_true] at h3
      cases hxc : ltB x.key c with
      | true => exact .inl ⟨h1, by unfold inK; rw [hxc, Bool.and_eq_true]; exact ⟨h3.1, by simp⟩⟩
      | false => exact .inr ⟨h1, by unfold inK; rw [hxc, Bool.and_eq_true]; exact ⟨rfl, h3.2⟩⟩
theorem rng_under {p : List UInt8} (hp : patB p = true) : rngL lv p (endL p) = (allS lv).filter (fun x => p.isPrefixOf x.key) := by
  unfold rngL
  refine List.filter_congr fun x hx => ?_
  exact range_prefix (allS_key h hx) hp
end
end Go.Proofs.YtbdfcgffkonbiaaGreatDoor
namespace Go.Proofs.YtbdfcgffkonbiaaGreatDoor
open Go Go.RowKit
set_option linter.unusedVariables false
set_option linter.unusedSimpArgs false
theorem not_row_of {W : World} {B base : Nat} (hB : B < base) {e : TypeId} {size k : Nat} {v : Value} {xs : List Value} (hr : W.ownsRow base e size v k xs) : some B ≠ v.ownBlock := by
  rcases hr.2 with ⟨rfl, _⟩ | ⟨g, cap, cur, rfl, hb, _, _⟩
  · simp [Value.ownBlock]
  · intro e'
    obtain rfl : B = g := by simpa [Value.ownBlock] using e'
    omega
theorem own_weak {W : World} {base b : Nat} (hb : b ≤ base) {e : TypeId} {size k : Nat} {v : Value} {xs : List Value} (hr : W.ownsRow base e size v k xs) : W.ownsRow b e size v k xs := by
  refine ⟨hr.1, ?_⟩
  rcases hr.2 with h | ⟨g, cap, cur, h1, h2, h3⟩
  · exact .inl h
  · exact .inr ⟨g, cap, cur, h1, Nat.le_trans hb h2, h3⟩
/-- An append to a row of one's own that a box below it holds. -/
theorem boxed_appended {W w1 : World} {n₀ b₂ B : Nat} {t e : TypeId} {size : Nat} {v v' : Value} {k m : Nat} {xs ys : List Value} {tmp : Obj}
    (hv : Boxed W B t v) (hne : B < b₂) (hrow : W.ownsRow b₂ e size v k xs) (hn₀ : b₂ ≤ W.heap.size) (hB : n₀ ≤ B)
    (hown' : w1.ownsRow b₂ e size v' m ys) (hgrow : (W.alloc tmp).grownBy w1 v.ownBlock) :
    Boxed w1 B t v ∧ Boxed (w1.setCell ⟨B, 0, none⟩ v') B t v' ∧ (w1.setCell ⟨B, 0, none⟩ v').ownsRow b₂ e size v' m ys ∧ KeepsOthers W (w1.setCell ⟨B, 0, none⟩ v') ∧ Below n₀ W (w1.setCell ⟨B, 0, none⟩ v') := by
  have hv1 : Boxed w1 B t v := (hv.alloc tmp).kept hgrow (not_row_of hne hrow)
  refine ⟨hv1, hv1.set v', hown'.kept (grownBy_setCell' w1 B v') (.inr (not_row_of hne hown').symm), ?_, ?_⟩
  · refine ((KeepsOthers.alloc W tmp).trans (KeepsOthers.of_grownBy hgrow fun j o ej hj => ?_)).trans (KeepsOthers.setCell _ _ _)
    rcases (hrow.alloc tmp).2 with ⟨rfl, _⟩ | ⟨g, cap, cur, rfl, _, hgb, _⟩
    · simp [Value.ownBlock] at ej
    · obtain rfl : g = j := by simpa [Value.ownBlock] using ej
      rw [hgb] at hj; cases hj; rfl
  · refine (((Below.refl n₀ W).alloc (by omega) tmp).grown hgrow (by simp; omega) fun j ej => ?_).setCell (p := ⟨B, 0, none⟩) hB v'
    rcases hrow.2 with ⟨rfl, _⟩ | ⟨g, cap, cur, rfl, hb, _, _⟩
    · simp [Value.ownBlock] at ej
    · obtain rfl : g = j := by simpa [Value.ownBlock] using ej
      omega

theorem Tw11.own {M base : Nat} {A B : World} (h : Tw11 M A B) {size k : Nat} {v : Value} {xs : List Value} (r : A.ownsRow base 48 size v k xs) : B.ownsRow base 48 size v k xs := by
  refine ⟨r.1, ?_⟩
  rcases r.2 with h1 | ⟨g, cap, cur, h1, h2, h3, h4⟩
  · exact .inl h1
  · exact .inr ⟨g, cap, cur, h1, h2, h.same g _ h3 (fun _ cs fr e => by injection e with _ e2; exact absurd e2 (by decide)), h4⟩
theorem Tw11.cells {M : Nat} {A B : World} (h : Tw11 M A B) {g : Nat} {cs : Array Value} {t : TypeId} (ht : t ≠ 24) (q : A.heap[g]? = some (.cells cs t (0, 0))) : B.heap[g]? = some (.cells cs t (0, 0)) :=
  h.same g _ q (fun _ cs' fr e => by injection e with _ e2; exact ht e2)
theorem own_kept11 {X Y : World} {row : Option Nat} {b B size k : Nat} {e : TypeId} {v : Value} {xs : List Value} (hr : X.ownsRow b e size v k xs) (hg : X.grownBy Y row) (hrow : ∀ r, row = some r → B ≤ r ∧ ∃ o : Obj, X.heap[r]? = some o ∧ o.isCells = false) : Y.ownsRow b e size v k xs := by
  refine hr.kept hg ?_
  rcases hr.2 with ⟨rfl, _⟩ | ⟨g, cap, cur, rfl, _, hgb, _⟩
  · exact .inl rfl
  · refine .inr fun e' => ?_
    obtain ⟨_, o, ho, hc⟩ := hrow g (by simpa [Value.ownBlock] using e'.symm)
    rw [hgb] at ho; cases ho; cases hc
theorem cells_kept11 {X Y : World} {row : Option Nat} {B g : Nat} {cs : Array Value} {t : TypeId} (q : X.heap[g]? = some (.cells cs t (0, 0))) (hg : X.grownBy Y row) (hrow : ∀ r, row = some r → B ≤ r ∧ ∃ o : Obj, X.heap[r]? = some o ∧ o.isCells = false) : Y.heap[g]? = some (.cells cs t (0, 0)) := by
  refine (hg.block g (lt_of_block q) ?_).trans q
  intro e'
  obtain ⟨_, o, ho, hc⟩ := hrow g e'.symm
  rw [q] at ho; cases ho; cases hc
def fsts (l : List (It × Nat)) : List It := l.map Prod.fst
theorem fsts_ixs (l : List It) : fsts (ixs l) = l := by unfold fsts ixs; simp
theorem fsts_snoc (l : List (It × Nat)) (x : It × Nat) : fsts (l ++ [x]) = fsts l ++ [x.1] := by unfold fsts; simp
theorem fsts_len (l : List (It × Nat)) : (fsts l).length = l.length := by unfold fsts; simp
theorem ixs_mem {l : List It} {y : It × Nat} (h : y ∈ ixs l) : y.2 < l.length := by
  unfold ixs at h
  have := (List.mem_zipIdx' h).1
  exact this
/-- What a loop has that appends to what it hands back: blocks that stay, and the row. -/
def InvO (fix : List (Nat × Obj)) (M n0 : Nat) (w : World) (pre : List (It × Nat)) (X : World) : Prop :=
  ((∀ p ∈ fix, X.heap[p.1]? = some p.2) ∧ ∃ v, X.heap[M]? = some (.cells #[v] 22 (0, 0)) ∧ X.ownsRow (M + 1) 48 5 v (fsts pre).length ((fsts pre).flatMap itC)) ∧ Below n0 w X
/-- The blocks that stay are variables of other kinds. -/
def FixOk (fix : List (Nat × Obj)) (M : Nat) : Prop := ∀ p ∈ fix, p.1 < M ∧ ∃ cs t, p.2 = .cells cs t (0, 0) ∧ t ≠ 24
section
variable {fix : List (Nat × Obj)} {M n0 : Nat} {w : World} (ok : FixOk fix M)
include ok
theorem InvO.from (hM : n0 ≤ M) (B : Nat) (hB : n0 ≤ B) (hw : n0 ≤ w.heap.size) : OwnFrom B (InvO fix M n0 w) := by
  rintro s X Y row ⟨⟨hf, v, hv, hr⟩, hb⟩ hg hrow
  refine ⟨⟨fun p hp => ?_, v, cells_kept11 hv hg hrow, own_kept11 hr hg hrow⟩, hb.grown hg (Nat.le_trans hw hb.size) fun j e => Nat.le_trans hB (hrow j e).1⟩
  obtain ⟨_, cs, t, e, _⟩ := ok p hp
  have := hf p hp
  rw [e] at this ⊢
  exact cells_kept11 this hg hrow
theorem InvO.turn (hM : n0 ≤ w.heap.size) {s : List (It × Nat)} {X Y : World} (h : InvO fix M n0 w s X) (t : Tw11 n0 X Y) : InvO fix M n0 w s Y := by
  obtain ⟨⟨hf, v, hv, hr⟩, hb⟩ := h
  refine ⟨⟨fun p hp => ?_, v, t.cells (by decide) hv, t.own hr⟩, hb.trans (t.below (Nat.le_trans hM hb.size))⟩
  obtain ⟨_, cs, ty, e, hne⟩ := ok p hp
  have := hf p hp
  rw [e] at this ⊢
  exact t.cells hne this
omit ok in
theorem InvO.below (hM : n0 ≤ w.heap.size) {s : List (It × Nat)} {X Y : World} (h : InvO fix M n0 w s X) (g : Below X.heap.size X Y) : InvO fix M n0 w s Y := by
  obtain ⟨⟨hf, v, hv, hr⟩, hb⟩ := h
  exact ⟨⟨fun p hp => (g.block _ (lt_of_block (hf p hp))).trans (hf p hp), v, (g.block _ (lt_of_block hv)).trans hv, own_keep hr g⟩, hb.trans (g.mono (Nat.le_trans hM hb.size))⟩
/-- Behind the append. -/
theorem InvO.app (hM : n0 ≤ M) {pre : List (It × Nat)} {X w1 : World} {v v' : Value} {tmp : Obj} {x : It × Nat}
    (hf : ∀ p ∈ fix, X.heap[p.1]? = some p.2) (hv : X.heap[M]? = some (.cells #[v] 22 (0, 0))) (hr : X.ownsRow (M + 1) 48 5 v (fsts pre).length ((fsts pre).flatMap itC)) (hb : Below n0 w X)
    (hown' : w1.ownsRow (M + 1) 48 5 v' ((fsts pre).length + 1) ((fsts pre).flatMap itC ++ itC x.1)) (hgrow : (X.alloc tmp).grownBy w1 v.ownBlock) :
    InvO fix M n0 w (pre ++ [x]) (w1.setCell ⟨M, 0, none⟩ v') ∧ KeepsOthers X (w1.setCell ⟨M, 0, none⟩ v') ∧ Kp11 n0 X (w1.setCell ⟨M, 0, none⟩ v') := by
  have hlM : M + 1 ≤ X.heap.size := lt_of_block hv
  obtain ⟨hv1, hv2, hr2, hk2, hb2⟩ := boxed_appended (n₀ := n0) (B := M) (b₂ := M + 1) hv (by omega) hr hlM hM hown' hgrow
  have nr : ∀ {g : Nat}, g < M + 1 → some g ≠ v.ownBlock := fun {g} hg => not_row_of hg hr
  refine ⟨⟨⟨fun p hp => ?_, v', hv2, ?_⟩, hb.trans hb2⟩, hk2, ?_⟩
  · obtain ⟨hlt, cs, t, e, _⟩ := ok p hp
    have hq := hf p hp
    rw [e] at hq ⊢
    refine (set_old (by omega)).trans ((hgrow.block _ ?_ (nr (by omega))).trans ((@heap_alloc_old _ _ _ (lt_of_block hq)).trans hq))
    have := lt_of_block hq; simp; omega
  · rw [fsts_snoc, List.length_append, List.flatMap_append]; simpa using hr2
  · refine ((Kp11.of_below ((Below.refl _ X).alloc (Nat.le_refl _) tmp)).trans (Kp11.of_grown hgrow fun r hr3 => ?_)).trans (Kp11.of_grown (row := some M) (grown_setB grown_reflB) fun r hr3 => ?_)
    · rcases (hr.alloc tmp).2 with ⟨e, _⟩ | ⟨g, cap, cur, e, hbg, hgb, _⟩
      · rw [e] at hr3; cases hr3
      · rw [e] at hr3
        obtain rfl : g = r := by simpa [Value.ownBlock] using hr3
        refine ⟨by omega, fun cs t fr hq => ?_⟩
        rw [hgb] at hq
        injection hq with hq; injection hq with _ hq _
        subst hq; decide
    · injection hr3 with hr3
      subst hr3
      refine ⟨hM, fun cs t fr hq => ?_⟩
      rw [show w1.heap[M]? = _ from hv1] at hq
      injection hq with hq; injection hq with _ hq _
      subst hq; decide
end
end Go.Proofs.YtbdfcgffkonbiaaGreatDoor
