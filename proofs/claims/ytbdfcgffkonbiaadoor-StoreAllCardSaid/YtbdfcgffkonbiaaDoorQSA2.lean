/- Stores, mathematics: the document's Undo is the merge of both stores' items. -/
import Derived.Test.YtbdfcgffkonbiaaDoorQST41
namespace Go.Proofs.YtbdfcgffkonbiaaDoor
open Go Go.RowKit
set_option linter.unusedVariables false
set_option linter.unusedSimpArgs false
def valL (l : List It) (k : List UInt8) : V7.V := ((l.find? fun x => decide (x.key = k)).map It.v).getD eV0
theorem valL_nil (k : List UInt8) : valL [] k = eV0 := rfl
theorem valL_eq (x : It) (l : List It) : valL (x :: l) x.key = x.v := by unfold valL; rw [List.find?_cons_of_pos (by simp)]; rfl
theorem valL_ne {x : It} {k : List UInt8} (l : List It) (h : x.key ≠ k) : valL (x :: l) k = valL l k := by unfold valL; rw [List.find?_cons_of_neg (by simpa using h)]
theorem valL_none {l : List It} {k : List UInt8} (h : ∀ x ∈ l, x.key ≠ k) : valL l k = eV0 := by
  unfold valL
  rw [List.find?_eq_none.2 (by intro x hx; simpa using h x hx)]; rfl
theorem valL_mem {l : List It} (hs : SrtI l) {x : It} (hx : x ∈ l) : valL l x.key = x.v := by
  induction l with
  | nil => cases hx
  | cons y l ih =>
    obtain ⟨h1, h2⟩ := List.pairwise_cons.1 hs
    rcases List.mem_cons.1 hx with rfl | hx
    · exact valL_eq _ _
    · rw [valL_ne _ (ltB_ne (h1 x hx)), ih h2 hx]
/-- An edit's key is one of both lists. -/
theorem um_key : ∀ (n : Nat) (a b : List It), a.length + b.length ≤ n → ∀ e ∈ undoM a b, ∃ z ∈ a ++ b, z.key = e.key
  | _, [], [], _, e, he => by rw [um_nil] at he; cases he
  | n + 1, x :: a, [], h, e, he => by
    rw [um_a0] at he
    rcases List.mem_cons.1 he with rfl | he
    · exact ⟨x, by simp, rfl⟩
    · obtain ⟨z, hz, hk⟩ := um_key n a [] (by simp at h ⊢; omega) e he
      exact ⟨z, by simp at hz ⊢; exact .inr hz, hk⟩
  | n + 1, [], y :: b, h, e, he => by
    rw [um_b0] at he
    rcases List.mem_cons.1 he with rfl | he
    · exact ⟨y, by simp, rfl⟩
    · obtain ⟨z, hz, hk⟩ := um_key n [] b (by simp at h ⊢; omega) e he
      exact ⟨z, by simp at hz ⊢; exact .inr hz, hk⟩
  | n + 1, x :: a, y :: b, h, e, he => by
    simp at h
    cases h1 : ltB x.key y.key with
    | true =>
      rw [um_a h1] at he
      rcases List.mem_cons.1 he with rfl | he
      · exact ⟨x, by simp, rfl⟩
      · obtain ⟨z, hz, hk⟩ := um_key n a (y :: b) (by simp; omega) e he
        exact ⟨z, by simp at hz ⊢; exact .inr hz, hk⟩
    | false =>
      cases h2 : ltB y.key x.key with
      | true =>
        rw [um_b h1 h2] at he
        rcases List.mem_cons.1 he with rfl | he
        · exact ⟨y, by simp, rfl⟩
        · obtain ⟨z, hz, hk⟩ := um_key n (x :: a) b (by simp; omega) e he
          exact ⟨z, by simp at hz ⊢; rcases hz with hz | hz | hz <;> simp [hz], hk⟩
      | false =>
        cases h3 : vB x.v y.v with
        | true =>
          rw [um_eq h1 h2 h3] at he
          obtain ⟨z, hz, hk⟩ := um_key n a b (by omega) e he
          exact ⟨z, by simp at hz ⊢; rcases hz with hz | hz <;> simp [hz], hk⟩
        | false =>
          rw [um_ne h1 h2 h3] at he
          rcases List.mem_cons.1 he with rfl | he
          · exact ⟨x, by simp, rfl⟩
          · obtain ⟨z, hz, hk⟩ := um_key n a b (by omega) e he
            exact ⟨z, by simp at hz ⊢; rcases hz with hz | hz <;> simp [hz], hk⟩
  | 0, x :: a, _, h, _, _ => by simp at h
  | 0, [], y :: b, h, _, _ => by simp at h
abbrev SrtE (l : List Ed) : Prop := l.Pairwise fun a b => ltB a.key b.key = true
theorem lt_tr {a b c : List UInt8} (h1 : ltB a b = true) (h2 : ltB b c = true) : ltB a c = true := lt_trans h1 h2
/-- The merge, of sorted lists: sorted; and just what is unlike. -/
theorem um_all : ∀ (n : Nat) (a b : List It), a.length + b.length ≤ n → SrtI a → SrtI b → (∀ x ∈ a, x.v ≠ eV0) → (∀ x ∈ b, x.v ≠ eV0) →
    SrtE (undoM a b) ∧ ∀ e, e ∈ undoM a b ↔ ((∃ z ∈ a ++ b, z.key = e.key) ∧ vB (valL a e.key) (valL b e.key) = false ∧ e.v = valL a e.key)
  | n, [], [], _, _, _, _, _ => by rw [um_nil]; exact ⟨List.Pairwise.nil, fun e => by simp⟩
  | n + 1, x :: a, [], h, ha, hb, va, vb => by
    obtain ⟨h1, h2⟩ := List.pairwise_cons.1 ha
    obtain ⟨i1, i2⟩ := um_all n a [] (by simp at h ⊢; omega) h2 hb (fun z hz => va z (by simp [hz])) vb
    rw [um_a0]
    have hk : ∀ e ∈ undoM a [], ltB x.key e.key = true := fun e he => by
      obtain ⟨z, hz, e1⟩ := um_key n a [] (by simp at h ⊢; omega) e he
      rw [← e1]; exact h1 z (by simpa using hz)
    refine ⟨List.pairwise_cons.2 ⟨fun e he => hk e he, i1⟩, fun e => ?_⟩
    by_cases hx : x.key = e.key
    · rw [← hx, valL_eq, valL_nil]
      constructor
      · intro he
        rcases List.mem_cons.1 he with rfl | he
        · exact ⟨⟨x, by simp, rfl⟩, Bool.eq_false_iff.2 fun q => va x (by simp) (vB_iff.1 q), rfl⟩
        · exact absurd hx (ltB_ne (hk e he))
      · rintro ⟨_, _, hv⟩
        exact List.mem_cons.2 (.inl (Ed.ext' hx.symm hv))
    · rw [List.mem_cons, i2 e, valL_ne a hx]
      constructor
      · rintro (rfl | ⟨⟨z, hz, hzk⟩, q⟩)
        · exact absurd rfl hx
        · exact ⟨⟨z, by simp at hz ⊢; exact .inr hz, hzk⟩, q⟩
      · rintro ⟨⟨z, hz, hzk⟩, q⟩
        rcases List.mem_cons.1 (by simpa using hz : z ∈ x :: a) with rfl | hz
        · exact absurd hzk hx
        · exact .inr ⟨⟨z, by simpa using hz, hzk⟩, q⟩
  | n + 1, [], y :: b, h, ha, hb, va, vb => by
    obtain ⟨h1, h2⟩ := List.pairwise_cons.1 hb
    obtain ⟨i1, i2⟩ := um_all n [] b (by simp at h ⊢; omega) ha h2 va (fun z hz => vb z (by simp [hz]))
    rw [um_b0]
    have hk : ∀ e ∈ undoM [] b, ltB y.key e.key = true := fun e he => by
      obtain ⟨z, hz, e1⟩ := um_key n [] b (by simp at h ⊢; omega) e he
      rw [← e1]; exact h1 z (by simpa using hz)
    refine ⟨List.pairwise_cons.2 ⟨fun e he => hk e he, i1⟩, fun e => ?_⟩
    by_cases hx : y.key = e.key
    · rw [← hx, valL_eq, valL_nil]
      constructor
      · intro he
        rcases List.mem_cons.1 he with rfl | he
        · exact ⟨⟨y, by simp, rfl⟩, Bool.eq_false_iff.2 fun q => vb y (by simp) (vB_iff.1 q).symm, rfl⟩
        · exact absurd hx (ltB_ne (hk e he))
      · rintro ⟨_, _, hv⟩
        exact List.mem_cons.2 (.inl (Ed.ext' hx.symm hv))
    · rw [List.mem_cons, i2 e, valL_ne b hx]
      constructor
      · rintro (rfl | ⟨⟨z, hz, hzk⟩, q⟩)
        · exact absurd rfl hx
        · exact ⟨⟨z, by simp at hz ⊢; exact .inr hz, hzk⟩, q⟩
      · rintro ⟨⟨z, hz, hzk⟩, q⟩
        rcases List.mem_cons.1 (by simpa using hz : z ∈ y :: b) with rfl | hz
        · exact absurd hzk hx
        · exact .inr ⟨⟨z, by simpa using hz, hzk⟩, q⟩
  | n + 1, x :: a, y :: b, h, ha, hb, va, vb => by
    simp at h
    obtain ⟨a1, a2⟩ := List.pairwise_cons.1 ha
    obtain ⟨b1, b2⟩ := List.pairwise_cons.1 hb
    have va' : ∀ z ∈ a, z.v ≠ eV0 := fun z hz => va z (by simp [hz])
    have vb' : ∀ z ∈ b, z.v ≠ eV0 := fun z hz => vb z (by simp [hz])
    cases h1 : ltB x.key y.key with
    | true =>
      obtain ⟨i1, i2⟩ := um_all n a (y :: b) (by simp; omega) a2 hb va' vb
      rw [um_a h1]
      have hy : ∀ z ∈ y :: b, ltB x.key z.key = true := fun z hz => by
        rcases List.mem_cons.1 hz with rfl | hz
        · exact h1
        · exact lt_tr h1 (b1 z hz)
      have hk : ∀ e ∈ undoM a (y :: b), ltB x.key e.key = true := fun e he => by
        obtain ⟨z, hz, e1⟩ := um_key n a (y :: b) (by simp; omega) e he
        rw [← e1]
        rcases List.mem_append.1 hz with hz | hz
        · exact a1 z hz
        · exact hy z hz
      refine ⟨List.pairwise_cons.2 ⟨fun e he => hk e he, i1⟩, fun e => ?_⟩
      by_cases hx : x.key = e.key
      · rw [← hx, valL_eq, valL_none (l := y :: b) fun z hz q => ltB_ne (hy z hz) q.symm]
        constructor
        · intro he
          rcases List.mem_cons.1 he with rfl | he
          · exact ⟨⟨x, by simp, rfl⟩, Bool.eq_false_iff.2 fun q => va x (by simp) (vB_iff.1 q), rfl⟩
          · exact absurd hx (ltB_ne (hk e he))
        · rintro ⟨_, _, hv⟩
          exact List.mem_cons.2 (.inl (Ed.ext' hx.symm hv))
      · rw [List.mem_cons, i2 e, valL_ne a hx]
        constructor
        · rintro (rfl | ⟨⟨z, hz, hzk⟩, q⟩)
          · exact absurd rfl hx
          · exact ⟨⟨z, by simp at hz ⊢; exact .inr hz, hzk⟩, q⟩
        · rintro ⟨⟨z, hz, hzk⟩, q⟩
          rcases List.mem_cons.1 (by simpa using hz : z ∈ x :: (a ++ y :: b)) with rfl | hz
          · exact absurd hzk hx
          · exact .inr ⟨⟨z, hz, hzk⟩, q⟩
    | false =>
      cases h2 : ltB y.key x.key with
      | true =>
        obtain ⟨i1, i2⟩ := um_all n (x :: a) b (by simp; omega) ha b2 va vb'
        rw [um_b h1 h2]
        have hy : ∀ z ∈ x :: a, ltB y.key z.key = true := fun z hz => by
          rcases List.mem_cons.1 hz with rfl | hz
          · exact h2
          · exact lt_tr h2 (a1 z hz)
        have hk : ∀ e ∈ undoM (x :: a) b, ltB y.key e.key = true := fun e he => by
          obtain ⟨z, hz, e1⟩ := um_key n (x :: a) b (by simp; omega) e he
          rw [← e1]
          rcases List.mem_append.1 hz with hz | hz
          · exact hy z hz
          · exact b1 z hz
        refine ⟨List.pairwise_cons.2 ⟨fun e he => hk e he, i1⟩, fun e => ?_⟩
        by_cases hx : y.key = e.key
        · rw [← hx, valL_eq, valL_none (l := x :: a) fun z hz q => ltB_ne (hy z hz) q.symm]
          constructor
          · intro he
            rcases List.mem_cons.1 he with rfl | he
            · exact ⟨⟨y, by simp, rfl⟩, Bool.eq_false_iff.2 fun q => vb y (by simp) (vB_iff.1 q).symm, rfl⟩
            · exact absurd hx (ltB_ne (hk e he))
          · rintro ⟨_, _, hv⟩
            exact List.mem_cons.2 (.inl (Ed.ext' hx.symm hv))
        · rw [List.mem_cons, i2 e, valL_ne b hx]
          constructor
          · rintro (rfl | ⟨⟨z, hz, hzk⟩, q⟩)
            · exact absurd rfl hx
            · refine ⟨⟨z, ?_, hzk⟩, q⟩
              rcases List.mem_append.1 hz with hz | hz
              · exact List.mem_append.2 (.inl hz)
              · exact List.mem_append.2 (.inr (List.mem_cons.2 (.inr hz)))
          · rintro ⟨⟨z, hz, hzk⟩, q⟩
            rcases List.mem_append.1 hz with hz | hz
            · exact .inr ⟨⟨z, List.mem_append.2 (.inl hz), hzk⟩, q⟩
            · rcases List.mem_cons.1 hz with rfl | hz
              · exact absurd hzk hx
              · exact .inr ⟨⟨z, List.mem_append.2 (.inr hz), hzk⟩, q⟩
      | false =>
        have exy : x.key = y.key := ltB_tri h1 h2
        obtain ⟨i1, i2⟩ := um_all n a b (by omega) a2 b2 va' vb'
        have hk : ∀ e ∈ undoM a b, ltB x.key e.key = true := fun e he => by
          obtain ⟨z, hz, e1⟩ := um_key n a b (by omega) e he
          rw [← e1]
          rcases List.mem_append.1 hz with hz | hz
          · exact a1 z hz
          · rw [exy]; exact b1 z hz
        have step : ∀ e : Ed, x.key ≠ e.key → (e ∈ undoM a b ↔ ((∃ z ∈ x :: a ++ y :: b, z.key = e.key) ∧ vB (valL (x :: a) e.key) (valL (y :: b) e.key) = false ∧ e.v = valL (x :: a) e.key)) := fun e hx => by
          rw [i2 e, valL_ne a hx, valL_ne b (by rw [← exy]; exact hx)]
          constructor
          · rintro ⟨⟨z, hz, hzk⟩, q⟩
            refine ⟨⟨z, ?_, hzk⟩, q⟩
            rcases List.mem_append.1 hz with hz | hz
            · exact List.mem_append.2 (.inl (List.mem_cons.2 (.inr hz)))
            · exact List.mem_append.2 (.inr (List.mem_cons.2 (.inr hz)))
          · rintro ⟨⟨z, hz, hzk⟩, q⟩
            refine ⟨⟨z, ?_, hzk⟩, q⟩
            rcases List.mem_append.1 hz with hz | hz
            · rcases List.mem_cons.1 hz with rfl | hz
              · exact absurd hzk hx
              · exact List.mem_append.2 (.inl hz)
            · rcases List.mem_cons.1 hz with rfl | hz
              · exact absurd (exy.trans hzk) hx
              · exact List.mem_append.2 (.inr hz)
        cases h3 : vB x.v y.v with
        | true =>
          rw [um_eq h1 h2 h3]
          refine ⟨i1, fun e => ?_⟩
          by_cases hx : x.key = e.key
          · constructor
            · intro he; exact absurd hx (ltB_ne (hk e he))
            · rintro ⟨_, q, _⟩
              rw [← hx, valL_eq, exy, valL_eq, h3] at q; cases q
          · exact step e hx
        | false =>
          rw [um_ne h1 h2 h3]
          refine ⟨List.pairwise_cons.2 ⟨fun e he => hk e he, i1⟩, fun e => ?_⟩
          by_cases hx : x.key = e.key
          · have hy : valL (y :: b) x.key = y.v := by rw [exy]; exact valL_eq _ _
            rw [← hx, valL_eq, hy]
            constructor
            · intro he
              rcases List.mem_cons.1 he with rfl | he
              · exact ⟨⟨x, by simp, rfl⟩, h3, rfl⟩
              · exact absurd hx (ltB_ne (hk e he))
            · rintro ⟨_, _, hv⟩
              exact List.mem_cons.2 (.inl (Ed.ext' hx.symm hv))
          · rw [List.mem_cons, ← step e hx]
            exact ⟨fun h => h.resolve_left fun q => hx (by rw [q]), .inr⟩
  | 0, x :: a, _, h, _, _, _, _ => by simp at h
  | 0, [], y :: b, h, _, _, _, _ => by simp at h
theorem fold_keys : ∀ (l acc : List It) (k : List UInt8), (∃ z ∈ l.foldl withL acc, z.key = k) ↔ ((∃ z ∈ acc, z.key = k) ∨ ∃ z ∈ l, z.key = k)
  | [], acc, k => by simp
  | x :: l, acc, k => by
    rw [List.foldl_cons, fold_keys l (withL acc x) k]
    constructor
    · rintro (⟨z, hz, hk⟩ | ⟨z, hz, hk⟩)
      · rcases with_mem.1 hz with ⟨q, _⟩ | rfl | ⟨q, _⟩
        · exact .inl ⟨z, q, hk⟩
        · exact .inr ⟨z, by simp, hk⟩
        · exact .inl ⟨z, q, hk⟩
      · exact .inr ⟨z, by simp [hz], hk⟩
    · rintro (⟨z, hz, hk⟩ | ⟨z, hz, hk⟩)
      · cases h1 : ltB z.key x.key with
        | true => exact .inl ⟨z, with_mem.2 (.inl ⟨hz, h1⟩), hk⟩
        | false =>
          cases h2 : ltB x.key z.key with
          | true => exact .inl ⟨z, with_mem.2 (.inr (.inr ⟨hz, h2⟩)), hk⟩
          | false => exact .inl ⟨x, with_mem.2 (.inr (.inl rfl)), by rw [← ltB_tri h1 h2]; exact hk⟩
      · rcases List.mem_cons.1 hz with rfl | hz
        · exact .inl ⟨z, with_mem.2 (.inr (.inl rfl)), hk⟩
        · exact .inr ⟨z, hz, hk⟩
/-- What the document makes of the keys of both. -/
def edR (lvA lvB : Nat → List It) (x : It) : List Ed := if vB (gTI lvA x.key).v (gTI lvB x.key).v = true then [] else [⟨x.key, (gTI lvA x.key).v⟩]
theorem gTI_val {lv : Nat → List It} {vs : Nat → Int} (h : mayTs lv vs 16 = true) (k : List UInt8) : (gTI lv k).v = valL (allS lv) k := by
  by_cases hk : ∃ x ∈ allS lv, x.key = k
  · obtain ⟨x, hx, rfl⟩ := hk
    obtain ⟨b, hb, hxb⟩ := (allS_mem h).1 hx
    rw [(gT_found h hb hxb).1, valL_mem (allS_sorted h) hx]
  · have hn : ∀ x ∈ allS lv, x.key ≠ k := fun x hx e => hk ⟨x, hx, e⟩
    rw [(gT_none h (fun b hb x hx => hn x ((allS_mem h).2 ⟨b, hb, hx⟩))).1, valL_none hn]; rfl
theorem all_v {lv : Nat → List It} {vs : Nat → Int} (h : mayTs lv vs 16 = true) : ∀ x ∈ allS lv, x.v ≠ eV0 := by
  intro x hx e
  obtain ⟨b, hb, hxb⟩ := (allS_mem h).1 hx
  have := isL_may (isT h hb) x hxb
  unfold mayI at this
  simp only [Bool.and_eq_true, decide_eq_true_eq] at this
  exact this.2.2.1 (by rw [e]; rfl)
theorem edR_key {lvA lvB : Nat → List It} {x : It} {e : Ed} (h : e ∈ edR lvA lvB x) : e.key = x.key := by
  unfold edR at h
  split at h
  · cases h
  · rw [List.mem_singleton.1 h]
theorem flat_srt {lvA lvB : Nat → List It} : ∀ {L : List It}, SrtI L → SrtE (L.flatMap (edR lvA lvB))
  | [], _ => List.Pairwise.nil
  | x :: L, h => by
    obtain ⟨h1, h2⟩ := List.pairwise_cons.1 h
    rw [List.flatMap_cons, SrtE, List.pairwise_append]
    refine ⟨?_, flat_srt h2, fun a ha b hb => ?_⟩
    · unfold edR
      split
      · exact List.Pairwise.nil
      · exact List.pairwise_singleton _ _
    · obtain ⟨z, hz, hbz⟩ := List.mem_flatMap.1 hb
      rw [edR_key ha, edR_key hbz]
      exact h1 z hz
theorem refUndo_eq {lvA lvB : Nat → List It} {vsA vsB : Nat → Int} (hA : mayTs lvA vsA 16 = true) (hB : mayTs lvB vsB 16 = true) :
    ((allS lvA ++ allS lvB).foldl withL []).flatMap (edR lvA lvB) = undoM (allS lvA) (allS lvB) := by
  obtain ⟨u1, u2⟩ := um_all _ (allS lvA) (allS lvB) (Nat.le_refl _) (allS_sorted hA) (allS_sorted hB) (all_v hA) (all_v hB)
  refine srt_ext (key := Ed.key) (lt := ltB) (fun h1 h2 => lt_tr h1 h2) ltB_self (flat_srt (fold_sorted _ _ List.Pairwise.nil)) u1 fun e => ?_
  rw [u2 e, List.mem_flatMap]
  have hk := fold_keys (allS lvA ++ allS lvB) [] e.key
  constructor
  · rintro ⟨z, hz, he⟩
    unfold edR at he
    rw [gTI_val hA, gTI_val hB] at he
    split at he
    · cases he
    · rename_i hv
      rw [List.mem_singleton] at he
      subst he
      refine ⟨?_, by simpa using hv, rfl⟩
      have := hk.1 ⟨z, hz, rfl⟩
      simpa using this
  · rintro ⟨hz, hv, he⟩
    obtain ⟨z, hz, hzk⟩ := hk.2 (.inr hz)
    refine ⟨z, hz, ?_⟩
    unfold edR
    rw [gTI_val hA, gTI_val hB, hzk, hv, if_neg (by decide), ← he]
    simp
end Go.Proofs.YtbdfcgffkonbiaaDoor
