/- Leaves: a leaf is told by its chunks, and what chunks tell has just these: mathematics. -/
import Derived.Test.YtcehgfganjdghaaDoorQLBU46
import Derived.Test.YtcehgfganjdghaaDoorQLBU29
namespace Go.Proofs.YtcehgfganjdghaaDoor
open Go Go.RowKit
set_option linter.unusedVariables false
set_option linter.unusedSimpArgs false
theorem cutText_put {s : List UInt8} (t : List UInt8) (h : s.length ≤ 255) : cutTextL (textL s ++ t) = (s, (textL s).length, 0) := by
  have e : textL s = putL s.length ++ s := if_pos h
  have hc : cutL (textL s ++ t) = (s.length, (putL s.length).length, 0) := by rw [e, List.append_assoc]; exact cut_put (by omega) _
  rw [cutTextL_eq hc, if_neg (by simp), if_neg (by omega), if_neg (by rw [e]; simp), e]
  simp
theorem cutText_inv {t k : List UInt8} {n : Nat} (h : cutTextL t = (k, n, 0)) : textL k = t.take n ∧ n ≤ t.length := by
  obtain ⟨y, p, e, hc0⟩ : ∃ y p e, cutL t = (y, p, e) := ⟨_, _, _, rfl⟩
  rw [cutTextL_eq hc0] at h
  by_cases h1 : e ≠ 0
  · rw [if_pos h1] at h; cases h; exact absurd rfl h1
  · rw [if_neg h1] at h
    by_cases h2 : 255 < y
    · rw [if_pos h2] at h; cases h
    · rw [if_neg h2] at h
      by_cases h3 : t.length < p + y
      · rw [if_pos h3] at h; cases h
      · rw [if_neg h3] at h
        have he0 : e = 0 := by omega
        subst he0
        cases h
        have hlen : ((t.drop p).take y).length = y := by simp; omega
        refine ⟨?_, by omega⟩
        have e3 : textL ((t.drop p).take y) = putL ((t.drop p).take y).length ++ (t.drop p).take y := if_pos (by omega)
        rw [e3, hlen, (put_cut hc0).1, List.take_add]
theorem vfP_small {n : Nat} (h : n ≤ 2147483647) : vfP n = (n : Int) := by unfold vfP wrap64; omega
theorem cutIL_back (x : It) (hm : mayI x = true) (hI : I64 x.v.i) (t : List UInt8) : cutIL vfP (bytesI x ++ t) = (x, (bytesI x).length, 0) := by
  have hk := may_key hm
  have hv := may_ver hm
  have hmv := may_v hm
  obtain ⟨key, ⟨k, i, s⟩, ver⟩ := x
  simp only at hk hv hmv hI
  obtain ⟨n, rfl⟩ : ∃ n : Nat, ver = (n : Int) := ⟨ver.toNat, by omega⟩
  have e : bytesI ⟨key, ⟨k, i, s⟩, (n : Int)⟩ = textL key ++ (V7.encL ⟨k, i, s⟩ ++ putL n) := rfl
  have h1 : cutTextL (bytesI ⟨key, ⟨k, i, s⟩, (n : Int)⟩ ++ t) = (key, (textL key).length, 0) := by rw [e, List.append_assoc]; exact cutText_put _ (by omega)
  have h2 : V7.cutVL ((bytesI ⟨key, ⟨k, i, s⟩, (n : Int)⟩ ++ t).drop (textL key).length) = ((k, i, s), (V7.encL ⟨k, i, s⟩).length, 0) := by
    rw [e, List.append_assoc, List.drop_left, List.append_assoc]; exact V7.cutVL_back k i s _ hmv hI
  have h3 : cutL ((bytesI ⟨key, ⟨k, i, s⟩, (n : Int)⟩ ++ t).drop ((textL key).length + (V7.encL ⟨k, i, s⟩).length)) = (n, (putL n).length, 0) := by
    rw [e, ← List.drop_drop, List.append_assoc, List.drop_left, List.append_assoc, List.drop_left]; exact cut_put (by omega) _
  rw [cutIL_4 h1 h2 h3, vfP_small (by omega), e]
  simp [Nat.add_assoc]
theorem cutIL_inv {t : List UInt8} {x : It} {m : Nat} (h : cutIL vfP t = (x, m, 0)) (hm : mayI x = true) : bytesI x = t.take m ∧ m ≤ t.length := by
  obtain ⟨k, n1, e1, h1⟩ : ∃ k n e, cutTextL t = (k, n, e) := ⟨_, _, _, rfl⟩
  by_cases he1 : e1 = 0
  · subst he1
    obtain ⟨a, b, s, n2, e2, h2⟩ : ∃ a b s m e, V7.cutVL (t.drop n1) = ((a, b, s), m, e) := ⟨_, _, _, _, _, rfl⟩
    by_cases he2 : e2 = 0
    · subst he2
      obtain ⟨y, o, e3, h3⟩ : ∃ x o e, cutL (t.drop (n1 + n2)) = (x, o, e) := ⟨_, _, _, rfl⟩
      by_cases he3 : e3 = 0
      · subst he3
        rw [cutIL_4 h1 h2 h3] at h
        cases h
        have hv := may_ver hm
        have hf := cutL_facts h3
        have hy : vfP y = (y : Int) := by
          change 0 ≤ vfP y ∧ _ at hv
          unfold vfP wrap64 at hv ⊢
          omega
        obtain ⟨f1, f2⟩ := cutText_inv h1
        obtain ⟨_, _, g3, g4, _, _⟩ := (V7.cutVL_facts h2).1 rfl
        have f3 := put_cut h3
        have hl := hf.2.1
        rw [List.length_drop] at g3 hl
        refine ⟨?_, by omega⟩
        show textL k ++ (V7.encL ⟨a, b, s⟩ ++ putL (vfP y).toNat) = _
        rw [hy, Int.toNat_natCast, f1, g4, f3.1, ← List.append_assoc, ← List.take_add, ← List.take_add]
      · rw [cutIL_3 h1 h2 h3 he3] at h
        cases h; exact absurd rfl he3
    · rw [cutIL_2 h1 h2 he2] at h
      cases h; exact absurd rfl he2
  · rw [cutIL_1 h1 he1] at h
    cases h; exact absurd rfl he1
theorem cutsL_back : ∀ (its : List It) (pre : List UInt8) (acc : List It) (t : List UInt8), (∀ x ∈ its, mayI x = true) → WfI its →
    cutsL vfP its.length (pre ++ (its.flatMap bytesI ++ t)) pre.length acc = (acc ++ its, pre.length + (its.flatMap bytesI).length, 0)
  | [], pre, acc, t, _, _ => by simp [cutsL]
  | x :: r, pre, acc, t, hm, hw => by
    have hx : cutIL vfP ((pre ++ ((x :: r).flatMap bytesI ++ t)).drop pre.length) = (x, (bytesI x).length, 0) := by
      rw [List.drop_left, List.flatMap_cons, List.append_assoc]
      exact cutIL_back x (hm x (by simp)) (hw x (by simp)) _
    rw [List.length_cons, cutsL_ok hx]
    have ih := cutsL_back r (pre ++ bytesI x) (acc ++ [x]) t (fun y hy => hm y (by simp [hy])) (fun y hy => hw y (by simp [hy]))
    have e1 : pre ++ ((x :: r).flatMap bytesI ++ t) = pre ++ bytesI x ++ (r.flatMap bytesI ++ t) := by
      rw [List.flatMap_cons]; simp [List.append_assoc]
    rw [e1]
    rw [List.length_append] at ih
    rw [ih, List.flatMap_cons, List.length_append]
    simp [Nat.add_assoc]
theorem srt_of {its : List It} (h1 : ∀ x ∈ its, mayI x = true) (h2 : its.Pairwise (fun a b => ltB a.key b.key = true)) : srtL its = 0 := by
  have hm : mayK its its.length = true := by unfold mayK; rw [List.take_length, List.all_eq_true]; exact h1
  have ho : ordK its its.length = true := by
    unfold ordK
    rw [List.all_eq_true]
    intro i hi
    have hi := List.mem_range.1 hi
    rw [keyAt_of (by omega), keyAt_of (by omega)]
    exact sorted_at h2 (by omega) (by omega)
  exact (srt_0 hm ho).symm
theorem encC_cons (its : List It) : encC its = UInt8.ofNat its.length :: its.flatMap bytesI := rfl
theorem chunk_back {its : List It} (h1 : 1 ≤ its.length) (h8 : its.length ≤ 8) (hm : ∀ x ∈ its, mayI x = true) (ho : its.Pairwise (fun a b => ltB a.key b.key = true)) (hw : WfI its) : chunkL vfP (encC its) = (its, 0) := by
  rw [encC_cons, chunkL_cons, ofNat_toNat (by omega)]
  have := cutsL_back its [UInt8.ofNat its.length] [] [] hm hw
  rw [List.append_nil, List.nil_append] at this
  simp only [List.length_singleton, List.singleton_append] at this
  rw [this, endC_eq, if_neg (by simp)]
  have hf : finL its (1 + (its.flatMap bytesI).length) (UInt8.ofNat its.length :: its.flatMap bytesI).length = 0 :=
    fin_0 (srt_of hm ho).symm (by omega) (by rw [List.length_cons]; omega)
  rw [hf, if_neg (by simp)]
theorem cutsL_inv : ∀ (n : Nat) (l : List UInt8) (a : Nat) (acc its : List It) (p : Nat), cutsL vfP n l a acc = (its, p, 0) → a ≤ l.length → (∀ x ∈ its, mayI x = true) →
    ∃ new, its = acc ++ new ∧ p ≤ l.length ∧ l.take p = l.take a ++ new.flatMap bytesI
  | 0, l, a, acc, its, p, h, ha, _ => by cases h; exact ⟨[], by simp, ha, by simp⟩
  | n + 1, l, a, acc, its, p, h, ha, hm => by
    obtain ⟨x, m, e, hc⟩ : ∃ x m e, cutIL vfP (l.drop a) = (x, m, e) := ⟨_, _, _, rfl⟩
    by_cases he : e = 0
    · subst he
      rw [cutsL_ok hc] at h
      have hl := (cutIL_len hc).1
      rw [List.length_drop] at hl
      obtain ⟨new, h1, h2, h3⟩ := cutsL_inv n l _ _ _ _ h (by omega) hm
      have hx : mayI x = true := hm x (by rw [h1]; simp)
      obtain ⟨b1, b2⟩ := cutIL_inv hc hx
      refine ⟨x :: new, by rw [h1]; simp, h2, ?_⟩
      rw [h3, List.take_add, List.flatMap_cons, b1, List.append_assoc]
    · rw [cutsL_err hc he] at h
      cases h; exact absurd rfl he
theorem cutsL_wf : ∀ (n : Nat) (l : List UInt8) (a : Nat) (acc its : List It) (p : Nat), cutsL vfP n l a acc = (its, p, 0) → WfI acc → WfI its
  | 0, l, a, acc, its, p, h, hw => by cases h; exact hw
  | n + 1, l, a, acc, its, p, h, hw => by
    obtain ⟨x, m, e, hc⟩ : ∃ x m e, cutIL vfP (l.drop a) = (x, m, e) := ⟨_, _, _, rfl⟩
    by_cases he : e = 0
    · subst he
      rw [cutsL_ok hc] at h
      refine cutsL_wf n l _ _ _ _ h ?_
      intro y hy
      rcases List.mem_append.1 hy with h1 | h1
      · exact hw y h1
      · rw [List.mem_singleton] at h1; subst h1; exact (cutIL_len hc).2.2.2.2.1
    · rw [cutsL_err hc he] at h
      cases h; exact absurd rfl he
theorem chunk_inv {c : List UInt8} {its : List It} (h : chunkL vfP c = (its, 0)) : c = encC its ∧ WfI its := by
  have hh := chunkL_head h
  have hf := chunkL_facts h
  cases c with
  | nil => cases h
  | cons d r =>
    rw [chunkL_cons] at h
    have h2 : (endC (d :: r) (cutsL vfP d.toNat (d :: r) 1 [])).2 = 0 := by rw [h]
    have h1 : (endC (d :: r) (cutsL vfP d.toNat (d :: r) 1 [])).1 = its := by rw [h]
    obtain ⟨h3, h4, h5⟩ := endC_zero h2
    obtain ⟨a, p, e, hc⟩ : ∃ a b e, cutsL vfP d.toNat (d :: r) 1 [] = (a, b, e) := ⟨_, _, _, rfl⟩
    rw [hc] at h3 h4 h5 h1
    simp only at h3 h4
    subst h3
    rw [h5] at h1
    simp only at h1
    subst h1
    obtain ⟨f1, _, _, f4⟩ := fin_zero h4
    obtain ⟨new, g1, g2, g3⟩ := cutsL_inv _ _ _ _ _ _ hc (by simp) (srt_may f1)
    rw [List.nil_append] at g1
    subst g1
    refine ⟨?_, cutsL_wf _ _ _ _ _ _ hc (fun x hx => by simp at hx)⟩
    rw [List.take_of_length_le f4] at g3
    have hd : UInt8.ofNat a.length = d := by
      rw [hh.1]; simp [headB]
    rw [encC_cons, hd]
    simpa using g3
/-- The items that chunks have. -/
def itsOf (ls : List (List UInt8)) : List (List It) := ls.map fun c => (chunkL vfP c).1
theorem ofGo_all (ls : List (List UInt8)) : ∀ (r j : Nat) (acc : List It) (odd : Int), r = ls.length - j → j ≤ ls.length → OddI ls j odd →
    (ofGo vfP (ls.drop j) j acc odd).2.2.1 ≠ 0 ∨ ((∀ k, j ≤ k → k < ls.length → (chunkL vfP (ls.getD k [])).2 = 0) ∧ ∃ odd', ofGo vfP (ls.drop j) j acc odd = (acc ++ (itsOf (ls.drop j)).flatten, odd', 0, ls.length) ∧ OddI ls ls.length odd')
  | 0, j, acc, odd, hr, hj, ho => by
    obtain rfl : j = ls.length := by omega
    refine .inr ⟨fun k h1 h2 => by omega, odd, ?_, ho⟩
    rw [List.drop_length]; simp [ofGo_nil, itsOf]
  | r + 1, j, acc, odd, hr, hj, ho => by
    have hlt : j < ls.length := by omega
    obtain ⟨its, e, hc⟩ : ∃ its e, chunkL vfP (ls.getD j []) = (its, e) := ⟨_, _, rfl⟩
    rw [drop_step hlt]
    by_cases he : e = 0
    · subst he
      rw [ofGo_ok hc]
      rcases ofGo_all ls r (j + 1) (acc ++ its) _ (by omega) (by omega) (oddI_step ho (chunkL_head hc).1) with h | ⟨h1, odd', h2, h3⟩
      · exact .inl h
      · refine .inr ⟨fun k hk1 hk2 => ?_, odd', ?_, h3⟩
        · by_cases hkj : k = j
          · subst hkj; rw [hc]
          · exact h1 k (by omega) hk2
        · rw [h2]
          unfold itsOf
          rw [List.map_cons, List.flatten_cons, hc, List.append_assoc]
    · rw [ofGo_err hc he]
      exact .inl he
theorem flat_pieces : ∀ (ps : List (List It)) (k : Nat) (hk : k < ps.length), (∀ i, i + 1 < ps.length → (ps.getD i []).length = 8) → ps[k].length ≤ 8 → (ps.flatten.drop (8 * k)).take 8 = ps[k] ∧ 8 * k ≤ ps.flatten.length
  | p :: r, 0, _, h, h8 => by
    simp only [List.getElem_cons_zero] at h8
    refine ⟨?_, by omega⟩
    rw [Nat.mul_zero, List.drop_zero, List.flatten_cons, List.getElem_cons_zero]
    by_cases hr : r = []
    · subst hr
      rw [List.flatten_nil, List.append_nil, List.take_of_length_le h8]
    · have : p.length = 8 := h 0 (by cases r with | nil => exact absurd rfl hr | cons _ _ => simp)
      rw [List.take_append_of_le_length (by omega), List.take_of_length_le (by omega)]
  | p :: r, k + 1, hk, h, h8 => by
    have hp : p.length = 8 := h 0 (by simp at hk ⊢; omega)
    have ih := flat_pieces r k (by simpa using hk) (fun i hi => h (i + 1) (by simp; omega)) (by simpa using h8)
    rw [List.flatten_cons, List.getElem_cons_succ, List.length_append]
    refine ⟨?_, by omega⟩
    rw [show 8 * (k + 1) = p.length + 8 * k by omega, ← List.drop_drop, List.drop_left]
    exact ih.1
theorem flat_count : ∀ (ps : List (List It)), (∀ i, i + 1 < ps.length → (ps.getD i []).length = 8) → (∀ p ∈ ps, 1 ≤ p.length ∧ p.length ≤ 8) → (ps.flatten.length + 7) / 8 = ps.length
  | [], _, _ => by simp
  | p :: r, h, h1 => by
    have ih := flat_count r (fun i hi => h (i + 1) (by simp; omega)) (fun q hq => h1 q (by simp [hq]))
    have hp := h1 p (by simp)
    rw [List.flatten_cons, List.length_append, List.length_cons]
    by_cases hr : r = []
    · subst hr; simp at ih ⊢; omega
    · have : p.length = 8 := h 0 (by cases r with | nil => exact absurd rfl hr | cons _ _ => simp)
      omega
/-- Whatever chunks tell a leaf are its chunks. -/
theorem of_inv {ls : List (List UInt8)} {y : List It} {at_ : Int} (h : ofL vfP ls = (y, 0, at_)) : isL y = true ∧ WfI y ∧ chunksL y = ls := by
  rcases ofGo_all ls ls.length 0 [] (-1) (by omega) (by omega) (.inl ⟨rfl, fun i hi => by omega⟩) with hb | ⟨h1, odd, h2, h3⟩
  · rw [List.drop_zero] at hb
    obtain ⟨a, b, e, i, hg⟩ : ∃ a b c d, ofGo vfP ls 0 [] (-1) = (a, b, c, d) := ⟨_, _, _, _, rfl⟩
    rw [hg] at hb
    unfold ofL at h
    rw [hg] at h
    unfold ofE at h
    simp only at h hb
    rw [if_pos hb] at h
    cases h; exact absurd rfl hb
  · rw [List.drop_zero, List.nil_append] at h2
    unfold ofL at h
    rw [h2] at h
    unfold ofE at h
    simp only [ne_eq, not_true_eq_false, if_false] at h
    by_cases hbad : 0 ≤ odd ∧ odd + 1 < (ls.length : Int)
    · rw [if_pos hbad] at h; cases h
    · rw [if_neg hbad] at h
      by_cases hc : (chkL (itsOf ls).flatten).1 = 0
      · rw [if_neg (by simp [hc])] at h
        have hy : (itsOf ls).flatten = y := by cases h; rfl
        have hl : (itsOf ls).length = ls.length := by unfold itsOf; simp
        have each : ∀ k (hk : k < ls.length), chunkL vfP ls[k] = ((itsOf ls)[k]'(by rw [hl]; exact hk), 0) := by
          intro k hk
          have e0 := h1 k (Nat.zero_le _) hk
          have : ls.getD k [] = ls[k] := by simp [List.getD, hk]
          rw [this] at e0
          unfold itsOf
          rw [List.getElem_map]
          exact Prod.ext rfl e0
        have hget : ∀ k (hk : k < ls.length), (itsOf ls).getD k [] = (itsOf ls)[k]'(by rw [hl]; exact hk) := fun k hk => by simp [List.getD, hl, hk]
        have full : ∀ i, i + 1 < (itsOf ls).length → ((itsOf ls).getD i []).length = 8 := by
          intro i hi
          rw [hl] at hi
          rw [hget i (by omega), (chunkL_head (each i (by omega))).1]
          have e0 : ls.getD i [] = ls[i] := by simp [List.getD, (by omega : i < ls.length)]
          rw [← e0]
          rcases h3 with ⟨_, hh⟩ | ⟨k, hk1, hk2, hk3, hk4⟩
          · exact hh i (by omega)
          · exact hk4 i (by omega)
        have size : ∀ p ∈ itsOf ls, 1 ≤ p.length ∧ p.length ≤ 8 := by
          intro p hp
          obtain ⟨k, hk, rfl⟩ := List.mem_iff_getElem.1 hp
          have := chunkL_facts (each k (by rw [← hl]; exact hk))
          exact ⟨this.1, this.2.1⟩
        rw [← hy]
        refine ⟨by unfold isL; rw [hc]; rfl, ?_, ?_⟩
        · intro x hx
          obtain ⟨p, hp, hxp⟩ := List.mem_flatten.1 hx
          obtain ⟨k, hk, rfl⟩ := List.mem_iff_getElem.1 hp
          exact (chunk_inv (each k (by rw [← hl]; exact hk))).2 x hxp
        · unfold chunksL starts
          rw [flat_count _ full size, hl, List.map_map]
          apply List.ext_getElem
          · simp
          · intro k hk1 hk2
            simp only [List.getElem_map, List.getElem_range, Function.comp]
            have hk3 : k < (itsOf ls).length := by rw [hl]; exact hk2
            have := (flat_pieces (itsOf ls) k hk3 full (size _ (List.getElem_mem hk3)).2).1
            unfold chunkAt
            rw [this]
            exact (chunk_inv (each k hk2)).1.symm
      · rw [if_pos hc] at h
        have h0 : (chkL (itsOf ls).flatten).1 = 0 := congrArg (fun t => t.2.1) h
        exact absurd h0 hc
theorem chunks_flat (l : List It) : ∀ q, ((List.range q).map fun k => chunkAt l (8 * k)).flatten = l.take (8 * q)
  | 0 => by simp
  | q + 1 => by
    rw [List.range_succ, List.map_append, List.flatten_append, chunks_flat l q]
    unfold chunkAt
    simp only [List.map_cons, List.map_nil, List.flatten_cons, List.flatten_nil, List.append_nil]
    rw [← List.take_add, show 8 * q + 8 = 8 * (q + 1) by omega]
/-- A leaf is told by its chunks. -/
theorem of_back {l : List It} (hl : isL l = true) (hw : WfI l) : ofL vfP (chunksL l) = (l, 0, 0) := by
  have hcount : (chunksL l).length = (l.length + 7) / 8 := by unfold chunksL starts; simp
  have hget : ∀ k, k < (l.length + 7) / 8 → (chunksL l).getD k [] = encC (chunkAt l (8 * k)) := by
    intro k hk
    unfold chunksL starts
    simp [List.getD, hk]
  have hsz : ∀ k, k < (l.length + 7) / 8 → 1 ≤ (chunkAt l (8 * k)).length ∧ (chunkAt l (8 * k)).length ≤ 8 ∧ (k + 1 < (l.length + 7) / 8 → (chunkAt l (8 * k)).length = 8) := by
    intro k hk
    unfold chunkAt
    simp
    omega
  have each : ∀ k, k < (l.length + 7) / 8 → chunkL vfP (encC (chunkAt l (8 * k))) = (chunkAt l (8 * k), 0) := by
    intro k hk
    obtain ⟨h1, h2, _⟩ := hsz k hk
    have sub : ∀ x ∈ chunkAt l (8 * k), x ∈ l := fun x hx => List.mem_of_mem_drop (List.mem_of_mem_take hx)
    have so : (chunkAt l (8 * k)).Pairwise (fun a b => ltB a.key b.key = true) := (isL_sorted hl).sublist ((List.take_sublist _ _).trans (List.drop_sublist _ _))
    exact chunk_back h1 h2 (fun x hx => isL_may hl x (sub x hx)) so (fun x hx => hw x (sub x hx))
  have hits : (itsOf (chunksL l)).flatten = l := by
    have : itsOf (chunksL l) = (List.range ((l.length + 7) / 8)).map fun k => chunkAt l (8 * k) := by
      unfold itsOf chunksL starts
      rw [List.map_map, List.map_map]
      apply List.map_congr_left
      intro k hk
      simp only [Function.comp]
      rw [each k (List.mem_range.1 hk)]
    rw [this, chunks_flat, List.take_of_length_le (by omega)]
  rcases ofGo_all (chunksL l) (chunksL l).length 0 [] (-1) (by omega) (by omega) (.inl ⟨rfl, fun i hi => by omega⟩) with hb | ⟨_, odd, h2, h3⟩
  · exfalso
    -- no chunk is refused
    have key : ∀ (r j : Nat) (acc : List It) (odd : Int), r = (chunksL l).length - j → j ≤ (chunksL l).length → (ofGo vfP ((chunksL l).drop j) j acc odd).2.2.1 = 0 := by
      intro r
      induction r with
      | zero =>
        intro j acc odd hr hj
        obtain rfl : j = (chunksL l).length := by omega
        rw [List.drop_length, ofGo_nil]
      | succ r ih =>
        intro j acc odd hr hj
        have hlt : j < (chunksL l).length := by omega
        have hc := each j (by rw [← hcount]; exact hlt)
        rw [← hget j (by rw [← hcount]; exact hlt)] at hc
        rw [drop_step hlt, ofGo_ok hc]
        exact ih _ _ _ (by omega) (by omega)
    exact hb (key _ 0 [] (-1) rfl (by omega))
  · rw [List.drop_zero, List.nil_append, hits] at h2
    unfold ofL
    rw [h2]
    unfold ofE
    simp only [ne_eq, not_true_eq_false, if_false]
    have hno : ¬ (0 ≤ odd ∧ odd + 1 < ((chunksL l).length : Int)) := by
      refine oddI_end h3 ?_
      intro k hk
      rw [hcount] at hk
      have hc := each k (by omega)
      rw [← hget k (by omega)] at hc
      rw [← (chunkL_head hc).1]
      exact (hsz k (by omega)).2.2 hk
    rw [if_neg hno]
    have hc : (chkL l).1 = 0 := by unfold isL at hl; exact eq_of_beq hl
    rw [if_neg (by simp [hc])]
end Go.Proofs.YtcehgfganjdghaaDoor
