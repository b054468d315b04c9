/- Leaves: the document's Same, longer lists. -/
/- Span: what Names comes to is the document's: mathematics. -/
import Derived.Test.YtmjedjhkhjiigaaDoorQSSC10
import Derived.Test.YtmjedjhkhjiigaaDoorQSSC41
namespace Go.Proofs.YtmjedjhkhjiigaaDoor
open Go Go.RowKit
set_option linter.unusedVariables false
set_option linter.unusedSimpArgs false
set_option maxRecDepth 100000 in
theorem refSame11_yes (v u : Value) (l : List It) (w : World) (h : RdI w v l) (hu : RdI w u l) (h66 : l.length ≤ 3000) :
    Calls Tryd.prog 41 #[v, u] w fun e w' => e = .returned (.bool true) ∧ ∃ n, w' = w.drewN n := by
  obtain ⟨ao, cap, rfl, hc, hm, hr⟩ := RdK.open h
  obtain ⟨ao2, cap2, rfl, hc2, hm2, hr2⟩ := RdK.open hu
  have hr : RdI w (.slice ao l.length cap) l := hr
  have hr2 : RdI w (.slice ao2 l.length cap2) l := hr2
  have HRD := Lib.hid hr
  have HRD2 := Lib.hid hr2
  clear h hr hu hr2
  go_enter Tryd.func41, Tryd.ntmps41
  go_wp2_with fail
  go_loopw [5] (fun i wr => ∃ (j n0 : Nat), j ≤ l.length ∧ i = .int .i64 (j : Int) ∧ Hid (wr = w.drewN n0)) (fun i _ => 4000 - (intOf i).toNat)
  case atStart => exact ⟨0, 0, Nat.zero_le _, rfl, (rfl : w = w.drewN 0)⟩
  case round =>
    obtain ⟨j, n0, hj, rfl, HW⟩ := hrel
    by_cases hlt : j < l.length
    · have bel : Below w.heap.size w wr := by rw [HW.out]; exact below_drewN (Below.refl _ _)
      have hr := HRD.out
      have R1 := hr.below bel (Nat.le_refl _)
      obtain ⟨b, off, rfl, hb, c0, c1, c2, c3, c4⟩ := rdi_cells R1 j hlt
      have hr2 := HRD2.out
      have R2 := hr2.below bel (Nat.le_refl _)
      obtain ⟨b2, off2, rfl, hb2, d0, d1, d2, d3, d4⟩ := rdi_cells R2 j hlt
      obtain ⟨x, hx⟩ : ∃ x, x = l[j]'hlt := ⟨_, rfl⟩
      rw [← hx] at c0 c1 c2 c3 c4 d0 d1 d2 d3 d4
      have NE := fun W => it_ne_same x W
      unfold itV at NE
      clear hx hr hr2 R1 R2
      go_wp2_with fail
      go_quiet (fail)
      have bel2 : Hid (wr.drewN nq = w.drewN (n0 + nq)) := by have h := HW.out; exact Lib.hid (by rw [h, World.drewN_drewN])
      go_wp2_with fail
      exact ⟨⟨j + 1, n0 + nq, by omega, by push_cast; rfl, bel2⟩, by simp [intOf]; omega⟩
    · obtain rfl : j = l.length := by omega
      go_wp2_with fail
      go_ret
      exact ⟨rfl, _, HW.out⟩
end Go.Proofs.YtmjedjhkhjiigaaDoor
namespace Go.Proofs.YtmjedjhkhjiigaaDoor
open Go
set_option linter.unusedVariables false
set_option linter.unusedSimpArgs false
open Lib in
theorem lt_ltB : ∀ a b : List UInt8, a < b ↔ ltB a b = true
  | [], [] => by simp [ltB, compareBytes]
  | [], y :: b => by simp [ltB, compareBytes]
  | x :: a, [] => by simp [ltB, compareBytes]
  | x :: a, y :: b => by
    have ih := lt_ltB a b
    rw [List.cons_lt_cons_iff]
    unfold ltB compareBytes
    unfold ltB at ih
    by_cases h1 : x < y
    · simp [h1]
    · by_cases h2 : y < x
      · rw [if_neg h1, if_pos h2]
        have : x ≠ y := by rintro rfl; exact UInt8.lt_irrefl _ h2
        simp [h1, this]
      · have e : x = y := UInt8.le_antisymm (UInt8.not_lt.1 h2) (UInt8.not_lt.1 h1)
        subst e
        rw [if_neg h1, if_neg h2]
        simp [h1, ih]
theorem le_ltB (a b : List UInt8) : a ≤ b ↔ ltB b a = false := by
  rw [← List.not_lt, lt_ltB]; simp
theorem le_total' (a b : List UInt8) : a ≤ b ∨ b ≤ a := List.le_total a b
theorem ltB_trans' {a b c : List UInt8} (h1 : ltB a b = true) (h2 : ltB b c = true) : ltB a c = true := (lt_ltB a c).1 (List.lt_trans ((lt_ltB a b).2 h1) ((lt_ltB b c).2 h2))
def SrtN (l : List (List UInt8)) : Prop := l.Pairwise (fun a b => ltB a b = true)
theorem srtN_ext : ∀ {l m : List (List UInt8)}, SrtN l → SrtN m → (∀ x, x ∈ l ↔ x ∈ m) → l = m
  | [], [], _, _, _ => rfl
  | [], y :: m, _, _, h => by have := (h y).2 (by simp); simp at this
  | x :: l, [], _, _, h => by have := (h x).1 (by simp); simp at this
  | x :: l, y :: m, hl, hm, h => by
    obtain ⟨l1, l2⟩ := List.pairwise_cons.1 hl
    obtain ⟨m1, m2⟩ := List.pairwise_cons.1 hm
    have hxy : x = y := by
      rcases List.mem_cons.1 ((h x).1 (by simp)) with e | e
      · exact e
      · rcases List.mem_cons.1 ((h y).2 (by simp)) with e2 | e2
        · exact e2.symm
        · have a := m1 x e; have b := l1 y e2
          have := ltB_trans' a b
          rw [ltB_self] at this; cases this
    subst hxy
    rw [srtN_ext l2 m2]
    intro z
    constructor
    · intro hz
      rcases List.mem_cons.1 ((h z).1 (by simp [hz])) with e | e
      · subst e; have := l1 z hz; rw [ltB_self] at this; cases this
      · exact e
    · intro hz
      rcases List.mem_cons.1 ((h z).2 (by simp [hz])) with e | e
      · subst e; have := m1 z hz; rw [ltB_self] at this; cases this
      · exact e
/-- What the document's lay comes to. -/
def layS (l : List (List UInt8)) (s : List UInt8) : List (List UInt8) := l.filter (fun x => ltB x s) ++ [s] ++ l.filter (fun x => ltB s x)
theorem layS_mem {l : List (List UInt8)} {s x : List UInt8} : x ∈ layS l s ↔ x ∈ l ∨ x = s := by
  unfold layS
  simp only [List.mem_append, List.mem_filter, List.mem_singleton]
  constructor
  · rintro ((⟨h, _⟩ | h) | ⟨h, _⟩)
    · exact .inl h
    · exact .inr h
    · exact .inl h
  · rintro (h | h)
    · cases h1 : ltB x s with
      | true => exact .inl (.inl ⟨h, rfl⟩)
      | false =>
        cases h2 : ltB s x with
        | true => exact .inr ⟨h, rfl⟩
        | false => exact .inl (.inr (ltB_tri h1 h2))
    · exact .inl (.inr h)
theorem layS_srt {l : List (List UInt8)} {s : List UInt8} (h : SrtN l) : SrtN (layS l s) := by
  unfold layS SrtN
  rw [List.append_assoc, List.pairwise_append]
  refine ⟨h.filter _, ?_, ?_⟩
  · rw [List.singleton_append, List.pairwise_cons]
    exact ⟨fun x hx => (List.mem_filter.1 hx).2, h.filter _⟩
  · intro a ha b hb
    have h1 := (List.mem_filter.1 ha).2
    rw [List.singleton_append] at hb
    rcases List.mem_cons.1 hb with e | e
    · rw [e]; exact h1
    · exact ltB_trans' h1 (List.mem_filter.1 e).2
theorem foldN_srt : ∀ (ss l : List (List UInt8)), SrtN l → SrtN (ss.foldl layS l)
  | [], _, h => h
  | s :: ss, l, h => foldN_srt ss _ (layS_srt h)
theorem foldN_mem : ∀ (ss l : List (List UInt8)) (x : List UInt8), x ∈ ss.foldl layS l ↔ x ∈ l ∨ x ∈ ss
  | [], l, x => by simp
  | s :: ss, l, x => by
    rw [List.foldl_cons, foldN_mem ss, layS_mem, List.mem_cons]
    constructor
    · rintro ((h | h) | h)
      · exact .inl h
      · exact .inr (.inl h)
      · exact .inr (.inr h)
    · rintro (h | h | h)
      · exact .inl (.inl h)
      · exact .inl (.inr h)
      · exact .inr h
open Lib in
theorem compact_upto (d : Array (List UInt8)) (hs : ∀ i j, i < j → j < d.size → d[i]! ≤ d[j]!) : ∀ m, m ≤ d.size → SrtN (compactUpTo d m) ∧ (∀ x, x ∈ compactUpTo d m ↔ ∃ j, j < m ∧ d[j]! = x) ∧ (∀ x ∈ compactUpTo d m, ∀ k, m - 1 ≤ k → k < d.size → x ≤ d[k]!)
  | 0, _ => ⟨by simp [compactUpTo, SrtN], by simp [compactUpTo], by simp [compactUpTo]⟩
  | m + 1, hm => by
    obtain ⟨h1, h2, h3⟩ := compact_upto d hs m (by omega)
    rw [compactUpTo_succ]
    have up : ∀ x, (∃ j, j < m + 1 ∧ d[j]! = x) ↔ ((∃ j, j < m ∧ d[j]! = x) ∨ d[m]! = x) := fun x => by
      constructor
      · rintro ⟨j, hj, e⟩
        by_cases hjm : j = m
        · subst hjm; exact .inr e
        · exact .inl ⟨j, by omega, e⟩
      · rintro (⟨j, hj, e⟩ | e)
        · exact ⟨j, by omega, e⟩
        · exact ⟨m, by omega, e⟩
    have le3 : ∀ x, (∃ j, j < m + 1 ∧ d[j]! = x) → ∀ k, m ≤ k → k < d.size → x ≤ d[k]! := fun x ⟨j, hj, e⟩ k hk hkd => by
      rw [← e]
      by_cases hjk : j = k
      · subst hjk; exact List.le_refl _
      · exact hs j k (by omega) hkd
    cases hk : keeps d m with
    | true =>
      simp only [if_true]
      refine ⟨?_, ?_, ?_⟩
      · unfold SrtN
        rw [List.pairwise_append]
        refine ⟨h1, by simp, fun a ha b hb => ?_⟩
        rw [List.mem_singleton] at hb
        subst hb
        have hle := h3 a ha m (by omega) (by omega)
        cases hlt : ltB a d[m]! with
        | true => rfl
        | false =>
          exfalso
          have e : a = d[m]! := ltB_tri hlt ((le_ltB _ _).1 hle)
          obtain ⟨j, hj, ej⟩ := (h2 a).1 ha
          unfold keeps at hk
          have hk' := of_decide_eq_true hk
          rcases hk' with h0 | h0
          · omega
          · apply h0
            have l1 := h3 a ha (m - 1) (Nat.le_refl _) (by omega)
            have l2 := hs (m - 1) m (by omega) (by omega)
            rw [← e] at l2 ⊢
            exact ltB_tri ((le_ltB _ _).1 l2) ((le_ltB _ _).1 l1)
      · intro x
        rw [up, List.mem_append, h2, List.mem_singleton]
        constructor
        · rintro (h | h)
          · exact .inl h
          · exact .inr h.symm
        · rintro (h | h)
          · exact .inl h
          · exact .inr h.symm
      · intro x hx k hk1 hk2
        refine le3 x ?_ k (by omega) hk2
        rw [up]
        rcases List.mem_append.1 hx with h | h
        · exact .inl ((h2 x).1 h)
        · exact .inr (List.mem_singleton.1 h).symm
    | false =>
      simp only [Bool.false_eq_true, if_false, List.append_nil]
      refine ⟨h1, ?_, ?_⟩
      · intro x
        rw [up, h2]
        constructor
        · exact .inl
        · rintro (h | h)
          · exact h
          · unfold keeps at hk
            have hk' := of_decide_eq_false hk
            have e1 : m ≠ 0 := fun e => hk' (.inl e)
            have e2 : d[m]! = d[m - 1]! := Classical.byContradiction fun e => hk' (.inr e)
            exact ⟨m - 1, by omega, by rw [← e2]; exact h⟩
      · intro x hx k hk1 hk2
        exact le3 x (by obtain ⟨j, hj, e⟩ := (h2 x).1 hx; exact ⟨j, by omega, e⟩) k (by omega) hk2
open Lib in
theorem compact_sort (ss : List (List UInt8)) : Lib.compact (ss.mergeSort fun x y => decide (x ≤ y)) = ss.foldl layS [] := by
  have hp : (ss.mergeSort fun x y => decide (x ≤ y)).Pairwise (fun x y => decide (x ≤ y) = true) := by
    apply List.pairwise_mergeSort
    · intro a b c h1 h2
      exact decide_eq_true (List.le_trans (of_decide_eq_true h1) (of_decide_eq_true h2))
    · intro a b
      rcases List.le_total a b with h | h
      · simp [h]
      · simp [h]
  obtain ⟨M, hM⟩ : ∃ M, M = ss.mergeSort fun x y => decide (x ≤ y) := ⟨_, rfl⟩
  rw [← hM] at hp ⊢
  have hg : ∀ i, i < M.length → M.toArray[i]! = M[i]! := fun i hi => by simp
  have hs : ∀ i j, i < j → j < M.toArray.size → M.toArray[i]! ≤ M.toArray[j]! := fun i j hij hj => by
    have hj' : j < M.length := by simpa using hj
    have := of_decide_eq_true ((List.pairwise_iff_getElem.1 hp) i j (by omega) hj' hij)
    simpa [hij, hj', show i < M.length by omega] using this
  obtain ⟨h1, h2, -⟩ := compact_upto M.toArray hs M.length (by simp)
  refine srtN_ext h1 (foldN_srt ss [] List.Pairwise.nil) fun x => ?_
  show x ∈ compactUpTo M.toArray M.length ↔ _
  rw [h2, foldN_mem]
  have hm : x ∈ M ↔ x ∈ ss := by rw [hM]; exact List.mem_mergeSort
  constructor
  · rintro ⟨j, hj, e⟩
    refine .inr (hm.1 ?_)
    rw [← e]
    simp only [List.getElem!_toArray]
    rw [getElem!_pos M j hj]
    exact List.getElem_mem _
  · rintro (h | h)
    · cases h
    · obtain ⟨j, hj, e⟩ := List.mem_iff_getElem.1 (hm.2 h)
      refine ⟨j, hj, ?_⟩
      simp only [List.getElem!_toArray]
      rw [getElem!_pos M j hj, e]
end Go.Proofs.YtmjedjhkhjiigaaDoor
