/- Leaves: the document's bytes of an item. Written by wip/tools/gen9z5.py. -/
/- Leaves: the document's chunks of a leaf. Written by wip/tools/gen9z6.py. -/
/- Leaves: what chunks are read as, by the document. Written by wip/tools/gen9z7.py. -/
/- Leaves: the program's and the document's reading of chunks are one. -/
/- Leaves: the document's With. Written by wip/tools/gen9w.py. -/
import Derived.Test.YtoagdmglchccnaaGreatDoorQRR28
import Derived.Test.YtoagdmglchccnaaGreatDoorQRR19
import Derived.Test.YtoagdmglchccnaaGreatDoorQRR25
import Derived.Test.YtoagdmglchccnaaGreatDoorQRR2
import Derived.Test.YtoagdmglchccnaaGreatDoorQRR29
import Derived.Test.YtoagdmglchccnaaGreatDoorQRR22
namespace Go.Proofs.YtoagdmglchccnaaGreatDoor
open Go Go.RowKit
set_option linter.unusedVariables false
set_option linter.unusedSimpArgs false
end Go.Proofs.YtoagdmglchccnaaGreatDoor
namespace Go.Proofs.YtoagdmglchccnaaGreatDoor
open Go Go.RowKit
set_option linter.unusedVariables false
set_option linter.unusedSimpArgs false
def sC (s : List UInt8) : List Value := [.string (str s)]
theorem sC_len (s : List UInt8) : (sC s).length = 1 := rfl
/-- A chunk of which the first r items are there. -/
def partC (l : List It) (q r : Nat) : List UInt8 := UInt8.ofNat (min 8 (l.length - 8 * q)) :: ((l.drop (8 * q)).take r).flatMap bytesI
def preC (l : List It) (q : Nat) : List (List UInt8) := (List.range q).map fun k => partC l k 8
def lsOf (l : List It) (i : Nat) : List (List UInt8) := preC l (i / 8) ++ if i % 8 = 0 then [] else [partC l (i / 8) (i % 8)]
theorem part_full (l : List It) (q r : Nat) (h : min 8 (l.length - 8 * q) ≤ r) (h8 : r ≤ 8) : partC l q r = encC (chunkAt l (8 * q)) := by
  unfold partC encC chunkAt
  have e : (l.drop (8 * q)).take r = (l.drop (8 * q)).take 8 := by
    by_cases h9 : r = 8
    · rw [h9]
    · rw [List.take_of_length_le (by rw [List.length_drop]; omega), List.take_of_length_le (by rw [List.length_drop]; omega)]
  rw [e, List.length_take, List.length_drop]
theorem bytesI_len {x : It} (h : mayI x = true) : (bytesI x).length ≤ 130 := by
  have h1 := may_key h
  have h2 := encL_max x.v
  have h3 := (putL_len x.ver.toNat).2
  have h4 := (putL_len x.key.length).2
  unfold bytesI textL
  rw [if_pos (by omega)]
  simp only [List.length_append]
  omega
theorem flat_bytes {l : List It} (h : ∀ x ∈ l, mayI x = true) : (l.flatMap bytesI).length ≤ l.length * 130 := by
  induction l with
  | nil => simp
  | cons x r ih =>
    rw [List.flatMap_cons, List.length_append, List.length_cons]
    have h1 := bytesI_len (h x (by simp))
    have h2 := ih (fun y hy => h y (by simp [hy]))
    omega
theorem partC_len {l : List It} (h : ∀ x ∈ l, mayI x = true) (q r : Nat) (hr : r ≤ 8) : (partC l q r).length ≤ 1100 := by
  unfold partC
  rw [List.length_cons]
  have := flat_bytes (l := (l.drop (8 * q)).take r) (fun x hx => h x (List.mem_of_mem_drop (List.mem_of_mem_take hx)))
  have h2 : ((l.drop (8 * q)).take r).length ≤ r := List.length_take_le _ _
  omega
def OwnSt9 (w : World) (ls : List (List UInt8)) (e : Ending) (w' : World) : Prop := ∃ v', e = .returned v' ∧ w'.ownsRow w.heap.size 9 1 v' ls.length (ls.flatMap sC) ∧ Below w.heap.size w w'
end Go.Proofs.YtoagdmglchccnaaGreatDoor
namespace Go.Proofs.YtoagdmglchccnaaGreatDoor
open Go Go.RowKit
set_option linter.unusedVariables false
set_option linter.unusedSimpArgs false
def headB (c : List UInt8) : Nat := (c.getD 0 0).toNat
theorem cutsL_len {vf : Nat → Int} : ∀ (n : Nat) (l : List UInt8) (a : Nat) (acc its : List It) (p : Nat), cutsL vf n l a acc = (its, p, 0) → its.length = acc.length + n
  | 0, _, _, _, _, _, h => by cases h; rfl
  | n + 1, l, a, acc, its, p, h => by
    obtain ⟨x, m, e, hc⟩ : ∃ x m e, cutIL vf (l.drop a) = (x, m, e) := ⟨_, _, _, rfl⟩
    by_cases he : e = 0
    · subst he
      rw [cutsL_ok hc] at h
      have := cutsL_len n l _ _ _ _ h
      rw [List.length_append] at this
      simp at this
      omega
    · rw [cutsL_err hc he] at h
      cases h
      exact absurd rfl he
theorem chunkL_head {vf : Nat → Int} {c : List UInt8} {its : List It} (h : chunkL vf c = (its, 0)) : its.length = headB c ∧ 0 < c.length := by
  cases c with
  | nil => cases h
  | cons d r =>
    have h2 : (endC (d :: r) (cutsL vf d.toNat (d :: r) 1 [])).2 = 0 := by have := congrArg Prod.snd h; exact this
    have h1 : (endC (d :: r) (cutsL vf d.toNat (d :: r) 1 [])).1 = its := by have := congrArg Prod.fst h; exact this
    obtain ⟨h3, h4, h5⟩ := endC_zero h2
    obtain ⟨a, b, e, hc⟩ : ∃ a b e, cutsL vf d.toNat (d :: r) 1 [] = (a, b, e) := ⟨_, _, _, rfl⟩
    rw [hc] at h3 h5 h1
    simp only at h3
    subst h3
    have := cutsL_len _ _ _ _ _ _ hc
    rw [h5] at h1
    simp only at h1
    subst h1
    exact ⟨by rw [this]; simp [headB], by simp⟩
/-- Which chunk is the first that is not full, of the first j. -/
def OddI (ls : List (List UInt8)) (j : Nat) (odd : Int) : Prop :=
  (odd = -1 ∧ ∀ i, i < j → headB (ls.getD i []) = 8) ∨ (∃ k : Nat, odd = (k : Int) ∧ k < j ∧ headB (ls.getD k []) ≠ 8 ∧ ∀ i, i < k → headB (ls.getD i []) = 8)
theorem oddI_step {ls : List (List UInt8)} {j : Nat} {odd : Int} {n : Nat} (h : OddI ls j odd) (hn : n = headB (ls.getD j [])) : OddI ls (j + 1) (if odd < 0 ∧ n ≠ 8 then (j : Int) else odd) := by
  rcases h with ⟨rfl, h⟩ | ⟨k, rfl, h1, h2, h3⟩
  · by_cases h8 : n = 8
    · rw [if_neg (by omega)]
      refine .inl ⟨rfl, fun i hi => ?_⟩
      by_cases hij : i = j
      · subst hij; omega
      · exact h i (by omega)
    · rw [if_pos ⟨by omega, h8⟩]
      exact .inr ⟨j, rfl, by omega, by omega, h⟩
  · rw [if_neg (by omega)]
    exact .inr ⟨k, rfl, by omega, h2, h3⟩
theorem oddI_at {ls : List (List UInt8)} {n i : Nat} {odd : Int} (h : OddI ls n odd) (hi : i < n) (h1 : ∀ k, k < i → headB (ls.getD k []) = 8) (h2 : headB (ls.getD i []) ≠ 8) : odd = (i : Int) := by
  rcases h with ⟨rfl, h⟩ | ⟨k, rfl, h3, h4, h5⟩
  · exact absurd (h i hi) h2
  · rcases Nat.lt_trichotomy k i with hk | hk | hk
    · exact absurd (h1 k hk) h4
    · rw [hk]
    · exact absurd (h5 i hk) h2
theorem oddI_end {ls : List (List UInt8)} {n : Nat} {odd : Int} (h : OddI ls n odd) (h1 : ∀ k, k + 1 < n → headB (ls.getD k []) = 8) : ¬ (0 ≤ odd ∧ odd + 1 < (n : Int)) := by
  rcases h with ⟨rfl, h⟩ | ⟨k, rfl, h3, h4, h5⟩
  · omega
  · intro hh
    exact h4 (h1 k (by omega))
theorem rdk_sC {w : World} {ao : Option Addr} {n cap : Nat} {l : List (List UInt8)} (h : RdK 1 sC w (.slice ao n cap) l) (j : Nat) (hj : j < l.length) : ∃ b off, ao = some ⟨b, off, none⟩ ∧ b < w.heap.size ∧ w.cell? ⟨b, off + j, none⟩ = some (.string (str (l.getD j []))) := by
  obtain ⟨b, off, h1, h2, h3⟩ := RdK.cell sC_len h j hj
  refine ⟨b, off, h1, h2, ?_⟩
  have := h3 0 (by omega)
  rw [Nat.mul_one, Nat.add_zero] at this
  rw [this]
  simp [sC, List.getD, hj]
end Go.Proofs.YtoagdmglchccnaaGreatDoor
namespace Go.Proofs.YtoagdmglchccnaaGreatDoor
open Go Go.RowKit
set_option linter.unusedVariables false
set_option linter.unusedSimpArgs false
def nvI (n : Int) : Int := if 0 ≤ n ∧ n ≤ 2147483647 then n else -1
def nv (x : It) : It := ⟨x.key, x.v, nvI x.ver⟩
theorem nvI_of {n : Int} (h : 0 ≤ n ∧ n ≤ 2147483647) : nvI n = n := if_pos h
theorem vf_nv {x : Nat} (h : x < 18446744073709551616) : vfR x = nvI (vfP x) := by
  unfold vfR vfP nvI wrap64
  split
  · rw [if_pos (by omega)]; omega
  · rw [if_neg (by omega)]
theorem cutIL_nv {l : List UInt8} {x : It} {n e : Nat} (h : cutIL vfP l = (x, n, e)) : cutIL vfR l = (nv x, n, e) := by
  obtain ⟨k, n1, e1, h1⟩ : ∃ k n e, cutTextL l = (k, n, e) := ⟨_, _, _, rfl⟩
  by_cases he1 : e1 = 0
  · subst he1
    obtain ⟨a, b, s, m, e2, h2⟩ : ∃ a b s m e, V7.cutVL (l.drop n1) = ((a, b, s), m, e) := ⟨_, _, _, _, _, rfl⟩
    by_cases he2 : e2 = 0
    · subst he2
      obtain ⟨y, o, e3, h3⟩ : ∃ x o e, cutL (l.drop (n1 + m)) = (x, o, e) := ⟨_, _, _, rfl⟩
      by_cases he3 : e3 = 0
      · subst he3
        rw [cutIL_4 h1 h2 h3] at h
        rw [cutIL_4 h1 h2 h3, vf_nv (cutL_facts h3).1]
        cases h; rfl
      · rw [cutIL_3 h1 h2 h3 he3] at h
        rw [cutIL_3 h1 h2 h3 he3]
        cases h; rfl
    · rw [cutIL_2 h1 h2 he2] at h
      rw [cutIL_2 h1 h2 he2]
      cases h; rfl
  · rw [cutIL_1 h1 he1] at h
    rw [cutIL_1 h1 he1]
    cases h; rfl
theorem cutsL_nv : ∀ (n : Nat) (l : List UInt8) (a : Nat) (acc its : List It) (p e : Nat), cutsL vfP n l a acc = (its, p, e) → cutsL vfR n l a (acc.map nv) = (its.map nv, p, e)
  | 0, _, _, _, _, _, _, h => by cases h; rfl
  | n + 1, l, a, acc, its, p, e, h => by
    obtain ⟨x, m, e', hc⟩ : ∃ x m e, cutIL vfP (l.drop a) = (x, m, e) := ⟨_, _, _, rfl⟩
    have hc2 := cutIL_nv hc
    by_cases he : e' = 0
    · subst he
      rw [cutsL_ok hc] at h
      rw [cutsL_ok hc2]
      have := cutsL_nv n l _ _ _ _ _ h
      rwa [List.map_append] at this
    · rw [cutsL_err hc he] at h
      rw [cutsL_err hc2 he]
      cases h; rfl
theorem mayI_nv (x : It) : mayI (nv x) = mayI x := by
  unfold mayI nv nvI
  simp only
  by_cases h : 0 ≤ x.ver ∧ x.ver ≤ 2147483647
  · rw [if_pos h]
  · rw [if_neg h]
    have : (decide (0 ≤ x.ver) && decide (x.ver ≤ 2147483647)) = false := by
      by_cases h1 : 0 ≤ x.ver
      · have h2 : ¬ x.ver ≤ 2147483647 := fun h2 => h ⟨h1, h2⟩
        simp [h2]
      · simp [h1]
    rw [this]
    simp
theorem keyAt_nv (l : List It) (i : Nat) : keyAt (l.map nv) i = keyAt l i := by
  unfold keyAt
  rw [List.getElem?_map]
  cases l[i]? <;> rfl
theorem ordK_nv (l : List It) (k : Nat) : ordK (l.map nv) k = ordK l k := by
  unfold ordK
  simp only [keyAt_nv]
theorem mayK_nv (l : List It) (k : Nat) : mayK (l.map nv) k = mayK l k := by
  unfold mayK
  rw [← List.map_take, List.all_map]
  congr 1
  funext x
  exact mayI_nv x
theorem srtL_nv (l : List It) : srtL (l.map nv) = srtL l := by
  unfold srtL
  rw [List.length_map, mayK_nv, ordK_nv]
theorem finL_nv (l : List It) (a n : Nat) : finL (l.map nv) a n = finL l a n := by
  unfold finL
  rw [srtL_nv, List.length_map]
theorem nv_id {l : List It} (h : ∀ x ∈ l, mayI x = true) : l.map nv = l := by
  rw [List.map_congr_left (g := id), List.map_id]
  intro x hx
  have := may_ver (h x hx)
  show nv x = x
  unfold nv
  rw [nvI_of this]
theorem chunkL_cons (vf : Nat → Int) (d : UInt8) (r : List UInt8) : chunkL vf (d :: r) = endC (d :: r) (cutsL vf d.toNat (d :: r) 1 []) := rfl
theorem chunkL_nil (vf : Nat → Int) : chunkL vf [] = ([], 2) := rfl
theorem ofGo_nil (vf : Nat → Int) (i : Nat) (acc : List It) (odd : Int) : ofGo vf [] i acc odd = (acc, odd, 0, i) := rfl
theorem chunkL_same (c : List UInt8) : chunkL vfR c = chunkL vfP c := by
  cases c with
  | nil => rw [chunkL_nil, chunkL_nil]
  | cons d r =>
    rw [chunkL_cons, chunkL_cons]
    generalize d :: r = l
    obtain ⟨its, p, e, hc⟩ : ∃ a b e, cutsL vfP d.toNat l 1 [] = (a, b, e) := ⟨_, _, _, rfl⟩
    have h2 := cutsL_nv _ _ _ _ _ _ _ hc
    rw [List.map_nil] at h2
    rw [hc, h2, endC_eq, endC_eq, finL_nv]
    by_cases he : e = 0
    · subst he
      by_cases hf : finL its p l.length = 0
      · simp only [ne_eq, not_true_eq_false, if_false, hf]
        rw [nv_id (srt_may (fin_zero hf).1)]
      · simp only [ne_eq, not_true_eq_false, if_false, hf, not_false_eq_true, if_true]
    · simp only [ne_eq, he, not_false_eq_true, if_true]
theorem ofGo_same : ∀ (ls : List (List UInt8)) (i : Nat) (acc : List It) (odd : Int), ofGo vfR ls i acc odd = ofGo vfP ls i acc odd
  | [], _, _, _ => by rw [ofGo_nil, ofGo_nil]
  | c :: r, i, acc, odd => by
    obtain ⟨its, e, h⟩ : ∃ its e, chunkL vfP c = (its, e) := ⟨_, _, rfl⟩
    have h2 := (chunkL_same c).trans h
    by_cases he : e = 0
    · subst he
      rw [ofGo_ok h2, ofGo_ok h, ofGo_same r]
    · rw [ofGo_err h2 he, ofGo_err h he]
theorem ofL_same (ls : List (List UInt8)) : ofL vfR ls = ofL vfP ls := by unfold ofL; rw [ofGo_same]
end Go.Proofs.YtoagdmglchccnaaGreatDoor
namespace Go.Proofs.YtoagdmglchccnaaGreatDoor
open Go Go.RowKit
set_option linter.unusedVariables false
set_option linter.unusedSimpArgs false
end Go.Proofs.YtoagdmglchccnaaGreatDoor
