/- Slots: two of one view with unlike terms: who votes for both. Plain mathematics. -/
import Derived.Test.YtgmblgpfgdfnaaaDoorQSAC11
namespace Go.Proofs.YtgmblgpfgdfnaaaDoor
open Go Go.RowKit
set_option linter.unusedVariables false
set_option linter.unusedSimpArgs false
/-- What a replica votes in a list. -/
def voOf (l : List Vt) (p : Int) : Option Vt := l.find? fun x => decide (x.fr = p)
/-- Does a replica vote in both lists, for unlike things, in a view? -/
def bothB (la lb : List Vt) (vw : Int) (p : Int) : Bool := match voOf la p, voOf lb p with
  | some x, some y => !(decide (x.fr = y.fr) && (decide (x.vw = y.vw) && decide (x.tm = y.tm))) && (decide (x.vw = vw) && decide (y.vw = vw))
  | _, _ => false
def cntB (la lb : List Vt) (vw : Int) (N : Nat) : Nat := (List.range N).countP fun i : Nat => bothB la lb vw (i : Int)
theorem cntB_up (la lb : List Vt) (vw : Int) (k : Nat) : cntB la lb vw (k + 1) = cntB la lb vw k + if bothB la lb vw (k : Int) = true then 1 else 0 := by
  unfold cntB
  rw [List.range_succ, List.countP_append, List.countP_cons, List.countP_nil]; simp
theorem cntB_le (la lb : List Vt) (vw : Int) (k : Nat) : cntB la lb vw k ≤ k := by
  unfold cntB
  have := List.countP_le_length (p := fun i : Nat => bothB la lb vw (i : Int)) (l := List.range k)
  simpa using this
theorem vo_at {l : List Vt} (h : areB l = true) {x : Vt} (hx : x ∈ l) : voOf l x.fr = some x := by
  have hs := are_sort h
  unfold voOf
  obtain ⟨i, hi, rfl⟩ := List.getElem_of_mem hx
  rw [List.find?_eq_some_iff_getElem]
  refine ⟨by simp, i, hi, rfl, ?_⟩
  intro j hj
  have := vt_at hs hj hi
  simp; omega
theorem who_vo {vw tm : Int} {l : List Vt} {n but p : Int} (h : areB l = true) (hp : p ∈ whoL vw tm l n but) : ∃ x, voOf l p = some x ∧ x.fr = p ∧ x.vw = vw ∧ x.tm = tm := by
  obtain ⟨_, _, x, hx, hm, rfl⟩ := who_mem.1 hp
  unfold mat at hm
  simp only [Bool.and_eq_true, decide_eq_true_eq] at hm
  exact ⟨x, vo_at h hx, rfl, hm.1, hm.2⟩
/-- As many below n as the list has. -/
theorem who_cnt {vw tm : Int} {l : List Vt} {n but : Int} (h : areB l = true) (hn : 0 ≤ n) : ((List.range n.toNat).countP fun i : Nat => decide ((i : Int) ∈ whoL vw tm l n but)) = (whoL vw tm l n but).length := by
  rw [List.countP_eq_length_filter, show (whoL vw tm l n but).length = ((whoL vw tm l n but).map Int.toNat).length from (List.length_map _).symm]
  apply List.Perm.length_eq
  rw [List.perm_ext_iff_of_nodup (List.nodup_range.filter _) (who_nodup h)]
  intro i
  rw [List.mem_filter, List.mem_range, List.mem_map]
  constructor
  · rintro ⟨_, hb⟩
    exact ⟨(i : Int), of_decide_eq_true hb, by simp⟩
  · rintro ⟨p, hp, rfl⟩
    have h1 := who_range h hp
    have h2 := (who_mem.1 hp).1
    refine ⟨by omega, ?_⟩
    rw [Int.toNat_of_nonneg h1.1]
    exact decide_eq_true hp
theorem but_cnt {N : Nat} {q : Int} (h0 : 0 ≤ q) (h1 : q < (N : Int)) : ((List.range N).countP fun i : Nat => decide ((i : Int) ≠ q)) + 1 = N := by
  obtain ⟨k, rfl⟩ := Int.eq_ofNat_of_zero_le h0
  have hk : k < N := by omega
  clear h0 h1
  induction N with
  | zero => omega
  | succ N ih =>
    rw [List.range_succ, List.countP_append, List.countP_cons, List.countP_nil]
    by_cases he : k = N
    · subst he
      have : ((List.range k).countP fun i : Nat => decide (((i : Int)) ≠ (k : Int))) = (List.range k).length := by
        rw [List.countP_eq_length]
        intro i hi
        rw [List.mem_range] at hi
        simp; omega
      rw [List.length_range] at this
      simp only [ne_eq, Int.natCast_inj] at this ⊢
      simp at this ⊢
      omega
    · have h3 := ih (by omega)
      have h4 : decide ((N : Int) ≠ (k : Int)) = true := by simp; omega
      simp only [h4, if_true]
      omega
/-- Votes for two things in one view: as many as both have, less those who may vote. -/
theorem meet_who {la lb : List Vt} {vw ta tb : Int} {n but : Int} {M : Nat} (ha : areB la = true) (hb : areB lb = true) (ht : ta ≠ tb) (hn : 0 ≤ n)
    (hM : ((List.range n.toNat).countP fun i : Nat => decide ((i : Int) ≠ but)) ≤ M) : (whoL vw ta la n but).length + (whoL vw tb lb n but).length ≤ M + cntB la lb vw n.toNat := by
  rw [← who_cnt ha hn, ← who_cnt hb hn]
  refine Nat.le_trans (count_two _ _ (fun i : Nat => decide ((i : Int) ≠ but)) ?_ ?_ _) (Nat.add_le_add hM ?_)
  · intro i hi
    exact decide_eq_true (who_mem.1 (of_decide_eq_true hi)).2.1
  · intro i hi
    exact decide_eq_true (who_mem.1 (of_decide_eq_true hi)).2.1
  · unfold cntB
    apply List.countP_mono_left
    intro i _ hi
    rw [Bool.and_eq_true] at hi
    obtain ⟨x, e1, e2, e3, e4⟩ := who_vo ha (of_decide_eq_true hi.1)
    obtain ⟨y, f1, f2, f3, f4⟩ := who_vo hb (of_decide_eq_true hi.2)
    unfold bothB
    rw [e1, f1]
    simp only [e2, e3, e4, f2, f3, f4]
    simp [ht]
theorem prim_range (v n : Int) (h : 1 ≤ n) : 0 ≤ primZ v n ∧ primZ v n < n := by
  unfold primZ
  rw [if_neg (by omega)]
  exact ⟨Int.emod_nonneg _ (by omega), Int.emod_lt_of_pos _ (by omega)⟩
theorem agree_prep {a b : Sl} {n : Int} (hv : a.vw = b.vw) (ht : a.tm ≠ b.tm) (ha : prepB a n = true) (hb : prepB b n = true) : fN n ≤ (cntB a.ps b.ps a.vw n.toNat : Int) := by
  unfold prepB at ha hb
  simp only [Bool.and_eq_true, decide_eq_true_eq] at ha hb
  obtain ⟨h0, ma, _, ka⟩ := ha
  obtain ⟨_, mb, _, kb⟩ := hb
  obtain ⟨e1, e2, e3, _⟩ := all_count n (fN n) rfl h0
  have hp := prim_range a.vw n (by omega)
  have hc := but_cnt (N := n.toNat) (q := primZ a.vw n) hp.1 (by omega)
  rw [← hv] at kb
  have := meet_who (vw := a.vw) (n := n) (but := primZ a.vw n) (M := n.toNat - 1) (mayS_are ma).1 (mayS_are mb).1 ht (by omega) (by omega)
  omega
theorem agree_com {a b : Sl} {n : Int} (hv : a.vw = b.vw) (ht : a.tm ≠ b.tm) (ha : comB a n = true) (hb : comB b n = true) : fN n < (cntB a.cs b.cs a.vw n.toNat : Int) := by
  unfold comB at ha hb
  rw [Bool.and_eq_true, decide_eq_true_eq] at ha hb
  obtain ⟨pa, ka⟩ := ha
  obtain ⟨pb, kb⟩ := hb
  unfold prepB at pa pb
  simp only [Bool.and_eq_true, decide_eq_true_eq] at pa pb
  obtain ⟨h0, ma, _, _⟩ := pa
  obtain ⟨_, mb, _, _⟩ := pb
  obtain ⟨e1, e2, e3, _⟩ := all_count n (fN n) rfl h0
  rw [← hv] at kb
  have hM : ((List.range n.toNat).countP fun i : Nat => decide ((i : Int) ≠ -1)) ≤ n.toNat := by
    have h9 := List.countP_le_length (p := fun i : Nat => decide ((i : Int) ≠ -1)) (l := List.range n.toNat)
    rw [List.length_range] at h9
    exact h9
  have := meet_who (vw := a.vw) (n := n) (but := -1) (M := n.toNat) (mayS_are ma).2.1 (mayS_are mb).2.1 ht (by omega) hM
  omega
end Go.Proofs.YtgmblgpfgdfnaaaDoor
