/- Slots: who votes for what is proposed, as a set and as a list; what is prepared, committed. Plain mathematics. -/
import Derived.Test.YtgmblgpfgdfnaaaQMM19
namespace Go.Proofs.Ytgmblgpfgdfnaaa
open Go Go.RowKit
set_option linter.unusedVariables false
set_option linter.unusedSimpArgs false
/-- Is a vote for a view and a term? -/
def mat (vw tm : Int) (x : Vt) : Bool := decide (x.vw = vw) && decide (x.tm = tm)
def agrN (vw tm : Int) (l : List Vt) : Nat := ofZ ((l.filter (mat vw tm)).map Vt.fr) 0
theorem agrN_lt (vw tm : Int) (l : List Vt) : agrN vw tm l < 18446744073709551616 := ofZ_lt _ _ (by decide)
theorem agrN_up {vw tm : Int} {l : List Vt} {k : Nat} (hk : k < l.length) : agrN vw tm (l.take (k + 1)) = if mat vw tm l[k] = true then agrN vw tm (l.take k) ||| bitZ l[k].fr else agrN vw tm (l.take k) := by
  unfold agrN
  rw [List.take_succ_eq_append_getElem hk, List.filter_append, List.map_append]
  by_cases h : mat vw tm l[k] = true
  · rw [if_pos h, List.filter_cons, if_pos h, List.filter_nil, List.map_cons, List.map_nil, ofZ_snoc]
  · rw [if_neg h, List.filter_cons, if_neg h, List.filter_nil, List.map_nil, List.append_nil]
theorem agrN_bit (vw tm : Int) (l : List Vt) (i : Nat) (hi : i < 64) : (agrN vw tm l).testBit i = decide (∃ x ∈ l, mat vw tm x = true ∧ x.fr = (i : Int)) := by
  unfold agrN
  rw [ofZ_bit _ _ _ hi, Nat.zero_testBit, Bool.false_or]
  congr 1
  apply propext
  rw [List.mem_map]
  constructor
  · rintro ⟨x, hx, he⟩
    rw [List.mem_filter] at hx
    exact ⟨x, hx.1, hx.2, he⟩
  · rintro ⟨x, hx, hm, he⟩
    exact ⟨x, List.mem_filter.2 ⟨hx, hm⟩, he⟩
/-- Those below n, but one, who vote for a view and a term. -/
def whoL (vw tm : Int) (l : List Vt) (n but : Int) : List Int := (l.filter fun x => decide (x.fr < n) && (decide (x.fr ≠ but) && mat vw tm x)).map Vt.fr
theorem who_mem {vw tm : Int} {l : List Vt} {n but p : Int} : p ∈ whoL vw tm l n but ↔ p < n ∧ p ≠ but ∧ ∃ x ∈ l, mat vw tm x = true ∧ x.fr = p := by
  unfold whoL
  rw [List.mem_map]
  constructor
  · rintro ⟨x, hx, rfl⟩
    rw [List.mem_filter, Bool.and_eq_true, Bool.and_eq_true, decide_eq_true_eq, decide_eq_true_eq] at hx
    exact ⟨hx.2.1, hx.2.2.1, x, hx.1, hx.2.2.2, rfl⟩
  · rintro ⟨h1, h2, x, hx, hm, rfl⟩
    exact ⟨x, List.mem_filter.2 ⟨hx, by rw [Bool.and_eq_true, Bool.and_eq_true, decide_eq_true_eq, decide_eq_true_eq]; exact ⟨h1, h2, hm⟩⟩, rfl⟩
theorem who_up {vw tm : Int} {l : List Vt} {n but : Int} {k : Nat} (hk : k < l.length) : whoL vw tm (l.take (k + 1)) n but = if (decide (l[k].fr < n) && (decide (l[k].fr ≠ but) && mat vw tm l[k])) = true then whoL vw tm (l.take k) n but ++ [l[k].fr] else whoL vw tm (l.take k) n but := by
  unfold whoL
  rw [List.take_succ_eq_append_getElem hk, List.filter_append, List.map_append]
  by_cases h : (decide (l[k].fr < n) && (decide (l[k].fr ≠ but) && mat vw tm l[k])) = true
  · rw [if_pos h, List.filter_cons, if_pos h]; rfl
  · rw [if_neg h, List.filter_cons, if_neg h]; simp
theorem who_len (vw tm : Int) (l : List Vt) (n but : Int) : (whoL vw tm l n but).length ≤ l.length := by
  unfold whoL; rw [List.length_map]; exact List.length_filter_le _ _
theorem who_range {vw tm : Int} {l : List Vt} {n but p : Int} (h : areB l = true) (hp : p ∈ whoL vw tm l n but) : 0 ≤ p ∧ p ≤ 63 := by
  obtain ⟨_, _, x, hx, _, rfl⟩ := who_mem.1 hp
  have := (voteB_iff x).1 (are_all h x hx)
  exact ⟨this.1, this.2.1⟩
theorem who_nodup {vw tm : Int} {l : List Vt} {n but : Int} (h : areB l = true) : ((whoL vw tm l n but).map Int.toNat).Nodup := by
  rw [List.Nodup, List.pairwise_map]
  refine List.Pairwise.imp_of_mem (R := fun a b => a < b) ?_ ?_
  · intro a b ha hb hab
    have h1 := who_range h ha
    have h2 := who_range h hb
    omega
  · unfold whoL
    rw [List.pairwise_map]
    exact (are_sort h).filter _
/-- The set counts as many as the list has. -/
theorem who_count {vw tm : Int} {l : List Vt} {n but : Int} {X : Nat} (h : areB l = true) (hX : ∀ i, i < 64 → X.testBit i = decide ((i : Int) < n ∧ (i : Int) ≠ but ∧ ∃ x ∈ l, mat vw tm x = true ∧ x.fr = (i : Int))) : popK 64 X = (whoL vw tm l n but).length := by
  rw [← list_len, show (whoL vw tm l n but).length = ((whoL vw tm l n but).map Int.toNat).length from (List.length_map _).symm]
  apply List.Perm.length_eq
  rw [List.perm_ext_iff_of_nodup (by unfold listN; exact List.nodup_range.filter _) (who_nodup h)]
  intro i
  rw [mem_list, List.mem_map]
  constructor
  · rintro ⟨hi, hb⟩
    rw [hX i hi, decide_eq_true_eq] at hb
    exact ⟨(i : Int), who_mem.2 hb, by simp⟩
  · rintro ⟨p, hp, rfl⟩
    have h1 := who_range h hp
    refine ⟨by omega, ?_⟩
    rw [hX _ (by omega), decide_eq_true_eq, Int.toNat_of_nonneg h1.1]
    exact who_mem.1 hp
theorem prep_count {vw tm : Int} {l : List Vt} {n p : Int} (h : areB l = true) : popK 64 ((agrN vw tm l &&& allZ n) &&& (18446744073709551615 - bitZ p)) = (whoL vw tm l n p).length := by
  apply who_count h
  intro i hi
  rw [Nat.testBit_and, Nat.testBit_and, agrN_bit _ _ _ _ hi, not_bit _ _ (bitZ_lt p) hi, bitZ_bit _ _ hi]
  have ha := has_all n i hi
  rw [hasZ_in _ _ hi] at ha
  rw [ha, Bool.eq_iff_iff]
  simp only [Bool.and_eq_true, Bool.not_eq_true', decide_eq_true_eq, decide_eq_false_iff_not]
  constructor
  · rintro ⟨⟨h1, h2⟩, h3⟩; exact ⟨h2, fun e => h3 e.symm, h1⟩
  · rintro ⟨h1, h2, h3⟩; exact ⟨⟨h3, h1⟩, fun e => h2 e.symm⟩
theorem com_count {vw tm : Int} {l : List Vt} {n : Int} (h : areB l = true) : cntN (agrN vw tm l) n = (whoL vw tm l n (-1)).length := by
  unfold cntN
  apply who_count h
  intro i hi
  rw [Nat.testBit_and, agrN_bit _ _ _ _ hi]
  have ha := has_all n i hi
  rw [hasZ_in _ _ hi] at ha
  rw [ha, Bool.eq_iff_iff]
  simp only [Bool.and_eq_true, decide_eq_true_eq]
  constructor
  · rintro ⟨h1, h2⟩; exact ⟨h2, by omega, h1⟩
  · rintro ⟨h1, h2, h3⟩; exact ⟨h3, h1⟩
structure Sl where
  has : Bool
  vw : Int
  tm : Int
  body : List UInt8
  ps : List Vt
  cs : List Vt
def sl0 : Sl := ⟨false, 0, 0, [], [], []⟩
def mayS (s : Sl) : Bool := numB s.vw && (numB s.tm && (decide (s.body.length ≤ 65536) && (areB s.ps && (areB s.cs && (s.has || (decide (s.vw = 0) && (decide (s.tm = 0) && decide (s.body = []))))))))
theorem mayS_are {s : Sl} (h : mayS s = true) : areB s.ps = true ∧ areB s.cs = true ∧ numB s.vw = true ∧ numB s.tm = true := by
  unfold mayS at h
  simp only [Bool.and_eq_true] at h
  exact ⟨h.2.2.2.1, h.2.2.2.2.1, h.1, h.2.1⟩
def prepB (s : Sl) (n : Int) : Bool := decide (fN n ≠ 0) && (mayS s && (s.has && decide (2 * fN n ≤ ((whoL s.vw s.tm s.ps n (primZ s.vw n)).length : Int))))
def comB (s : Sl) (n : Int) : Bool := prepB s n && decide (2 * fN n + 1 ≤ ((whoL s.vw s.tm s.cs n (-1)).length : Int))
/-- What is proposed: what is wrong with it, and what comes. -/
def propE (s : Sl) (vw tm : Int) (body : List UInt8) : Nat :=
  if (mayS s && (numB vw && (numB tm && decide (body.length ≤ 65536)))) = false then 1
  else if (s.has && decide (vw < s.vw)) = true then 18
  else if (s.has && (decide (s.vw = vw) && (decide (s.tm = tm) && decide (s.body = body)))) = true then 16
  else if (s.has && decide (s.vw = vw)) = true then 23 else 0
def propR (s : Sl) (vw tm : Int) (body : List UInt8) : Sl := if propE s vw tm body = 0 then ⟨true, vw, tm, body, s.ps, s.cs⟩ else sl0
def castE (s : Sl) (l : List Vt) (v : Vt) : Nat := if (mayS s && voteB v) = false then 1 else layE l v
def prepR (s : Sl) (v : Vt) : Sl := if castE s s.ps v = 0 then ⟨s.has, s.vw, s.tm, s.body, layL s.ps v, s.cs⟩ else sl0
def comR (s : Sl) (v : Vt) : Sl := if castE s s.cs v = 0 then ⟨s.has, s.vw, s.tm, s.body, s.ps, layL s.cs v⟩ else sl0
theorem may_sl0 : mayS sl0 = true := rfl
theorem prop_may {s : Sl} {vw tm : Int} {body : List UInt8} (h : propE s vw tm body = 0) : mayS (propR s vw tm body) = true := by
  unfold propR; rw [if_pos h]
  unfold propE at h
  split at h
  · cases h
  · rename_i h1
    simp only [Bool.not_eq_false, Bool.and_eq_true, decide_eq_true_eq] at h1
    have h2 := mayS_are h1.1
    unfold mayS
    simp only [Bool.and_eq_true, decide_eq_true_eq, Bool.or_eq_true]
    exact ⟨h1.2.1, h1.2.2.1, h1.2.2.2, h2.1, h2.2.1, .inl trivial⟩
theorem prepR_may {s : Sl} {v : Vt} (h : castE s s.ps v = 0) : mayS (prepR s v) = true := by
  unfold prepR; rw [if_pos h]
  unfold castE at h
  split at h
  · cases h
  · rename_i h1
    simp only [Bool.not_eq_false, Bool.and_eq_true] at h1
    obtain ⟨h1, h3⟩ := h1
    have h2 := mayS_are h1
    unfold mayS at h1 ⊢
    simp only [Bool.and_eq_true] at h1 ⊢
    exact ⟨h1.1, h1.2.1, h1.2.2.1, lay_are h2.1 h3, h1.2.2.2.2.1, h1.2.2.2.2.2⟩
theorem comR_may {s : Sl} {v : Vt} (h : castE s s.cs v = 0) : mayS (comR s v) = true := by
  unfold comR; rw [if_pos h]
  unfold castE at h
  split at h
  · cases h
  · rename_i h1
    simp only [Bool.not_eq_false, Bool.and_eq_true] at h1
    obtain ⟨h1, h3⟩ := h1
    have h2 := mayS_are h1
    unfold mayS at h1 ⊢
    simp only [Bool.and_eq_true] at h1 ⊢
    exact ⟨h1.1, h1.2.1, h1.2.2.1, h1.2.2.2.1, lay_are h2.2.1 h3, h1.2.2.2.2.2⟩
end Go.Proofs.Ytgmblgpfgdfnaaa
