/- Marks: what is kept, whatever is said; plain mathematics of MarksKeep. Written by wip/tools/gen30n.py. -/
import Derived.Test.YtgmblgpfgdfnaaaQMM30
import Derived.Test.YtgmblgpfgdfnaaaQMM18
namespace Go.Proofs.Ytgmblgpfgdfnaaa
open Go Go.RowKit
set_option linter.unusedVariables false
set_option linter.unusedSimpArgs false
def cntM (l : List Vt) (seq tm : Int) : Nat := (l.filter (mat seq tm)).length
theorem who_all {vw tm : Int} {l : List Vt} {n : Int} (h : ∀ x ∈ l, 0 ≤ x.fr ∧ x.fr < n) : (whoL vw tm l n (-1)).length = cntM l vw tm := by
  unfold whoL cntM
  rw [List.length_map]
  congr 1
  apply List.filter_congr
  intro x hx
  obtain ⟨h1, h2⟩ := h x hx
  rw [decide_eq_true h2, decide_eq_true (show x.fr ≠ -1 by omega)]
  rfl
/-- How strong many say a checkpoint: counted. -/
theorem stb_cnt {low : Int} {l : List Vt} {n : Int} (hf : fN n ≠ 0) (h : allM low l = true) (hn : ∀ x ∈ l, x.fr < n) (seq tm : Int) : stbB l seq tm n = decide (2 * fN n + 1 ≤ (cntM l seq tm : Int)) := by
  rw [allM_iff] at h
  have hb : 0 ≤ fN n ∧ fN n ≤ 5 := by have := fN_cases n; omega
  have e : strongZ n = 2 * fN n + 1 := by unfold strongZ; rw [if_neg hf]
  have hok : ∀ x ∈ l, 0 ≤ x.fr ∧ x.fr ≤ 63 ∧ numB x.vw = true ∧ numB x.tm = true := fun x hx => by
    have h1 := (okM_iff low x).1 (h.1 x hx)
    exact ⟨h1.1, h1.2.1, (witB_num h1.2.2.2.1).1, h1.2.2.2.2⟩
  obtain ⟨F, hF⟩ : ∃ F, F = l.filter (fun x => decide (x.vw = seq)) := ⟨_, rfl⟩
  have hmat : l.filter (mat seq tm) = F.filter (mat seq tm) := by
    rw [hF, List.filter_filter]
    apply List.filter_congr
    intro x _
    unfold mat
    cases decide (x.vw = seq) <;> cases decide (x.tm = tm) <;> rfl
  have hag : agrN seq tm l = agrN seq tm F := by unfold agrN; rw [hmat]
  have hFm : ∀ x ∈ F, x ∈ l ∧ x.vw = seq := fun x hx => by rw [hF, List.mem_filter] at hx; exact ⟨hx.1, by simpa using hx.2⟩
  have hare : areB F = true := by
    rw [are_iff]
    refine ⟨fun x hx => ?_, ?_⟩
    · obtain ⟨h1, h2, h3, h4⟩ := hok x (hFm x hx).1
      rw [voteB_iff]
      exact ⟨h1, h2, h3, h4⟩
    · have h2 : F.Pairwise (fun a b => aheadB a b = true) := by rw [hF]; exact h.2.filter _
      refine h2.imp_of_mem ?_
      intro a b ha hb hab
      rw [aheadB_iff] at hab
      have h3 := (hFm a ha).2
      have h4 := (hFm b hb).2
      omega
  unfold stbB
  rw [e, enough_cnt _ _ _ (by omega), hag, com_count hare, who_all (fun x hx => ⟨(hok x (hFm x hx).1).1, hn x (hFm x hx).1⟩)]
  unfold cntM
  rw [hmat]
structure Inv (n : Int) (m : Ms) : Prop where
  may : mayM m = true
  fr : ∀ x ∈ m.l, x.fr < n
  no : ∀ seq tm, (cntM m.l seq tm : Int) ≤ 2 * fN n
theorem inv0 (n : Int) : Inv n ms0 := ⟨by rfl, fun x hx => (by cases hx), fun seq tm => (by show ((0 : Nat) : Int) ≤ _; have := fN_cases n; omega)⟩
theorem cnt_ins {l : List Vt} {x : Vt} (hf : ∀ z ∈ l, keyB x z = false) (seq tm : Int) : cntM (insL l x) seq tm = cntM l seq tm + if mat seq tm x = true then 1 else 0 := by
  unfold cntM
  have h1 := ((ins_perm hf).filter (mat seq tm)).length_eq
  rw [h1, List.filter_append, List.length_append]
  congr 1
  by_cases h : mat seq tm x = true
  · rw [if_pos h, List.filter_cons, if_pos h]; rfl
  · rw [if_neg h, List.filter_cons, if_neg h]; rfl
theorem mat_iff (seq tm : Int) (x : Vt) : mat seq tm x = true ↔ x.vw = seq ∧ x.tm = tm := by unfold mat; simp
theorem say_fr {n : Int} {m : Ms} {x : Vt} (I : Inv n m) (h : sayE m x n = 0) : ∀ y ∈ insL m.l x, y.fr < n := by
  obtain ⟨h1, h2, h3⟩ := sayE_yes h
  rw [sayOk_iff] at h1
  intro y hy
  rcases (ins_mem (key_free h3)).1 hy with rfl | hy
  · exact h1.2.2.2.1
  · exact I.fr y hy
/-- Whether a checkpoint becomes stable, and of which term. -/
theorem say_stb {n : Int} {m : Ms} {x : Vt} (I : Inv n m) (h : sayE m x n = 0) : sayS m x n = if 2 * fN n + 1 ≤ (cntM m.l x.vw x.tm : Int) + 1 then some x.tm else none := by
  obtain ⟨h1, h2, h3⟩ := sayE_yes h
  have h1' := sayOk_iff.1 h1
  have hm := (mayM_iff m).1 I.may
  have ha := ins_all hm.2.2.2 (say_okM h) (key_free h3)
  have hc := fun tm => stb_cnt h1'.1 ha (say_fr I h) x.vw tm
  have hx : x ∈ insL m.l x := (ins_mem (key_free h3)).2 (.inl rfl)
  have hself : (cntM (insL m.l x) x.vw x.tm : Int) = cntM m.l x.vw x.tm + 1 := by
    rw [cnt_ins (key_free h3), if_pos ((mat_iff _ _ _).2 ⟨rfl, rfl⟩)]; push_cast; rfl
  unfold sayS
  rw [if_pos h]
  by_cases hs : 2 * fN n + 1 ≤ (cntM m.l x.vw x.tm : Int) + 1
  · rw [if_pos hs]
    cases e : stbT (insL m.l x) x.vw n with
    | none =>
      exfalso
      unfold stbT at e
      rw [Option.map_eq_none_iff, List.find?_eq_none] at e
      have := e x hx
      rw [hc, decide_eq_true (by rw [hself]; exact hs)] at this
      exact this rfl
    | some t =>
      obtain ⟨y, _, hy2, hy3⟩ := stb_mem e
      by_cases ht : t = x.tm
      · rw [ht]
      · exfalso
        rw [hc, decide_eq_true_eq, cnt_ins (key_free h3), if_neg (by rw [mat_iff]; exact fun k => ht k.2.symm)] at hy3
        have := I.no x.vw t
        omega
  · rw [if_neg hs]
    cases e : stbT (insL m.l x) x.vw n with
    | none => rfl
    | some t =>
      exfalso
      obtain ⟨y, _, hy2, hy3⟩ := stb_mem e
      rw [hc, decide_eq_true_eq, cnt_ins (key_free h3)] at hy3
      have h9 := I.no x.vw t
      by_cases ht : mat x.vw t x = true
      · rw [if_pos ht] at hy3
        have := ((mat_iff _ _ _).1 ht).2
        subst this
        push_cast at hy3
        omega
      · rw [if_neg ht] at hy3
        push_cast at hy3
        omega
theorem cnt_later (l : List Vt) (lo seq tm : Int) : cntM (laterL l lo) seq tm ≤ cntM l seq tm := by
  unfold cntM laterL
  rw [List.filter_filter]
  have : (l.filter fun x => mat seq tm x && decide (lo < x.vw)) = (l.filter (mat seq tm)).filter (fun x => decide (lo < x.vw)) := by
    rw [List.filter_filter]
    apply List.filter_congr
    intro x _
    rw [Bool.and_comm]
  rw [this]
  exact List.length_filter_le _ _
theorem cnt_later0 (l : List Vt) (lo tm : Int) : cntM (laterL l lo) lo tm = 0 := by
  unfold cntM laterL
  rw [List.filter_filter, List.length_eq_zero_iff, List.filter_eq_nil_iff]
  intro x _
  simp only [Bool.and_eq_true, decide_eq_true_eq, not_and]
  rw [mat_iff]
  omega
theorem say_inv {n : Int} {m : Ms} {x : Vt} (I : Inv n m) (h : sayE m x n = 0) : Inv n (sayR m x n) := by
  have hS := say_stb I h
  have hmay := say_may h
  have hfr := say_fr I h
  obtain ⟨h1, h2, h3⟩ := sayE_yes h
  have hkf := key_free h3
  unfold sayS at hS
  rw [if_pos h] at hS
  have hR : sayR m x n = (match stbT (insL m.l x) x.vw n with
    | some t => ⟨x.vw, t, laterL (insL m.l x) x.vw⟩
    | none => ⟨m.low, m.root, insL m.l x⟩) := by unfold sayR; rw [if_pos h]; rfl
  refine ⟨hmay, ?_, ?_⟩
  · rw [hR]
    cases stbT (insL m.l x) x.vw n with
    | none => exact hfr
    | some t => exact fun y hy => hfr y (List.mem_filter.1 hy).1
  · intro seq tm
    rw [hR]
    have h9 := I.no seq tm
    have hb : 0 ≤ fN n ∧ fN n ≤ 5 := by have := fN_cases n; omega
    have hci := cnt_ins hkf seq tm
    by_cases hs : 2 * fN n + 1 ≤ (cntM m.l x.vw x.tm : Int) + 1
    · rw [if_pos hs] at hS
      rw [hS]
      show (cntM (laterL (insL m.l x) x.vw) seq tm : Int) ≤ _
      by_cases hm : mat seq tm x = true
      · have h8 := (mat_iff _ _ _).1 hm
        rw [← h8.1, cnt_later0]
        show (0 : Int) ≤ _
        omega
      · rw [if_neg hm] at hci
        have := cnt_later (insL m.l x) x.vw seq tm
        omega
    · rw [if_neg hs] at hS
      rw [hS]
      show (cntM (insL m.l x) seq tm : Int) ≤ _
      by_cases hm : mat seq tm x = true
      · rw [if_pos hm] at hci
        obtain ⟨rfl, rfl⟩ := (mat_iff _ _ _).1 hm
        omega
      · rw [if_neg hm] at hci
        omega
/-- The low number goes up just where a checkpoint becomes stable. -/
theorem say_low {n : Int} {m : Ms} {x : Vt} (h : sayE m x n = 0) : m.low ≤ (sayR m x n).low ∧ ((sayS m x n).isSome = decide (m.low < (sayR m x n).low)) := by
  obtain ⟨h1, h2, h3⟩ := sayE_yes h
  have hw := witB_num h2
  unfold sayR sayS
  rw [if_pos h, if_pos h]
  cases stbT (insL m.l x) x.vw n with
  | none => simp
  | some t => exact ⟨by show m.low ≤ x.vw; omega, by show true = decide (m.low < x.vw); rw [decide_eq_true hw.2.1]⟩
theorem up_le {N : Int} {L : List Int} (hs : L.Pairwise (· < ·)) (h : ∀ x ∈ L, 0 ≤ x ∧ x < N) : (L.length : Int) ≤ N ∨ L = [] := by
  have key : ∀ i (hi : i < L.length), (i : Int) ≤ L[i] := by
    intro i
    induction i with
    | zero => intro hi; exact (h _ (List.getElem_mem hi)).1
    | succ i ih =>
      intro hi
      have h1 := ih (by omega)
      have h2 := List.pairwise_iff_getElem.1 hs i (i + 1) (by omega) hi (by omega)
      push_cast
      omega
  cases hL : L with
  | nil => exact .inr rfl
  | cons y r =>
    left
    rw [← hL]
    have hp : 0 < L.length := by rw [hL]; simp
    have h1 := key (L.length - 1) (by omega)
    have h2 := (h _ (List.getElem_mem (show L.length - 1 < L.length by omega))).2
    omega
/-- No more is kept than one mark of each at each of four numbers. -/
theorem inv_len {n : Int} {m : Ms} (hn : 0 ≤ n) (hm : mayM m = true) (hf : ∀ x ∈ m.l, x.fr < n) : (m.l.length : Int) ≤ 4 * n := by
  obtain ⟨h1, h2, h3, h4⟩ := (mayM_iff m).1 hm
  rw [allM_iff] at h4
  have hd : ∀ x ∈ m.l, x.vw % 4 = 0 ∧ m.low < x.vw ∧ x.vw - m.low ≤ 16 ∧ 0 ≤ x.fr := fun x hx => by
    have h5 := (okM_iff m.low x).1 (h4.1 x hx)
    have h6 := witB_num h5.2.2.2.1
    exact ⟨due_num (low := 0) h5.2.2.1, h6.2.1, h6.2.2, h5.1⟩
  let code : Vt → Int := fun x => ((x.vw - m.low) / 4 - 1) * n + x.fr
  have hp : (m.l.map code).Pairwise (· < ·) := by
    rw [List.pairwise_map]
    refine h4.2.imp_of_mem ?_
    intro a b ha hb hab
    rw [aheadB_iff] at hab
    obtain ⟨a1, a2, a3, a4⟩ := hd a ha
    obtain ⟨b1, b2, b3, b4⟩ := hd b hb
    have fa := hf a ha
    show ((a.vw - m.low) / 4 - 1) * n + a.fr < ((b.vw - m.low) / 4 - 1) * n + b.fr
    rcases hab with hv | ⟨hv, hr⟩
    · obtain ⟨u, hu⟩ : ∃ u, u = (a.vw - m.low) / 4 - 1 := ⟨_, rfl⟩
      obtain ⟨t, ht⟩ : ∃ u, u = (b.vw - m.low) / 4 - 1 := ⟨_, rfl⟩
      rw [← hu, ← ht]
      have hut : u + 1 ≤ t := by omega
      have := Int.mul_le_mul_of_nonneg_right hut hn
      rw [Int.add_mul, Int.one_mul] at this
      omega
    · rw [hv]; omega
  have hr : ∀ c ∈ m.l.map code, 0 ≤ c ∧ c < 4 * n := by
    intro c hc
    obtain ⟨x, hx, rfl⟩ := List.mem_map.1 hc
    obtain ⟨a1, a2, a3, a4⟩ := hd x hx
    have fa := hf x hx
    show 0 ≤ ((x.vw - m.low) / 4 - 1) * n + x.fr ∧ ((x.vw - m.low) / 4 - 1) * n + x.fr < 4 * n
    obtain ⟨u, hu⟩ : ∃ u, u = (x.vw - m.low) / 4 - 1 := ⟨_, rfl⟩
    rw [← hu]
    have h0 : 0 ≤ u := by omega
    have h3 : u ≤ 3 := by omega
    have e1 := Int.mul_nonneg h0 hn
    have e2 := Int.mul_le_mul_of_nonneg_right h3 hn
    omega
  rcases up_le hp hr with h5 | h5
  · simpa using h5
  · rw [List.map_eq_nil_iff] at h5
    rw [h5]
    show (0 : Int) ≤ _
    omega
def sameF (x y : Vt) : Bool := decide (y.vw = x.vw) && (decide (y.tm = x.tm) && decide (y.fr ≠ x.fr))
def sameN (l : List Vt) (x : Vt) : Nat := (l.filter (sameF x)).length
theorem same_cnt {l : List Vt} {x : Vt} (hf : ∀ z ∈ l, keyB x z = false) : sameN l x = cntM l x.vw x.tm := by
  unfold sameN cntM
  congr 1
  apply List.filter_congr
  intro y hy
  have h := hf y hy
  unfold keyB at h
  unfold sameF mat
  by_cases h1 : y.vw = x.vw
  · rw [decide_eq_true h1] at h ⊢
    rw [Bool.and_true, decide_eq_false_iff_not] at h
    rw [decide_eq_true h, Bool.and_true]
  · rw [decide_eq_false h1]; rfl
theorem same_up {l : List Vt} {x : Vt} {k : Nat} (hk : k < l.length) : sameN (l.take (k + 1)) x = sameN (l.take k) x + if sameF x l[k] = true then 1 else 0 := by
  unfold sameN
  rw [List.take_succ_eq_append_getElem hk, List.filter_append, List.length_append]
  congr 1
  by_cases h : sameF x l[k] = true
  · rw [if_pos h, List.filter_cons, if_pos h]; rfl
  · rw [if_neg h, List.filter_cons, if_neg h]; rfl
theorem same_le (l : List Vt) (x : Vt) : sameN l x ≤ l.length := List.length_filter_le _ _
end Go.Proofs.Ytgmblgpfgdfnaaa
