/- Marks: what is said, and what becomes of it; plain mathematics. Written by wip/tools/gen30i.py. -/
import Derived.Test.YtgmblgpfgdfnaaaQMM29
namespace Go.Proofs.Ytgmblgpfgdfnaaa
open Go Go.RowKit
set_option linter.unusedVariables false
set_option linter.unusedSimpArgs false
/-- A mark laid into a list in order. -/
def insL (l : List Vt) (x : Vt) : List Vt := l.filter (fun y => aheadB y x) ++ x :: l.filter (fun y => aheadB x y)
def keyB (x y : Vt) : Bool := decide (y.fr = x.fr) && decide (y.vw = x.vw)
def sayOk (m : Ms) (x : Vt) (n : Int) : Bool := decide (fN n ≠ 0) && (mayM m && (decide (0 ≤ x.fr) && (decide (x.fr < n) && (numB x.tm && dueB x.vw))))
def keyE (l : List Vt) (x : Vt) : Nat := match l.find? (keyB x) with
  | some y => if y.tm = x.tm then 16 else 23
  | none => 0
def sayE (m : Ms) (x : Vt) (n : Int) : Nat := if sayOk m x n = false then 1 else if witB m.low x.vw = false then 22 else keyE m.l x
def sayS (m : Ms) (x : Vt) (n : Int) : Option Int := if sayE m x n = 0 then stbT (insL m.l x) x.vw n else none
def sayR (m : Ms) (x : Vt) (n : Int) : Ms := if sayE m x n = 0 then (match stbT (insL m.l x) x.vw n with
  | some t => ⟨x.vw, t, laterL (insL m.l x) x.vw⟩
  | none => ⟨m.low, m.root, insL m.l x⟩) else ms0
theorem key_at {l : List Vt} {x : Vt} {k : Nat} (hk : k < l.length) (h1 : ∀ j (hj : j < l.length), j < k → keyB x l[j] = false) (h2 : keyB x l[k] = true) : keyE l x = if l[k].tm = x.tm then 16 else 23 := by
  unfold keyE
  rw [show l.find? (keyB x) = some l[k] from by
    rw [List.find?_eq_some_iff_getElem]
    exact ⟨h2, k, hk, rfl, fun j hj => by simpa using h1 j (by omega) hj⟩]
theorem key_no {l : List Vt} {x : Vt} (h1 : ∀ j (hj : j < l.length), j < l.length → keyB x l[j] = false) : keyE l x = 0 := by
  unfold keyE
  rw [show l.find? (keyB x) = none from by
    rw [List.find?_eq_none]
    intro y hy
    obtain ⟨i, hi, rfl⟩ := List.getElem_of_mem hy
    simp [h1 i hi hi]]
theorem key_free {l : List Vt} {x : Vt} (h : keyE l x = 0) : ∀ y ∈ l, keyB x y = false := by
  unfold keyE at h
  cases hf : l.find? (keyB x) with
  | none =>
    rw [List.find?_eq_none] at hf
    intro y hy
    simpa using hf y hy
  | some y => rw [hf] at h; simp only at h; split at h <;> cases h
def apart (a b : Vt) : Prop := ¬ (a.fr = b.fr ∧ a.vw = b.vw)
theorem ahead_apart {a b : Vt} (h : aheadB a b = true) : apart a b := by
  rw [aheadB_iff] at h
  rintro ⟨h1, h2⟩
  omega
theorem apart_ahead {a b : Vt} (h : apart a b) (h2 : aheadB b a = false) : aheadB a b = true := by
  rw [aheadB_iff]
  have h3 : ¬ (b.vw < a.vw ∨ (b.vw = a.vw ∧ b.fr < a.fr)) := fun k => by rw [(aheadB_iff b a).2 k] at h2; cases h2
  unfold apart at h
  omega
theorem ahead_asym {a b : Vt} (h : aheadB a b = true) : aheadB b a = false := by
  cases e : aheadB b a with
  | false => rfl
  | true => rw [aheadB_iff] at h e; omega
theorem ins_mem {l : List Vt} {x y : Vt} (hf : ∀ z ∈ l, keyB x z = false) : y ∈ insL l x ↔ y = x ∨ y ∈ l := by
  unfold insL
  rw [List.mem_append, List.mem_cons, List.mem_filter, List.mem_filter]
  constructor
  · rintro (h | rfl | h)
    · exact .inr h.1
    · exact .inl rfl
    · exact .inr h.1
  · rintro (rfl | h)
    · exact .inr (.inl rfl)
    · have h1 := hf y h
      unfold keyB at h1
      cases e : aheadB y x with
      | true => exact .inl ⟨h, rfl⟩
      | false =>
        refine .inr (.inr ⟨h, apart_ahead ?_ e⟩)
        rintro ⟨h2, h3⟩
        simp [h2, h3] at h1
theorem ins_sorted {l : List Vt} {x : Vt} (hs : l.Pairwise (fun a b => aheadB a b = true)) : (insL l x).Pairwise (fun a b => aheadB a b = true) := by
  unfold insL
  rw [List.pairwise_append, List.pairwise_cons]
  refine ⟨hs.filter _, ⟨fun y hy => (List.mem_filter.1 hy).2, hs.filter _⟩, fun a ha b hb => ?_⟩
  have h1 := (List.mem_filter.1 ha).2
  rcases List.mem_cons.1 hb with rfl | hb
  · exact h1
  · exact aheadB_trans h1 (List.mem_filter.1 hb).2
theorem ins_perm {l : List Vt} {x : Vt} (hf : ∀ z ∈ l, keyB x z = false) : (insL l x).Perm (l ++ [x]) := by
  have h1 : l.filter (fun y => aheadB x y) = l.filter (fun y => !aheadB y x) := by
    apply List.filter_congr
    intro y hy
    cases e : aheadB y x with
    | true => rw [ahead_asym e]; rfl
    | false =>
      rw [apart_ahead ?_ e]; rfl
      rintro ⟨h2, h3⟩
      have h4 := hf y hy
      unfold keyB at h4
      simp [h2, h3] at h4
  unfold insL
  rw [h1]
  refine List.perm_middle.trans ?_
  refine List.Perm.trans ?_ (List.perm_append_comm (l₁ := [x]) (l₂ := l))
  exact List.Perm.cons x (List.filter_append_perm _ _)
theorem sorted_ins {l ts : List Vt} {x : Vt} (hs : l.Pairwise (fun a b => aheadB a b = true)) (hf : ∀ z ∈ l, keyB x z = false) (hp : ts.Perm (l ++ [x])) (ht : ts.Pairwise (fun a b => aheadB b a = false)) : ts = insL l x := by
  have hi := ins_sorted (x := x) hs
  have hpi := hp.trans (ins_perm hf).symm
  have ha : (insL l x).Pairwise apart := hi.imp (fun h => ahead_apart h)
  have hta : ts.Pairwise apart := (List.Perm.pairwise_iff (R := apart) (fun {a b} h => fun k => h ⟨k.1.symm, k.2.symm⟩) hpi).2 ha
  have hts : ts.Pairwise (fun a b => aheadB a b = true) := (hta.and ht).imp (fun ⟨h1, h2⟩ => apart_ahead h1 h2)
  refine List.Perm.eq_of_pairwise (le := fun a b => aheadB a b = true) (fun a b _ _ h k => ?_) hts hi hpi
  rw [ahead_asym h] at k
  cases k
theorem ins_all {low : Int} {l : List Vt} {x : Vt} (h : allM low l = true) (hx : okM low x = true) (hf : ∀ z ∈ l, keyB x z = false) : allM low (insL l x) = true := by
  rw [allM_iff] at h ⊢
  refine ⟨fun y hy => ?_, ins_sorted h.2⟩
  rcases (ins_mem hf).1 hy with rfl | hy
  · exact hx
  · exact h.1 y hy
theorem fN_16 {n : Int} (h : fN n ≠ 0) : 4 ≤ n ∧ n ≤ 16 := by unfold fN at h; split at h <;> first | omega | (split at h <;> first | omega | (split at h <;> first | omega | (split at h <;> first | omega | (split at h <;> omega))))
theorem sayOk_iff {m : Ms} {x : Vt} {n : Int} : sayOk m x n = true ↔ fN n ≠ 0 ∧ mayM m = true ∧ 0 ≤ x.fr ∧ x.fr < n ∧ numB x.tm = true ∧ dueB x.vw = true := by unfold sayOk; simp
/-- What is said and not refused. -/
theorem sayE_yes {m : Ms} {x : Vt} {n : Int} (h : sayE m x n = 0) : sayOk m x n = true ∧ witB m.low x.vw = true ∧ keyE m.l x = 0 := by
  unfold sayE at h
  cases h1 : sayOk m x n with
  | false => rw [h1, if_pos rfl] at h; cases h
  | true =>
    rw [h1, if_neg (by decide)] at h
    cases h2 : witB m.low x.vw with
    | false => rw [h2, if_pos rfl] at h; cases h
    | true => rw [h2, if_neg (by decide)] at h; exact ⟨rfl, rfl, h⟩
theorem say_okM {m : Ms} {x : Vt} {n : Int} (h : sayE m x n = 0) : okM m.low x = true := by
  obtain ⟨h1, h2, _⟩ := sayE_yes h
  rw [sayOk_iff] at h1
  rw [okM_iff]
  have := fN_16 h1.1
  exact ⟨h1.2.2.1, by omega, h1.2.2.2.2.2, h2, h1.2.2.2.2.1⟩
theorem due_num {s : Int} {low : Int} (h : dueB s = true) : s % 4 = 0 := by unfold dueB at h; simp at h; exact h.2
theorem stb_mem {l : List Vt} {seq n t : Int} (h : stbT l seq n = some t) : ∃ x ∈ l, x.tm = t ∧ stbB l seq t n = true := by
  unfold stbT at h
  cases hf : l.find? (fun x => stbB l seq x.tm n) with
  | none => rw [hf] at h; cases h
  | some y =>
    rw [hf] at h
    injection h with h
    have h2 := List.find?_some hf
    exact ⟨y, List.mem_of_find?_eq_some hf, h, by rw [← h]; exact h2⟩
theorem say_may {m : Ms} {x : Vt} {n : Int} (h : sayE m x n = 0) : mayM (sayR m x n) = true := by
  obtain ⟨h1, h2, h3⟩ := sayE_yes h
  rw [sayOk_iff] at h1
  have hm := (mayM_iff m).1 h1.2.1
  have ha := ins_all hm.2.2.2 (say_okM h) (key_free h3)
  unfold sayR
  rw [if_pos h]
  cases hs : stbT (insL m.l x) x.vw n with
  | none =>
    simp only
    rw [mayM_iff]
    exact ⟨hm.1, hm.2.1, hm.2.2.1, ha⟩
  | some t =>
    simp only
    rw [mayM_iff]
    obtain ⟨y, hy, rfl, _⟩ := stb_mem hs
    have hok := ((allM_iff m.low _).1 ha).1 y hy
    rw [okM_iff] at hok
    have hw := witB_num h2
    exact ⟨hw.1, due_num (low := 0) h1.2.2.2.2.2, hok.2.2.2.2, later_all ha (show m.low ≤ x.vw by omega)⟩
end Go.Proofs.Ytgmblgpfgdfnaaa
