/- Choose: changes and their certificates; what is chosen; plain mathematics of ChooseSafe. Written by wip/tools/gen31a.py. -/
import Derived.Test.YtgmblgpfgdfnaaaQMM21
namespace Go.Proofs.Ytgmblgpfgdfnaaa
open Go
set_option linter.unusedVariables false
set_option linter.unusedSimpArgs false
/-- A slice that nobody looks at: where it lies. -/
structure Sv where
  a : Option Addr
  n : Nat
  k : Nat
def Sv.v (s : Sv) : Value := .slice s.a s.n s.k
/-- A certificate: its voices are a slice that nobody looks at. -/
structure Ce where
  sq : Int
  vw : Int
  tm : Int
  body : List UInt8
  vo : Sv
structure Cg where
  fr : Int
  vw : Int
  st : Int
  rt : Int
  pr : Sv
  cv : Sv
  cs : List Ce
/-- May the certificates of a change be chosen from, above its stable number? -/
def ceB (st : Int) : List Ce → Int → Bool
  | [], _ => true
  | c :: r, last => decide (last < c.sq) && (decide (c.sq ≤ st + 16) && (decide (0 ≤ c.vw) && (decide (c.body.length ≤ 65536) && ceB st r c.sq)))
def cgB (n : Int) (c : Cg) : Bool := decide (0 ≤ c.fr) && (decide (c.fr < n) && ((decide (c.st = 0) || dueB c.st) && (decide (c.st ≤ 2147483647) && ceB c.st c.cs c.st)))
/-- The certificates at a number. -/
def atL (l : List Cg) (seq : Int) : List Ce := l.flatMap fun c => c.cs.filter fun x => decide (x.sq = seq)
theorem ceB_all {st : Int} : ∀ {l : List Ce} {last : Int}, ceB st l last = true → (∀ x ∈ l, last < x.sq ∧ x.sq ≤ st + 16 ∧ 0 ≤ x.vw ∧ x.body.length ≤ 65536) ∧ l.Pairwise (fun a b => a.sq < b.sq)
  | [], _, _ => ⟨(fun x hx => (by cases hx)), List.Pairwise.nil⟩
  | c :: r, last, h => by
    unfold ceB at h
    simp only [Bool.and_eq_true, decide_eq_true_eq] at h
    obtain ⟨h1, h2, h3, h4, h5⟩ := h
    obtain ⟨k1, k2⟩ := ceB_all h5
    refine ⟨fun x hx => ?_, List.Pairwise.cons (fun y hy => (k1 y hy).1) k2⟩
    rcases List.mem_cons.1 hx with rfl | hx
    · exact ⟨h1, h2, h3, h4⟩
    · have := k1 x hx
      exact ⟨by omega, this.2⟩
theorem at_one {st seq : Int} {l : List Ce} {last : Int} (h : ceB st l last = true) : (l.filter fun x => decide (x.sq = seq)).length ≤ 1 := by
  have hp := (ceB_all h).2
  have h2 : (l.filter fun x => decide (x.sq = seq)).Pairwise (fun a b => a.sq < b.sq) := hp.filter _
  cases hq : l.filter (fun x => decide (x.sq = seq)) with
  | nil => simp
  | cons y r =>
    cases r with
    | nil => simp
    | cons z r' =>
      exfalso
      have hy : y ∈ l.filter (fun x => decide (x.sq = seq)) := by rw [hq]; simp
      have hz : z ∈ l.filter (fun x => decide (x.sq = seq)) := by rw [hq]; simp
      rw [hq] at h2
      have h3 := (List.pairwise_cons.1 h2).1 z (by simp)
      have e1 := (List.mem_filter.1 hy).2
      have e2 := (List.mem_filter.1 hz).2
      simp only [decide_eq_true_eq] at e1 e2
      omega
/-- How many certificates at a number are of a view. -/
def manyV (l : List Ce) (v : Int) : Nat := (l.filter fun x => decide (x.vw = v)).length
theorem many_app (a b : List Ce) (v : Int) : manyV (a ++ b) v = manyV a v + manyV b v := by unfold manyV; rw [List.filter_append, List.length_append]
theorem many_le (l : List Ce) (v : Int) : manyV l v ≤ l.length := List.length_filter_le _ _
/-- Of changes that have at most one certificate at a number each, some have as many of a view as all, but for those that are left out. -/
theorem many_sub {s l : List Cg} (h : s.Sublist l) (seq v : Int) (h1 : ∀ c ∈ l, (c.cs.filter fun x => decide (x.sq = seq)).length ≤ 1) : manyV (atL l seq) v + s.length ≤ manyV (atL s seq) v + l.length := by
  induction h with
  | slnil => simp
  | cons c hs ih =>
    rename_i s' l'
    have ih := ih (fun x hx => h1 x (List.mem_cons_of_mem _ hx))
    have hc := h1 c (by simp)
    have e : atL (c :: l') seq = (c.cs.filter fun x => decide (x.sq = seq)) ++ atL l' seq := by unfold atL; rw [List.flatMap_cons]
    rw [e, many_app, List.length_cons]
    have := many_le (c.cs.filter fun x => decide (x.sq = seq)) v
    omega
  | cons_cons c hs ih =>
    rename_i s' l'
    have ih := ih (fun x hx => h1 x (List.mem_cons_of_mem _ hx))
    have e : ∀ t, atL (c :: t) seq = (c.cs.filter fun x => decide (x.sq = seq)) ++ atL t seq := fun t => by unfold atL; rw [List.flatMap_cons]
    rw [e, e, many_app, many_app, List.length_cons, List.length_cons]
    omega
theorem at_sub {s l : List Cg} (h : s.Sublist l) (seq : Int) : ∀ x ∈ atL s seq, x ∈ atL l seq := by
  intro x hx
  unfold atL at hx ⊢
  rw [List.mem_flatMap] at hx ⊢
  obtain ⟨c, hc, hx⟩ := hx
  exact ⟨c, h.subset hc, hx⟩
/-- The program's choice: the first of those of the greatest view. -/
def bestS : List Ce → Option Ce → Option Ce
  | [], o => o
  | c :: r, none => bestS r (some c)
  | c :: r, some o => bestS r (if o.vw < c.vw then some c else some o)
theorem best_some : ∀ (l : List Ce) (o : Ce), ∃ b, bestS l (some o) = some b ∧ (b = o ∨ b ∈ l) ∧ o.vw ≤ b.vw ∧ ∀ x ∈ l, x.vw ≤ b.vw
  | [], o => ⟨o, rfl, .inl rfl, Int.le_refl _, fun x hx => (by cases hx)⟩
  | c :: r, o => by
    unfold bestS
    by_cases h : o.vw < c.vw
    · rw [if_pos h]
      obtain ⟨b, e, h1, h2, h3⟩ := best_some r c
      refine ⟨b, e, ?_, by omega, fun x hx => ?_⟩
      · rcases h1 with rfl | h1
        · exact .inr (by simp)
        · exact .inr (List.mem_cons_of_mem _ h1)
      · rcases List.mem_cons.1 hx with rfl | hx
        · exact h2
        · exact h3 x hx
    · rw [if_neg h]
      obtain ⟨b, e, h1, h2, h3⟩ := best_some r o
      refine ⟨b, e, ?_, h2, fun x hx => ?_⟩
      · rcases h1 with rfl | h1
        · exact .inl rfl
        · exact .inr (List.mem_cons_of_mem _ h1)
      · rcases List.mem_cons.1 hx with rfl | hx
        · omega
        · exact h3 x hx
theorem best_of {l : List Ce} (h : l ≠ []) : ∃ b, bestS l none = some b ∧ b ∈ l ∧ ∀ x ∈ l, x.vw ≤ b.vw := by
  cases l with
  | nil => exact absurd rfl h
  | cons c r =>
    obtain ⟨b, e, h1, h2, h3⟩ := best_some r c
    refine ⟨b, e, ?_, fun x hx => ?_⟩
    · rcases h1 with rfl | h1
      · simp
      · exact List.mem_cons_of_mem _ h1
    · rcases List.mem_cons.1 hx with rfl | hx
      · exact h2
      · exact h3 x hx
/-- The law's account of the certificates at a number: the greatest view, its first term and body, how many, whether all are the same. -/
structure Acc where
  view : Int
  term : Int
  body : List UInt8
  many : Nat
  one : Bool
def acc0 : Acc := ⟨-1, 0, [], 0, true⟩
def accS (A : Acc) (x : Ce) : Acc :=
  let B : Acc := if A.view < x.vw then ⟨x.vw, x.tm, x.body, 0, true⟩ else A
  if x.vw = B.view then ⟨B.view, B.term, B.body, B.many + 1, B.one && (decide (x.tm = B.term) && decide (x.body = B.body))⟩ else B
def accL (l : List Ce) : Acc := l.foldl accS acc0
theorem acc_facts (l : List Ce) (h0 : ∀ x ∈ l, 0 ≤ x.vw) : (∀ x ∈ l, x.vw ≤ (accL l).view) ∧ (accL l).many = manyV l (accL l).view ∧ ((accL l).one = true → ∀ x ∈ l, x.vw = (accL l).view → x.tm = (accL l).term ∧ x.body = (accL l).body) ∧ -1 ≤ (accL l).view := by
  have key : ∀ (r l : List Ce) (A : Acc), (∀ x ∈ l, x.vw ≤ A.view) → A.many = manyV l A.view → (A.one = true → ∀ x ∈ l, x.vw = A.view → x.tm = A.term ∧ x.body = A.body) → -1 ≤ A.view → (∀ x ∈ r, 0 ≤ x.vw) →
      (∀ x ∈ l ++ r, x.vw ≤ (r.foldl accS A).view) ∧ (r.foldl accS A).many = manyV (l ++ r) (r.foldl accS A).view ∧ ((r.foldl accS A).one = true → ∀ x ∈ l ++ r, x.vw = (r.foldl accS A).view → x.tm = (r.foldl accS A).term ∧ x.body = (r.foldl accS A).body) ∧ -1 ≤ (r.foldl accS A).view := by
    intro r
    induction r with
    | nil => intro l A h1 h2 h3 h4 _; simpa using ⟨h1, h2, h3, h4⟩
    | cons c r ih =>
      intro l A h1 h2 h3 h4 h5
      have hc := h5 c (by simp)
      rw [List.foldl_cons]
      have e : l ++ c :: r = (l ++ [c]) ++ r := by simp
      rw [e]
      have hm : ∀ v, manyV (l ++ [c]) v = manyV l v + if c.vw = v then 1 else 0 := fun v => by
        rw [many_app]
        congr 1
        unfold manyV
        by_cases hv : c.vw = v
        · simp [hv]
        · simp [hv]
      apply ih (l ++ [c]) (accS A c)
      · intro x hx
        rw [List.mem_append, List.mem_singleton] at hx
        unfold accS
        by_cases hv : A.view < c.vw
        · simp only [if_pos hv, if_true]
          rcases hx with hx | rfl
          · have := h1 x hx; omega
          · exact Int.le_refl _
        · simp only [if_neg hv]
          by_cases he : c.vw = A.view
          · rw [if_pos he]
            rcases hx with hx | rfl
            · exact h1 x hx
            · show x.vw ≤ A.view; omega
          · rw [if_neg he]
            rcases hx with hx | rfl
            · exact h1 x hx
            · omega
      · unfold accS
        by_cases hv : A.view < c.vw
        · simp only [if_pos hv, if_true]
          rw [hm, if_pos rfl]
          have : manyV l c.vw = 0 := by
            unfold manyV
            rw [List.length_eq_zero_iff, List.filter_eq_nil_iff]
            intro x hx
            have := h1 x hx
            simp only [decide_eq_true_eq]
            omega
          omega
        · simp only [if_neg hv]
          by_cases he : c.vw = A.view
          · rw [if_pos he]
            show A.many + 1 = manyV (l ++ [c]) A.view
            rw [hm, if_pos he, h2]
          · rw [if_neg he, hm, if_neg he, h2]; rfl
      · unfold accS
        by_cases hv : A.view < c.vw
        · simp only [if_pos hv, if_true]
          intro _ x hx hxv
          rw [List.mem_append, List.mem_singleton] at hx
          rcases hx with hx | rfl
          · have := h1 x hx; omega
          · exact ⟨rfl, rfl⟩
        · simp only [if_neg hv]
          by_cases he : c.vw = A.view
          · rw [if_pos he]
            intro ho x hx hxv
            simp only [Bool.and_eq_true, decide_eq_true_eq] at ho
            rw [List.mem_append, List.mem_singleton] at hx
            rcases hx with hx | rfl
            · exact h3 ho.1 x hx hxv
            · exact ⟨ho.2.1, ho.2.2⟩
          · rw [if_neg he]
            intro ho x hx hxv
            rw [List.mem_append, List.mem_singleton] at hx
            rcases hx with hx | rfl
            · exact h3 ho x hx hxv
            · exact absurd hxv he
      · unfold accS
        by_cases hv : A.view < c.vw
        · simp only [if_pos hv, if_true]; omega
        · simp only [if_neg hv]
          by_cases he : c.vw = A.view
          · rw [if_pos he]; exact h4
          · rw [if_neg he]; exact h4
      · exact fun x hx => h5 x (List.mem_cons_of_mem _ hx)
  have := key l [] acc0 (fun x hx => by cases hx) rfl (fun _ x hx => by cases hx) (by show (-1 : Int) ≤ -1; omega) h0
  simpa [accL] using this
/-- ChooseSafe: what more have than are left out is chosen. -/
theorem choose_safe {s l : List Cg} {seq : Int} (h : s.Sublist l) (h1 : ∀ c ∈ l, ceB c.st c.cs c.st = true) (hv : 0 ≤ (accL (atL l seq)).view) (hm : l.length < (accL (atL l seq)).many + s.length) (ho : (accL (atL l seq)).one = true) :
    ∃ b, bestS (atL s seq) none = some b ∧ b.tm = (accL (atL l seq)).term ∧ b.body = (accL (atL l seq)).body := by
  have h0 : ∀ x ∈ atL l seq, 0 ≤ x.vw := fun x hx => by
    unfold atL at hx
    rw [List.mem_flatMap] at hx
    obtain ⟨c, hc, hx⟩ := hx
    exact ((ceB_all (h1 c hc)).1 x (List.mem_filter.1 hx).1).2.2.1
  obtain ⟨f1, f2, f3, _⟩ := acc_facts (atL l seq) h0
  have hsub := many_sub h seq (accL (atL l seq)).view (fun c hc => at_one (h1 c hc))
  have hpos : 0 < manyV (atL s seq) (accL (atL l seq)).view := by omega
  unfold manyV at hpos
  obtain ⟨y, hy⟩ := List.exists_mem_of_length_pos hpos
  rw [List.mem_filter, decide_eq_true_eq] at hy
  obtain ⟨b, e, hb, hmax⟩ := best_of (l := atL s seq) (fun e => by rw [e] at hy; cases hy.1)
  have h4 := hmax y hy.1
  have h5 := f1 b (at_sub h seq b hb)
  have h6 := f3 ho b (at_sub h seq b hb) (by omega)
  exact ⟨b, e, h6.1, h6.2⟩
/-- Those that are chosen from: strong still. -/
def someT (l : List Cg) (lv : Nat → Bool) (need : Int) : Nat → List Cg
  | 0 => []
  | i + 1 => match l[i]? with
    | some c => if !lv i || decide (((someT l lv need i).length : Int) + l.length - i - 1 < need) then someT l lv need i ++ [c] else someT l lv need i
    | none => someT l lv need i
theorem some_sub (l : List Cg) (lv : Nat → Bool) (need : Int) : ∀ i, (someT l lv need i).Sublist (l.take i)
  | 0 => by simp [someT]
  | i + 1 => by
    have ih := some_sub l lv need i
    unfold someT
    cases h : l[i]? with
    | none =>
      simp only
      rw [List.getElem?_eq_none_iff] at h
      rw [List.take_of_length_le (by omega)]
      rw [List.take_of_length_le (by omega)] at ih
      exact ih
    | some c =>
      simp only
      obtain ⟨hi, rfl⟩ := List.getElem?_eq_some_iff.1 h
      rw [List.take_succ_eq_append_getElem hi]
      split
      · exact ih.append (List.Sublist.refl _)
      · exact ih.trans (List.sublist_append_left _ _)
theorem some_len (l : List Cg) (lv : Nat → Bool) (need : Int) (hn : need ≤ l.length) : ∀ i, i ≤ l.length → need ≤ ((someT l lv need i).length : Int) + l.length - i
  | 0, _ => by simp [someT]; omega
  | i + 1, hi => by
    have ih := some_len l lv need hn i (by omega)
    unfold someT
    rw [List.getElem?_eq_getElem (by omega)]
    simp only
    split
    · rename_i h
      rw [List.length_append, List.length_singleton]
      push_cast
      omega
    · rename_i h
      simp only [Bool.or_eq_true, decide_eq_true_eq, not_or] at h
      push_cast
      omega
end Go.Proofs.Ytgmblgpfgdfnaaa
