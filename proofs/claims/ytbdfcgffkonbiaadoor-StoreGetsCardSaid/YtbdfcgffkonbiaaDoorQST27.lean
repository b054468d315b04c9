/- Stores, mathematics: what edits make of a trunk, one behind the other; what Take comes to. -/
/- Span: all items of a trunk in order; ranges; the merge of the buckets. Plain mathematics. -/
import Derived.Test.YtbdfcgffkonbiaaDoorQST25
import Derived.Test.YtbdfcgffkonbiaaDoorQST22
import Derived.Test.YtbdfcgffkonbiaaDoorQST23
import Derived.Test.YtbdfcgffkonbiaaDoorQST10
namespace Go.Proofs.YtbdfcgffkonbiaaDoor
open Go Go.RowKit
set_option linter.unusedVariables false
set_option linter.unusedSimpArgs false
structure Ed where
  key : List UInt8
  v : V7.V
theorem Ed.ext' {x y : Ed} (h1 : x.key = y.key) (h2 : x.v = y.v) : x = y := by cases x; cases y; simp_all
def edC (x : Ed) : List Value := [.string (str x.key), .int .i64 x.v.k, .int .i64 x.v.i, .string (str x.v.s)]
def mayE (x : Ed) : Bool := isB x.key && V7.mayB x.v
def edI (x : Ed) (ver : Int) : It := ⟨x.key, x.v, ver⟩
/-- What one edit comes to: the error's number, and the trunk behind it. -/
def apE (lv : Nat → List It) (vs : Nat → Int) (x : Ed) (ver : Int) : Nat := if x.v.k = 0 then 0 else putTE lv vs (edI x ver)
def apLv (lv : Nat → List It) (vs : Nat → Int) (x : Ed) (ver : Int) : Nat → List It := if x.v.k = 0 then (if delTE lv vs x.key ver = 0 then upd lv (bkN x.key) (withoutL (lv (bkN x.key)) x.key) else lv) else upd lv (bkN x.key) (withL (lv (bkN x.key)) (edI x ver))
def apVs (lv : Nat → List It) (vs : Nat → Int) (x : Ed) (ver : Int) : Nat → Int := if x.v.k = 0 then (if delTE lv vs x.key ver = 0 then upd vs (bkN x.key) ver else vs) else upd vs (bkN x.key) ver
def goE (ver : Int) : (Nat → List It) → (Nat → Int) → List Ed → Nat → (Nat × Nat) × (Nat → List It) × (Nat → Int)
  | lv, vs, [], _ => ((0, 0), lv, vs)
  | lv, vs, x :: r, i => if apE lv vs x ver ≠ 0 then ((apE lv vs x ver, i), lv, vs) else goE ver (apLv lv vs x ver) (apVs lv vs x ver) r (i + 1)
def badE : List Ed → Nat → Option Nat
  | [], _ => none
  | x :: r, i => if mayE x = true then badE r (i + 1) else some i
def stQ : St := ⟨fun _ => [], fun _ => 0, 0, 0, 0⟩
def nextS (s : St) (lv : Nat → List It) (vs : Nat → Int) : St := ⟨lv, vs, s.ver + 1, s.by_, s.ke⟩
def okS (s : St) : Bool := mayS s && decide (s.ver < 2147483647)
def takeB (s : St) (l : List Ed) : (Nat × Nat) × St :=
  if (goE (s.ver + 1) s.lv s.vs l 0).1.1 ≠ 0 then ((goE (s.ver + 1) s.lv s.vs l 0).1, stQ)
  else if fitsB (nextS s (goE (s.ver + 1) s.lv s.vs l 0).2.1 (goE (s.ver + 1) s.lv s.vs l 0).2.2) = true then ((0, 0), nextS s (goE (s.ver + 1) s.lv s.vs l 0).2.1 (goE (s.ver + 1) s.lv s.vs l 0).2.2)
  else ((17, l.length), stQ)
/-- The error, its place, and the store. -/
def takeE (s : St) (l : List Ed) : (Nat × Nat) × St := if okS s = false then ((1, 0), stQ) else match badE l 0 with | some i => ((1, i), stQ) | none => takeB s l
theorem take_arg {s : St} {l : List Ed} (h : okS s = false) : takeE s l = ((1, 0), stQ) := by unfold takeE; rw [if_pos h]
theorem take_bad {s : St} {l : List Ed} {i : Nat} (h : okS s = true) (hb : badE l 0 = some i) : takeE s l = ((1, i), stQ) := by unfold takeE; rw [if_neg (by rw [h]; decide), hb]
theorem take_go {s : St} {l : List Ed} (h : okS s = true) (hb : badE l 0 = none) : takeE s l = takeB s l := by unfold takeE; rw [if_neg (by rw [h]; decide), hb]
theorem bad_end {l : List Ed} {i : Nat} (h : l.length ≤ i) : badE (l.drop i) i = none := by rw [List.drop_eq_nil_of_le h]; rfl
theorem bad_yes {l : List Ed} {i : Nat} (h : i < l.length) (hm : mayE l[i] = true) : badE (l.drop i) i = badE (l.drop (i + 1)) (i + 1) := by
  rw [List.drop_eq_getElem_cons h, badE, if_pos hm]
theorem bad_no {l : List Ed} {i : Nat} (h : i < l.length) (hm : mayE l[i] = false) : badE (l.drop i) i = some i := by
  rw [List.drop_eq_getElem_cons h, badE, if_neg (by rw [hm]; decide)]
theorem bad_none : ∀ {l : List Ed} {i : Nat}, badE l i = none → ∀ x ∈ l, mayE x = true
  | [], _, _, _, h => by cases h
  | y :: r, i, h, x, hx => by
    rw [badE] at h
    by_cases hm : mayE y = true
    · rw [if_pos hm] at h
      rcases List.mem_cons.1 hx with rfl | hx
      · exact hm
      · exact bad_none h x hx
    · rw [if_neg hm] at h; cases h
theorem go_end {ver : Int} {lv : Nat → List It} {vs : Nat → Int} {l : List Ed} {i : Nat} (h : l.length ≤ i) : goE ver lv vs (l.drop i) i = ((0, 0), lv, vs) := by rw [List.drop_eq_nil_of_le h]; rfl
theorem go_no {ver : Int} {lv : Nat → List It} {vs : Nat → Int} {l : List Ed} {i : Nat} (h : i < l.length) (he : apE lv vs l[i] ver ≠ 0) : goE ver lv vs (l.drop i) i = ((apE lv vs l[i] ver, i), lv, vs) := by
  rw [List.drop_eq_getElem_cons h, goE, if_pos he]
theorem go_yes {ver : Int} {lv : Nat → List It} {vs : Nat → Int} {l : List Ed} {i : Nat} (h : i < l.length) (he : apE lv vs l[i] ver = 0) : goE ver lv vs (l.drop i) i = goE ver (apLv lv vs l[i] ver) (apVs lv vs l[i] ver) (l.drop (i + 1)) (i + 1) := by
  rw [List.drop_eq_getElem_cons h, goE, if_neg (by rw [he]; simp)]
theorem mayE_key {x : Ed} (h : mayE x = true) : isB x.key = true := by unfold mayE at h; simp only [Bool.and_eq_true] at h; exact h.1
theorem mayE_v {x : Ed} (h : mayE x = true) : V7.mayB x.v = true := by unfold mayE at h; simp only [Bool.and_eq_true] at h; exact h.2
theorem mayE_it {x : Ed} {ver : Int} (h : mayE x = true) (hk : x.v.k ≠ 0) (hv : verB ver = true) : mayI (edI x ver) = true := by
  obtain ⟨h1, h2⟩ := verB_iff.1 hv
  unfold mayI
  rw [show (edI x ver).key = x.key from rfl, show (edI x ver).v = x.v from rfl, show (edI x ver).ver = ver from rfl, mayE_key h, mayE_v h, decide_eq_true hk, decide_eq_true h1, decide_eq_true h2]
  rfl
end Go.Proofs.YtbdfcgffkonbiaaDoor
namespace Go.Proofs.YtbdfcgffkonbiaaDoor
open Go Go.RowKit
set_option linter.unusedVariables false
set_option linter.unusedSimpArgs false
set_option linter.unusedSectionVars false
section
variable {α K : Type} (key : α → K) (lt : K → K → Bool) (bk : α → Nat)
/-- Sorted by key. -/
abbrev Srt (l : List α) : Prop := l.Pairwise (fun a b => lt (key a) (key b) = true)
variable (tr : ∀ {a b c : K}, lt a b = true → lt b c = true → lt a c = true) (irr : ∀ a, lt a a = false)
include tr irr
theorem lt_asymm' {a b : K} (h : lt a b = true) : lt b a = false := by
  cases hc : lt b a with
  | false => rfl
  | true => have := tr h hc; rw [irr] at this; cases this
theorem head_step : ∀ (R : List α) (n : Nat), Srt key lt R →
    (R.filter (fun x => decide (bk x < n + 1))).head? = (match (R.filter (fun x => decide (bk x = n))).head?, (R.filter (fun x => decide (bk x < n))).head? with
      | none, h => h
      | some x, none => some x
      | some x, some y => if lt (key x) (key y) = true then some x else some y)
  | [], n, _ => by simp
  | z :: R, n, hs => by
    obtain ⟨h1, h2⟩ := List.pairwise_cons.1 hs
    have ih := head_step R n h2
    rcases Nat.lt_trichotomy (bk z) n with h | h | h
    · rw [List.filter_cons_of_pos (by simp; omega), List.filter_cons_of_neg (by simp; omega), List.filter_cons_of_pos (by simp; omega)]
      simp only [List.head?_cons]
      cases hc : (R.filter (fun x => decide (bk x = n))).head? with
      | none => rfl
      | some x =>
        have hx := (List.mem_filter.1 (List.mem_of_mem_head? hc)).1
        simp only []
        rw [if_neg (by rw [lt_asymm' lt tr irr (h1 x hx)]; simp)]
    · rw [List.filter_cons_of_pos (by simp; omega), List.filter_cons_of_pos (by simp; omega), List.filter_cons_of_neg (by simp; omega)]
      simp only [List.head?_cons]
      cases hc : (R.filter (fun x => decide (bk x < n))).head? with
      | none => rfl
      | some y =>
        have hy := (List.mem_filter.1 (List.mem_of_mem_head? hc)).1
        simp only []
        rw [if_pos (h1 y hy)]
    · rw [List.filter_cons_of_neg (by simp; omega), List.filter_cons_of_neg (by simp; omega), List.filter_cons_of_neg (by simp; omega)]
      exact ih
omit tr irr in
theorem head_eq {R : List α} {n : Nat} {y : α} : (R.filter (fun x => decide (bk x < n))).head? = some y → (R.filter (fun x => decide (bk x = bk y))).head? = some y := by
  induction R with
  | nil => simp
  | cons z R ih =>
    intro h
    by_cases hz : bk z < n
    · rw [List.filter_cons_of_pos (by simpa using hz), List.head?_cons] at h
      cases h
      rw [List.filter_cons_of_pos (by simp), List.head?_cons]
    · rw [List.filter_cons_of_neg (by simpa using hz)] at h
      have hy := (List.mem_filter.1 (List.mem_of_mem_head? h)).2
      rw [List.filter_cons_of_neg (by simp at hy ⊢; omega)]
      exact ih h
/-- The places in the lists, and what is left of all of them. -/
def Inv (ls : Nat → List α) (nx : Nat → Nat) (R : List α) : Prop := ∀ b, b < 16 → nx b ≤ (ls b).length ∧ (ls b).drop (nx b) = R.filter (fun x => decide (bk x = b))
omit tr irr in
theorem inv_step {ls : Nat → List α} {nx : Nat → Nat} {x : α} {R : List α} (h : Inv bk ls nx (x :: R)) (hx : bk x < 16) :
    ∃ hl : nx (bk x) < (ls (bk x)).length, (ls (bk x))[nx (bk x)] = x ∧ Inv bk ls (fun b => if b = bk x then nx b + 1 else nx b) R := by
  obtain ⟨h1, h2⟩ := h (bk x) hx
  rw [List.filter_cons_of_pos (by simp)] at h2
  have hl : nx (bk x) < (ls (bk x)).length := by
    rcases Nat.lt_or_ge (nx (bk x)) (ls (bk x)).length with h | h
    · exact h
    · rw [List.drop_of_length_le h] at h2; cases h2
  rw [List.drop_eq_getElem_cons hl] at h2
  injection h2 with h3 h4
  refine ⟨hl, h3, fun b hb => ?_⟩
  by_cases e : b = bk x
  · subst e
    simp only [if_pos rfl]
    exact ⟨hl, h4⟩
  · simp only [if_neg e]
    obtain ⟨g1, g2⟩ := h b hb
    rw [List.filter_cons_of_neg (by simp; omega)] at g2
    exact ⟨g1, g2⟩
omit tr irr in
theorem inv_at {ls : Nat → List α} {nx : Nat → Nat} {R : List α} (h : Inv bk ls nx R) {b : Nat} (hb : b < 16) :
    (nx b = (ls b).length ∧ (R.filter (fun x => decide (bk x = b))).head? = none) ∨ ∃ hl : nx b < (ls b).length, (R.filter (fun x => decide (bk x = b))).head? = some (ls b)[nx b] := by
  obtain ⟨h1, h2⟩ := h b hb
  rw [← h2]
  rcases Nat.lt_or_ge (nx b) (ls b).length with g | g
  · right; refine ⟨g, ?_⟩; rw [List.drop_eq_getElem_cons g]; rfl
  · left; refine ⟨by omega, ?_⟩; rw [List.drop_of_length_le g]; rfl
/-- Two sorted lists with the same members are one. -/
theorem srt_ext : ∀ {l m : List α}, Srt key lt l → Srt key lt m → (∀ x, x ∈ l ↔ x ∈ m) → l = m
  | [], [], _, _, _ => rfl
  | [], y :: m, _, _, h => by have := (h y).2 (by simp); simp at this
  | x :: l, [], _, _, h => by have := (h x).1 (by simp); simp at this
  | x :: l, y :: m, hl, hm, h => by
    obtain ⟨l1, l2⟩ := List.pairwise_cons.1 hl
    obtain ⟨m1, m2⟩ := List.pairwise_cons.1 hm
    have hxy : x = y := by
      rcases List.mem_cons.1 ((h x).1 (by simp)) with e | e
      · exact e
      · rcases List.mem_cons.1 ((h y).2 (by simp)) with e2 | e2
        · exact e2.symm
        · have a := m1 x e; have b := l1 y e2
          rw [lt_asymm' lt tr irr a] at b; cases b
    subst hxy
    rw [srt_ext l2 m2]
    intro z
    constructor
    · intro hz
      rcases List.mem_cons.1 ((h z).1 (by simp [hz])) with e | e
      · subst e; have := l1 z hz; rw [irr] at this; cases this
      · exact e
    · intro hz
      rcases List.mem_cons.1 ((h z).2 (by simp [hz])) with e | e
      · subst e; have := m1 z hz; rw [irr] at this; cases this
      · exact e
end
/-- All items of a trunk, each laid where it belongs. -/
def allS (lv : Nat → List It) : List It := (allN lv 16).foldl withL []
abbrev SrtI (l : List It) : Prop := l.Pairwise (fun a b => ltB a.key b.key = true)
theorem fold_sorted : ∀ (l acc : List It), SrtI acc → SrtI (l.foldl withL acc)
  | [], acc, h => h
  | x :: l, acc, h => fold_sorted l (withL acc x) (with_sorted h x)
theorem with_mem_new {l : List It} {x y : It} (h : ∀ z ∈ l, z.key ≠ x.key) : y ∈ withL l x ↔ (y ∈ l ∨ y = x) := by
  rw [with_mem]
  constructor
  · rintro (⟨h1, _⟩ | h1 | ⟨h1, _⟩)
    · exact .inl h1
    · exact .inr h1
    · exact .inl h1
  · rintro (h1 | h1)
    · cases hc : ltB y.key x.key with
      | true => exact .inl ⟨h1, rfl⟩
      | false =>
        cases hd : ltB x.key y.key with
        | true => exact .inr (.inr ⟨h1, rfl⟩)
        | false => exact absurd (ltB_tri hc hd) (h y h1)
    · exact .inr (.inl h1)
theorem fold_mem : ∀ (l acc : List It) (y : It), l.Pairwise (fun a b => a.key ≠ b.key) → (∀ x ∈ l, ∀ z ∈ acc, z.key ≠ x.key) → (y ∈ l.foldl withL acc ↔ y ∈ acc ∨ y ∈ l)
  | [], acc, y, _, _ => by simp
  | x :: l, acc, y, hp, hd => by
    obtain ⟨p1, p2⟩ := List.pairwise_cons.1 hp
    have hx := fun z hz => hd x (by simp) z hz
    rw [List.foldl_cons, fold_mem l (withL acc x) y p2, with_mem_new hx, List.mem_cons]
    · constructor
      · rintro ((h | h) | h)
        · exact .inl h
        · exact .inr (.inl h)
        · exact .inr (.inr h)
      · rintro (h | h | h)
        · exact .inl (.inl h)
        · exact .inl (.inr h)
        · exact .inr h
    · intro u hu z hz
      rcases (with_mem_new hx).1 hz with h | h
      · exact hd u (by simp [hu]) z h
      · rw [h]; exact p1 u hu
theorem two_filters {p q : It → Bool} (h : ∀ x, p x = true → q x = false) : ∀ l : List It, (l.filter p).length + (l.filter q).length ≤ l.length
  | [] => by simp
  | x :: l => by
    have ih := two_filters h l
    cases hp : p x with
    | true => rw [List.filter_cons_of_pos hp, List.filter_cons_of_neg (by simp [h x hp])]; simp; omega
    | false =>
      rw [List.filter_cons_of_neg (by simp [hp])]
      cases hq : q x with
      | true => rw [List.filter_cons_of_pos hq]; simp; omega
      | false => rw [List.filter_cons_of_neg (by simp [hq])]; simp; omega
theorem with_len' (l : List It) (x : It) : (withL l x).length ≤ l.length + 1 := by
  have := two_filters (p := fun y => ltB y.key x.key) (q := fun y => ltB x.key y.key) (fun y h => lt_le h) l
  unfold withL
  rw [List.length_append, List.length_cons]; omega
theorem fold_len : ∀ (l acc : List It), (l.foldl withL acc).length ≤ acc.length + l.length
  | [], acc => by simp
  | x :: l, acc => by
    have h1 := fold_len l (withL acc x)
    have h2 := with_len' acc x
    rw [List.foldl_cons, List.length_cons]; omega
section
variable {lv : Nat → List It} {vs : Nat → Int} (h : mayTs lv vs 16 = true)
include h
theorem allN_ne : ∀ n, n ≤ 16 → (allN lv n).Pairwise (fun a b => a.key ≠ b.key)
  | 0, _ => by simp [allN]
  | n + 1, hn => by
    rw [allN_succ, List.pairwise_append]
    refine ⟨allN_ne n (by omega), ?_, ?_⟩
    · exact (isL_sorted (isT h (by omega))).imp fun h => ltB_ne h
    · intro a ha b hb e
      obtain ⟨c, hc, ha⟩ := mem_allN ha
      have h1 := (at_bk h (by omega) ha).2
      have h2 := (at_bk h (by omega) hb).2
      rw [e] at h1; omega
theorem allN_len64 : ∀ n, n ≤ 16 → (allN lv n).length ≤ n * 64
  | 0, _ => by simp [allN]
  | n + 1, hn => by
    have h1 := allN_len64 n (by omega)
    have h2 := isL_len (isT h (show n < 16 by omega))
    rw [allN_succ, List.length_append]; omega
theorem allS_sorted : SrtI (allS lv) := fold_sorted _ _ List.Pairwise.nil
theorem allS_mem {y : It} : y ∈ allS lv ↔ ∃ b, b < 16 ∧ y ∈ lv b := by
  unfold allS
  rw [fold_mem _ _ _ (allN_ne h 16 (Nat.le_refl _)) (by simp)]
  constructor
  · rintro (h1 | h1)
    · cases h1
    · exact mem_allN h1
  · rintro ⟨b, hb, hy⟩
    exact .inr (by unfold allN; exact List.mem_flatMap.2 ⟨b, List.mem_range.2 hb, hy⟩)
theorem allS_len : (allS lv).length ≤ 1024 := by
  have h1 := fold_len (allN lv 16) []
  have h2 := allN_len64 h 16 (Nat.le_refl _)
  unfold allS; simp at h1; omega
theorem allS_key {y : It} (hy : y ∈ allS lv) : isB y.key = true := by
  obtain ⟨b, hb, hy⟩ := (allS_mem h).1 hy
  exact (at_bk h hb hy).1
end
/-- Is a key in a range? -/
def inK (f t k : List UInt8) : Bool := !ltB k f && (decide (t = []) || ltB k t)
def fromL (lv : Nat → List It) (f : List UInt8) : List It := (allS lv).filter (fun x => !ltB x.key f)
def endK (t : List UInt8) (x : It) : Bool := decide (t = []) || ltB x.key t
def rngL (lv : Nat → List It) (f t : List UInt8) : List It := (allS lv).filter (fun x => inK f t x.key)
theorem rng_from (lv : Nat → List It) (f t : List UInt8) : rngL lv f t = (fromL lv f).filter (endK t) := by
  unfold rngL fromL inK endK
  rw [List.filter_filter]
  congr 1; funext x; exact Bool.and_comm _ _
theorem while_filter {t : List UInt8} : ∀ {l : List It}, SrtI l → l.takeWhile (endK t) = l.filter (endK t)
  | [], _ => rfl
  | x :: l, hs => by
    obtain ⟨h1, h2⟩ := List.pairwise_cons.1 hs
    cases hx : endK t x with
    | true => rw [List.takeWhile_cons_of_pos hx, List.filter_cons_of_pos hx, while_filter h2]
    | false =>
      rw [List.takeWhile_cons_of_neg (by simp [hx]), List.filter_cons_of_neg (by simp [hx])]
      refine (List.filter_eq_nil_iff.2 fun y hy => ?_).symm
      have hlt := h1 y hy
      unfold endK at hx ⊢
      rw [Bool.or_eq_false_iff] at hx
      rw [hx.1, Bool.false_or]
      intro hy2
      have := lt_trans hlt hy2
      rw [hx.2] at this; cases this
section
variable {lv : Nat → List It} {vs : Nat → Int} (h : mayTs lv vs 16 = true) (f t : List UInt8)
include h
theorem from_sorted : SrtI (fromL lv f) := (allS_sorted h).filter _
theorem rng_while : rngL lv f t = (fromL lv f).takeWhile (endK t) := by
  rw [rng_from, while_filter (from_sorted h f)]
theorem from_len : (fromL lv f).length ≤ 1024 := Nat.le_trans (List.length_filter_le _ _) (allS_len h)
theorem rng_len : (rngL lv f t).length ≤ 1024 := Nat.le_trans (List.length_filter_le _ _) (allS_len h)
theorem from_bk {x : It} (hx : x ∈ fromL lv f) : bkN x.key < 16 ∧ x ∈ lv (bkN x.key) := by
  obtain ⟨b, hb, hy⟩ := (allS_mem h).1 (List.mem_filter.1 hx).1
  rw [(at_bk h hb hy).2]; exact ⟨hb, hy⟩
theorem drop_pos {l : List It} (hs : SrtI l) (k : List UInt8) : l.drop (posL l k) = l.filter (fun x => !ltB x.key k) := by
  have e : l = l.take (posL l k) ++ l.drop (posL l k) := (List.take_append_drop _ l).symm
  conv => rhs; rw [e, List.filter_append]
  rw [filter_none, filter_all, List.nil_append]
  · intro x hx
    obtain ⟨i, hi, rfl⟩ := List.getElem_of_mem hx
    rw [List.length_drop] at hi
    rw [List.getElem_drop, below_pos hs (by omega) (by omega)]; rfl
  · intro x hx
    obtain ⟨i, hi, rfl⟩ := List.getElem_of_mem hx
    rw [List.length_take] at hi
    rw [List.getElem_take, posL_below l k i (by omega) (by omega)]; rfl
theorem inv_start : Inv (fun x : It => bkN x.key) lv (fun b => posL (lv b) f) (fromL lv f) := by
  intro b hb
  refine ⟨posL_le _ _, ?_⟩
  have hs := isL_sorted (isT h hb)
  rw [drop_pos h hs]
  refine srt_ext (key := It.key) (lt := ltB) (fun h1 h2 => lt_trans h1 h2) ltB_self (hs.filter _) ((from_sorted h f).filter _) fun x => ?_
  unfold fromL
  rw [List.mem_filter, List.mem_filter, List.mem_filter, allS_mem h]
  constructor
  · rintro ⟨h1, h2⟩
    exact ⟨⟨⟨b, hb, h1⟩, h2⟩, by simpa using (at_bk h hb h1).2⟩
  · rintro ⟨⟨⟨c, hc, h1⟩, h2⟩, h3⟩
    have h4 := (at_bk h hc h1).2
    have h5 : bkN x.key = b := by simpa using h3
    rw [h4] at h5; subst h5
    exact ⟨h1, h2⟩
end
/-- Items with their numbers. -/
def ixs (l : List It) : List (It × Nat) := l.zipIdx
theorem ixs_len (l : List It) : (ixs l).length = l.length := by unfold ixs; exact List.length_zipIdx
theorem ixs_snoc (l : List It) (x : It) : ixs (l ++ [x]) = ixs l ++ [(x, l.length)] := by unfold ixs; rw [List.zipIdx_append]; simp
theorem take_snoc11 {α : Type} {l : List α} {i : Nat} (h : i < l.length) : l.take (i + 1) = l.take i ++ [l[i]] := by
  rw [List.take_succ_eq_append_getElem h]
/-- Where the range ends, the items given so far are all of it. -/
theorem while_stop {t : List UInt8} {l : List It} {i : Nat} (hi : i ≤ l.length) (hall : ∀ x ∈ l.take i, endK t x = true) (hn : ∀ h : i < l.length, endK t l[i] = false) : l.takeWhile (endK t) = l.take i := by
  have e : l = l.take i ++ l.drop i := (List.take_append_drop i l).symm
  conv => lhs; rw [e]
  rw [List.takeWhile_append_of_pos hall]
  by_cases h : i < l.length
  · rw [List.drop_eq_getElem_cons h, List.takeWhile_cons_of_neg (by simp [hn h]), List.append_nil]
  · rw [List.drop_of_length_le (by omega)]; simp
theorem while_part {t : List UInt8} {l : List It} {i : Nat} (hi : i ≤ l.length) (hall : ∀ x ∈ l.take i, endK t x = true) : l.take i <+: l.takeWhile (endK t) := by
  have e : l = l.take i ++ l.drop i := (List.take_append_drop i l).symm
  conv => rhs; rw [e]
  rw [List.takeWhile_append_of_pos hall]
  exact List.prefix_append _ _
end Go.Proofs.YtbdfcgffkonbiaaDoor
