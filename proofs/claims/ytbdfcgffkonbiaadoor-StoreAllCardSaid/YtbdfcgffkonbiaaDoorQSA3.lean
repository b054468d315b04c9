/- Stores, mathematics of StoreAll: what is got behind edits; what undoing them makes. -/
import Derived.Test.YtbdfcgffkonbiaaDoorQSA2
namespace Go.Proofs.YtbdfcgffkonbiaaDoor
open Go Go.RowKit
set_option linter.unusedVariables false
set_option linter.unusedSimpArgs false
/-- What is told of a key: value, version, error. -/
def Wt (s : St) (k : List UInt8) : V7.V × Int × Nat := ((getI s k).v, (getI s k).ver, getE s k)
def stepW (k : List UInt8) (ver : Int) (a : V7.V × Int × Nat) (x : Ed) : V7.V × Int × Nat := if x.key = k then (if x.v.k = 0 then (eV0, 0, 6) else (x.v, ver, 0)) else a
def foldW (k : List UInt8) (ver : Int) (a : V7.V × Int × Nat) (l : List Ed) : V7.V × Int × Nat := l.foldl (stepW k ver) a
theorem foldW_take {k : List UInt8} {ver : Int} {a : V7.V × Int × Nat} {l : List Ed} {j : Nat} (h : j < l.length) : foldW k ver a (l.take (j + 1)) = stepW k ver (foldW k ver a (l.take j)) l[j] := by
  unfold foldW
  rw [List.take_add_one, List.getElem?_eq_getElem h, List.foldl_append]; rfl
/-- What lies under a key that may be. -/
def Gt (lv : Nat → List It) (k : List UInt8) : V7.V × Int × Nat := if gTB lv k = true then ((gTI lv k).v, (gTI lv k).ver, 0) else (eV0, 0, 6)
theorem wt_key {s : St} {k : List UInt8} (hm : mayS s = true) (hk : isB k = true) : Wt s k = Gt s.lv k := by
  unfold Wt Gt
  cases hb : gTB s.lv k with
  | true =>
    have e : getE s k = 0 := by unfold getE; rw [if_neg (by rw [hm]; decide), if_neg (by rw [hk]; decide), if_neg (by rw [hb]; decide)]
    have e2 : getI s k = gTI s.lv k := by unfold getI; rw [if_pos e]
    rw [e, e2, if_pos rfl]
  | false =>
    have e : getE s k = 6 := by unfold getE; rw [if_neg (by rw [hm]; decide), if_neg (by rw [hk]; decide), if_pos hb]
    have e2 : getI s k = zI := by unfold getI; rw [if_neg (by rw [e]; decide)]
    rw [e, e2, if_neg (by decide)]; rfl
theorem wt_nokey {s : St} {k : List UInt8} (hm : mayS s = true) (hk : isB k = false) : Wt s k = (eV0, 0, 3) := by
  have e : getE s k = 3 := by unfold getE; rw [if_neg (by rw [hm]; decide), if_pos hk]
  have e2 : getI s k = zI := by unfold getI; rw [if_neg (by rw [e]; decide)]
  unfold Wt
  rw [e, e2]; rfl
/-- One edit. -/
theorem gt_step {lv : Nat → List It} {vs : Nat → Int} {ver : Int} (h : GT lv vs ver) {x : Ed} {k : List UInt8} (hx : mayE x = true) (hv : verB ver = true) (he : apE lv vs x ver = 0) :
    Gt (apLv lv vs x ver) k = stepW k ver (Gt lv k) x := by
  have hxk := mayE_key hx
  by_cases hk : x.v.k = 0
  · by_cases hd : delTE lv vs x.key ver = 0
    · obtain ⟨-, e2, -⟩ := apDel hk hd
      have c := del_chg h.may h.sz hd
      rw [e2]
      by_cases hkk : x.key = k
      · unfold stepW Gt
        rw [if_pos hkk, if_pos hk, if_neg]
        have hz := (delTE_zero hd).2.2.1
        subst hkk
        unfold gTB gB
        rw [upd_at, without_at hz]; simp
      · unfold stepW Gt
        rw [if_neg hkk, (c.other k fun e => hkk e.symm).1, (c.other k fun e => hkk e.symm).2]
    · obtain ⟨-, e2, -⟩ := apNo hk hd
      rw [e2]
      by_cases hkk : x.key = k
      · subst hkk
        unfold stepW
        rw [if_pos rfl, if_pos hk]
        unfold Gt
        rw [if_neg]
        rw [gTB_found h.may hxk]
        intro hf
        apply hd
        have hde : delE (lv (bkN x.key)) x.key = 0 := by unfold delE; rw [if_pos (isT h.may (bkN_lt _)), if_pos hf]
        unfold delTE
        rw [if_neg (by rw [hv, h.may]; simp), if_neg (by rw [hxk]; simp), if_neg (fun q => by have := h.le _ (bkN_lt x.key); omega)]
        exact hde
      · unfold stepW; rw [if_neg hkk]
  · obtain ⟨e1, e2, -⟩ := apPut (lv := lv) (vs := vs) (ver := ver) hk
    rw [e1] at he
    rw [e2]
    have c := put_chg (x := edI x ver) h.may h.sz (isB_max hxk) (mayB_max (mayE_v hx)) he
    by_cases hkk : x.key = k
    · subst hkk
      have hp := putTE_zero he
      unfold stepW Gt
      rw [if_pos rfl, if_neg hk]
      have h1 : atL (withL (lv (bkN x.key)) (edI x ver)) x.key = some (edI x ver) := with_at hp
      have h2 : isL (withL (lv (bkN x.key)) (edI x ver)) = true := with_is hp
      unfold gTB gTI gB gI
      rw [upd_at, h1, h2, hxk]
      simp [edI]
    · unfold stepW Gt
      rw [if_neg hkk]
      have c1 := c.other k fun e => hkk e.symm
      rw [show (edI x ver).key = x.key from rfl] at c1
      rw [c1.1, c1.2]
theorem go_err {ver : Int} (hv : verB ver = true) : ∀ (l : List Ed) {lv : Nat → List It} {vs : Nat → Int} (i : Nat), GT lv vs ver → (∀ x ∈ l, mayE x = true) → WfE l → (goE ver lv vs l i).1.1 = 0 ∨ (goE ver lv vs l i).1.1 = 5
  | [], _, _, _, h, _, _ => .inl rfl
  | x :: r, lv, vs, i, h, hm, hw => by
    rw [goE]
    by_cases he : apE lv vs x ver = 0
    · rw [if_neg (by rw [he]; simp)]
      exact go_err hv r (i + 1) (h.step (hm x (by simp)) (hw x (by simp)) hv he) (fun y hy => hm y (by simp [hy])) (fun y hy => hw y (by simp [hy]))
    · rw [if_pos he]
      by_cases hk : x.v.k = 0
      · exact absurd (show apE lv vs x ver = 0 by unfold apE; rw [if_pos hk]) he
      · have hx := hm x (by simp)
        have e1 := (apPut (lv := lv) (vs := vs) (ver := ver) hk).1
        show apE lv vs x ver = 0 ∨ apE lv vs x ver = 5
        rw [e1]
        have hk' := mayE_key hx
        unfold putTE
        rw [show (edI x ver).key = x.key from rfl, if_pos ⟨h.may, hk'⟩, if_neg (fun q => by have := h.le _ (bkN_lt x.key); have := q.2; rw [show (edI x ver).ver = ver from rfl] at this; omega)]
        unfold putE
        rw [if_pos ⟨isT h.may (bkN_lt _), mayE_it hx hk hv⟩]
        split <;> simp
theorem go_fold {ver : Int} (hv : verB ver = true) (k : List UInt8) : ∀ (l : List Ed) {lv : Nat → List It} {vs : Nat → Int} (i : Nat), GT lv vs ver → (∀ x ∈ l, mayE x = true) → WfE l → (goE ver lv vs l i).1.1 = 0 →
    Gt (goE ver lv vs l i).2.1 k = foldW k ver (Gt lv k) l
  | [], _, _, _, h, _, _, _ => rfl
  | x :: r, lv, vs, i, h, hm, hw, h0 => by
    rw [goE] at h0 ⊢
    by_cases he : apE lv vs x ver = 0
    · rw [if_neg (by rw [he]; simp)] at h0 ⊢
      rw [go_fold hv k r (i + 1) (h.step (hm x (by simp)) (hw x (by simp)) hv he) (fun y hy => hm y (by simp [hy])) (fun y hy => hw y (by simp [hy])) h0]
      unfold foldW
      rw [List.foldl_cons, gt_step h (hm x (by simp)) hv he]
    · rw [if_pos he] at h0; exact absurd h0 he
theorem bad_all : ∀ {l : List Ed} {i : Nat}, (∀ x ∈ l, mayE x = true) → badE l i = none
  | [], _, _ => rfl
  | x :: r, i, h => by rw [badE, if_pos (h x (by simp))]; exact bad_all fun y hy => h y (by simp [hy])
theorem fold_skip {k : List UInt8} {ver : Int} : ∀ {l : List Ed} {a : V7.V × Int × Nat}, (∀ x ∈ l, x.key ≠ k) → foldW k ver a l = a
  | [], _, _ => rfl
  | x :: r, a, h => by
    unfold foldW
    rw [List.foldl_cons, show stepW k ver a x = a by unfold stepW; rw [if_neg (h x (by simp))]]
    exact fold_skip fun y hy => h y (by simp [hy])
theorem fold_one {k : List UInt8} {ver : Int} : ∀ {l : List Ed} {a : V7.V × Int × Nat}, SrtE l → ∀ x ∈ l, x.key = k → foldW k ver a l = if x.v.k = 0 then (eV0, 0, 6) else (x.v, ver, 0)
  | [], _, _, _, hx, _ => by cases hx
  | y :: r, a, hs, x, hx, hk => by
    obtain ⟨h1, h2⟩ := List.pairwise_cons.1 hs
    unfold foldW
    rw [List.foldl_cons]
    rcases List.mem_cons.1 hx with rfl | hx
    · rw [show List.foldl (stepW k ver) (stepW k ver a x) r = stepW k ver a x from fold_skip fun z hz e => ltB_ne (h1 z hz) (hk.trans e.symm)]
      unfold stepW; rw [if_pos hk]
    · exact fold_one h2 x hx hk
/-- What is taken well. -/
structure Tkn (s t : St) (l : List Ed) : Prop where
  ok : okS s = true
  may : ∀ x ∈ l, mayE x = true
  go : (goE (s.ver + 1) s.lv s.vs l 0).1.1 = 0
  eq : t = nextS s (goE (s.ver + 1) s.lv s.vs l 0).2.1 (goE (s.ver + 1) s.lv s.vs l 0).2.2
  fit : fitsB t = true
theorem take_tkn {s t : St} {l : List Ed} {i : Nat} (h : takeE s l = ((0, i), t)) : Tkn s t l ∧ i = 0 := by
  unfold takeE at h
  by_cases h1 : okS s = false
  · rw [if_pos h1] at h; injection h with h _; injection h with h _; cases h
  · rw [if_neg h1] at h
    have hok : okS s = true := by simpa using h1
    cases hb : badE l 0 with
    | some j => rw [hb] at h; injection h with h _; injection h with h _; cases h
    | none =>
      rw [hb] at h
      change takeB s l = _ at h
      unfold takeB at h
      by_cases h2 : (goE (s.ver + 1) s.lv s.vs l 0).1.1 = 0
      · rw [if_neg (by rw [h2]; simp)] at h
        by_cases h3 : fitsB (nextS s (goE (s.ver + 1) s.lv s.vs l 0).2.1 (goE (s.ver + 1) s.lv s.vs l 0).2.2) = true
        · rw [if_pos h3] at h
          injection h with e1 e2
          injection e1 with _ e1
          exact ⟨⟨hok, bad_none hb, h2, e2.symm, by rw [← e2]; exact h3⟩, e1.symm⟩
        · rw [if_neg h3] at h; injection h with h _; injection h with h _; cases h
      · rw [if_pos h2] at h
        injection h with h _
        rw [h] at h2; exact absurd rfl h2
theorem tkn_gt {s t : St} {l : List Ed} (h : Tkn s t l) (hsz : SzT s.lv) (hwf : WfT s.lv) (hw : WfE l) : GT t.lv t.vs t.ver ∧ t.ver = s.ver + 1 ∧ mayS t = true := by
  obtain ⟨g0, hv⟩ := okS_gt h.ok hsz hwf
  have g := go_gt hv l 0 g0 h.may hw
  have e := h.eq
  have hlv : t.lv = (goE (s.ver + 1) s.lv s.vs l 0).2.1 := by rw [e]; rfl
  have hvs : t.vs = (goE (s.ver + 1) s.lv s.vs l 0).2.2 := by rw [e]; rfl
  have hver : t.ver = s.ver + 1 := by rw [e]; rfl
  have hby : t.by_ = s.by_ := by rw [e]; rfl
  have hke : t.ke = s.ke := by rw [e]; rfl
  rw [← hlv, ← hvs] at g
  refine ⟨by rw [hver]; exact g, hver, ?_⟩
  have hm := okS_may h.ok
  obtain ⟨v1, v2⟩ := verB_iff.1 hv
  have r1 : rngB t.ver 2147483647 = true := by unfold rngB; rw [hver, decide_eq_true v1, decide_eq_true v2]; rfl
  have hm' := hm
  unfold mayS at hm'
  simp only [Bool.and_eq_true] at hm'
  have r2 : rngB t.by_ 65536 = true := by rw [hby]; exact hm'.1.1.1.1.2
  have r3 : rngB t.ke 1024 = true := by rw [hke]; exact hm'.1.1.1.2
  have r4 : versB t.vs t.ver 16 = true := by
    unfold versB
    rw [List.all_eq_true]
    intro b hb
    rw [hver]
    exact decide_eq_true (g.le b (List.mem_range.1 hb))
  unfold mayS
  rw [r1, r2, r3, r4, g.may, h.fit]; rfl
theorem get_take {s t : St} {l : List Ed} (h : Tkn s t l) (hsz : SzT s.lv) (hwf : WfT s.lv) (hw : WfE l) (k : List UInt8) : Wt t k = foldW k t.ver (Wt s k) l := by
  obtain ⟨g, hver, hmt⟩ := tkn_gt h hsz hwf hw
  obtain ⟨g0, hv⟩ := okS_gt h.ok hsz hwf
  cases hk : isB k with
  | true =>
    rw [wt_key hmt hk, wt_key (okS_may h.ok) hk, hver]
    have e := h.eq
    have hlv : t.lv = (goE (s.ver + 1) s.lv s.vs l 0).2.1 := by rw [e]; rfl
    rw [hlv]
    exact go_fold hv k l 0 g0 h.may hw h.go
  | false =>
    rw [wt_nokey hmt hk, wt_nokey (okS_may h.ok) hk, fold_skip fun x hx e => by have := mayE_key (h.may x hx); rw [e, hk] at this; cases this]
/-- What is told of a key is what the list of all items says. -/
def absN (v : V7.V) : Nat := if vB v eV0 = true then 6 else 0
theorem gt_val {lv : Nat → List It} {vs : Nat → Int} (h : mayTs lv vs 16 = true) (k : List UInt8) : (Gt lv k).1 = valL (allS lv) k ∧ (Gt lv k).2.2 = absN (valL (allS lv) k) := by
  rw [← gTI_val h]
  unfold Gt
  by_cases hk : ∃ x ∈ allS lv, x.key = k
  · obtain ⟨x, hx, rfl⟩ := hk
    obtain ⟨b, hb, hxb⟩ := (allS_mem h).1 hx
    obtain ⟨e1, e2⟩ := gT_found h hb hxb
    rw [e1, e2, if_pos rfl]
    exact ⟨rfl, by unfold absN; rw [if_neg fun q => all_v h x hx (vB_iff.1 q)]⟩
  · have hn : ∀ b, b < 16 → ∀ x ∈ lv b, x.key ≠ k := fun b hb x hx e => hk ⟨x, (allS_mem h).2 ⟨b, hb, hx⟩, e⟩
    obtain ⟨e1, e2⟩ := gT_none h hn
    rw [e1, e2, if_neg (by decide)]
    exact ⟨rfl, rfl⟩
theorem with_perm {l : List It} {x : It} (h : ∀ z ∈ l, z.key ≠ x.key) : (withL l x).Perm (l ++ [x]) := by
  unfold withL
  have e : l.filter (fun y => ltB x.key y.key) = l.filter (fun y => !ltB y.key x.key) := by
    apply List.filter_congr
    intro y hy
    cases h1 : ltB y.key x.key with
    | true =>
      cases h2 : ltB x.key y.key with
      | true => have := lt_tr h1 h2; rw [ltB_self] at this; cases this
      | false => rfl
    | false =>
      cases h2 : ltB x.key y.key with
      | true => rfl
      | false => exact absurd (ltB_tri h1 h2) (h y hy)
  rw [e]
  refine List.perm_middle.trans ?_
  refine ((List.filter_append_perm (fun y => ltB y.key x.key) l).cons x).trans ?_
  exact (List.perm_append_singleton x l).symm
theorem fold_perm : ∀ (l acc : List It), l.Pairwise (fun a b => a.key ≠ b.key) → (∀ x ∈ l, ∀ z ∈ acc, z.key ≠ x.key) → (l.foldl withL acc).Perm (acc ++ l)
  | [], acc, _, _ => by simp
  | x :: l, acc, hp, ha => by
    obtain ⟨h1, h2⟩ := List.pairwise_cons.1 hp
    rw [List.foldl_cons]
    refine (fold_perm l _ h2 fun y hy z hz => ?_).trans ?_
    · rcases (with_mem_new (ha x (by simp))).1 hz with hz | rfl
      · exact ha y (by simp [hy]) z hz
      · exact h1 y hy
    · refine ((with_perm (ha x (by simp))).append_right l).trans ?_
      simp
theorem allS_perm {lv : Nat → List It} {vs : Nat → Int} (h : mayTs lv vs 16 = true) : (allS lv).Perm (allN lv 16) := by
  have h2 : (allS lv).Perm ([] ++ allN lv 16) := fold_perm (allN lv 16) [] (allN_ne h 16 (Nat.le_refl _)) (by simp)
  rwa [List.nil_append] at h2
theorem perm_sum {l m : List Nat} (h : l.Perm m) : l.sum = m.sum := by
  induction h with
  | nil => rfl
  | cons x _ ih => simp [ih]
  | swap x y l => simp; omega
  | trans _ _ h1 h2 => exact h1.trans h2
/-- What an item has beside its version. -/
def kvI (x : It) : List UInt8 × V7.V := (x.key, x.v)
theorem kv_eq {lvA lvB : Nat → List It} {vsA vsB : Nat → Int} (hA : mayTs lvA vsA 16 = true) (hB : mayTs lvB vsB 16 = true) (h : ∀ k, isB k = true → valL (allS lvA) k = valL (allS lvB) k) :
    (allS lvA).map kvI = (allS lvB).map kvI := by
  have key : ∀ (lv : Nat → List It) (vs : Nat → Int), mayTs lv vs 16 = true → ∀ p : List UInt8 × V7.V, p ∈ (allS lv).map kvI ↔ (isB p.1 = true ∧ p.2 ≠ eV0 ∧ valL (allS lv) p.1 = p.2) := by
    intro lv vs hm p
    constructor
    · intro hp
      obtain ⟨x, hx, rfl⟩ := List.mem_map.1 hp
      exact ⟨allS_key hm hx, all_v hm x hx, valL_mem (allS_sorted hm) hx⟩
    · rintro ⟨hk, hne, hv⟩
      by_cases hx : ∃ x ∈ allS lv, x.key = p.1
      · obtain ⟨x, hx, hxk⟩ := hx
        have := valL_mem (allS_sorted hm) hx
        rw [hxk, hv] at this
        exact List.mem_map.2 ⟨x, hx, by unfold kvI; rw [hxk, ← this]⟩
      · rw [valL_none fun x hx' e => hx ⟨x, hx', e⟩] at hv
        exact absurd hv.symm hne
  have srt : ∀ (lv : Nat → List It) (vs : Nat → Int), mayTs lv vs 16 = true → ((allS lv).map kvI).Pairwise (fun a b => ltB a.1 b.1 = true) := fun lv vs hm => by
    rw [List.pairwise_map]; exact allS_sorted hm
  refine srt_ext (key := Prod.fst) (lt := ltB) (fun h1 h2 => lt_tr h1 h2) ltB_self (srt lvA vsA hA) (srt lvB vsB hB) fun p => ?_
  rw [key lvA vsA hA, key lvB vsB hB]
  constructor
  · rintro ⟨h1, h2, h3⟩; exact ⟨h1, h2, by rw [← h p.1 h1]; exact h3⟩
  · rintro ⟨h1, h2, h3⟩; exact ⟨h1, h2, by rw [h p.1 h1]; exact h3⟩
theorem fits_same {s t : St} (hA : mayTs s.lv s.vs 16 = true) (hB : mayTs t.lv t.vs 16 = true) (h : ∀ k, isB k = true → valL (allS s.lv) k = valL (allS t.lv) k) (hb : s.by_ = t.by_) (hk : s.ke = t.ke) : fitsB s = fitsB t := by
  have e := kv_eq hA hB h
  have ew : wtL (allN s.lv 16) = wtL (allN t.lv 16) := by
    have w1 : ∀ l : List It, wtL l = ((l.map kvI).map fun p => p.1.length + (V7.encL p.2).length).sum := fun l => by unfold wtL; rw [List.map_map]; rfl
    have p1 : wtL (allN s.lv 16) = wtL (allS s.lv) := by unfold wtL; exact (perm_sum ((allS_perm hA).map wtI)).symm
    have p2 : wtL (allN t.lv 16) = wtL (allS t.lv) := by unfold wtL; exact (perm_sum ((allS_perm hB).map wtI)).symm
    rw [p1, p2, w1, w1, e]
  have el : (allN s.lv 16).length = (allN t.lv 16).length := by
    rw [← (allS_perm hA).length_eq, ← (allS_perm hB).length_eq, ← List.length_map (f := kvI), e, List.length_map]
  unfold fitsB
  rw [sumT_wt hA, sumT_wt hB, sumT_len hA, sumT_len hB, ew, el, hb, hk]
theorem mayB_zero : V7.mayB eV0 = true := by decide
theorem um_may {lvA lvB : Nat → List It} {vsA vsB : Nat → Int} (hA : mayTs lvA vsA 16 = true) (hB : mayTs lvB vsB 16 = true) : ∀ e ∈ undoM (allS lvA) (allS lvB), mayE e = true ∧ (e.v = eV0 ∨ ∃ x ∈ allS lvA, e.v = x.v) := by
  intro e he
  obtain ⟨-, u2⟩ := um_all _ (allS lvA) (allS lvB) (Nat.le_refl _) (allS_sorted hA) (allS_sorted hB) (all_v hA) (all_v hB)
  obtain ⟨⟨z, hz, hzk⟩, -, hv⟩ := (u2 e).1 he
  have h1 : isB e.key = true := by
    rw [← hzk]
    rcases List.mem_append.1 hz with hz | hz
    · exact allS_key hA hz
    · exact allS_key hB hz
  by_cases hx : ∃ x ∈ allS lvA, x.key = e.key
  · obtain ⟨x, hx, hxk⟩ := hx
    have hvx : e.v = x.v := by rw [hv, ← hxk]; exact valL_mem (allS_sorted hA) hx
    obtain ⟨b, hb, hxb⟩ := (allS_mem hA).1 hx
    have hmx := isL_may (isT hA hb) x hxb
    unfold mayI at hmx
    simp only [Bool.and_eq_true] at hmx
    refine ⟨?_, .inr ⟨x, hx, hvx⟩⟩
    unfold mayE
    rw [h1, hvx, hmx.2.1]; rfl
  · have hv0 : e.v = eV0 := by rw [hv]; exact valL_none fun x hx' q => hx ⟨x, hx', q⟩
    refine ⟨?_, .inl hv0⟩
    unfold mayE
    rw [h1, hv0, mayB_zero]; rfl
theorem um_sz {lvA lvB : Nat → List It} {vsA vsB : Nat → Int} (hA : mayTs lvA vsA 16 = true) (hB : mayTs lvB vsB 16 = true) : SzE (undoM (allS lvA) (allS lvB)) := fun e he => by
  have := (um_may hA hB e he).1
  exact ⟨isB_max (mayE_key this), mayB_max (mayE_v this)⟩
theorem um_wf {lvA lvB : Nat → List It} {vsA vsB : Nat → Int} (hA : mayTs lvA vsA 16 = true) (hB : mayTs lvB vsB 16 = true) (hw : WfT lvA) : WfE (undoM (allS lvA) (allS lvB)) := fun e he => by
  have h1 := um_may hA hB e he
  have hm := mayE_v h1.1
  have hk : 0 ≤ e.v.k ∧ e.v.k ≤ 3 := by
    unfold V7.mayB at hm
    simp only [decide_eq_true_eq] at hm
    rcases hm with ⟨q, _⟩ | ⟨q, _⟩ | ⟨q, _⟩ | ⟨q, _⟩ <;> omega
  rcases h1.2 with q | ⟨x, hx, q⟩
  · rw [q]; exact ⟨by simp [eV0], by simp [eV0, I64]⟩
  · obtain ⟨b, hb, hxb⟩ := (allS_mem hA).1 hx
    have := hw b hb x hxb
    exact ⟨⟨by omega, by omega⟩, by rw [q]; exact this⟩
/-- What comes of undoing: it is refused for want of room, or all is as it was. -/
theorem undo_tkn {s t : St} (hms : mayS s = true) (hmt : mayS t = true) (hsz : SzT t.lv) (hwf : WfT t.lv) (hwfs : WfT s.lv) (hb : t.by_ = s.by_) (hk : t.ke = s.ke) (hlt : t.ver < 2147483647) :
    (∃ i, takeE t (undoM (allS s.lv) (allS t.lv)) = ((5, i), stQ)) ∨ ∃ z, takeE t (undoM (allS s.lv) (allS t.lv)) = ((0, 0), z) ∧ ∀ k, (Wt z k).1 = (Wt s k).1 ∧ (Wt z k).2.2 = (Wt s k).2.2 := by
  have hA := mayS_t hms
  have hB := mayS_t hmt
  have hok : okS t = true := by unfold okS; rw [hmt, decide_eq_true hlt]; rfl
  obtain ⟨g0, hv⟩ := okS_gt hok hsz hwf
  obtain ⟨U, hU⟩ : ∃ U, U = undoM (allS s.lv) (allS t.lv) := ⟨_, rfl⟩
  have hmU : ∀ x ∈ U, mayE x = true := by rw [hU]; exact fun x hx => (um_may hA hB x hx).1
  have hwU : WfE U := by rw [hU]; exact um_wf hA hB hwfs
  obtain ⟨hsU, hU2⟩ := um_all _ (allS s.lv) (allS t.lv) (Nat.le_refl _) (allS_sorted hA) (allS_sorted hB) (all_v hA) (all_v hB)
  rw [← hU] at hsU hU2 ⊢
  have hbad : badE U 0 = none := bad_all hmU
  rcases go_err hv U 0 g0 hmU hwU with h0 | h5
  · right
    obtain ⟨⟨⟨c, i⟩, lv', vs'⟩, hgo⟩ : ∃ p, p = goE (t.ver + 1) t.lv t.vs U 0 := ⟨_, rfl⟩
    have g := go_gt hv U 0 g0 hmU hwU
    have hval : ∀ k, isB k = true → (Gt lv' k).1 = valL (allS s.lv) k ∧ (Gt lv' k).2.2 = absN (valL (allS s.lv) k) := by
      intro k hkB
      have hf := go_fold hv k U 0 g0 hmU hwU h0
      rw [← hgo] at hf
      change Gt lv' k = _ at hf
      rw [hf]
      by_cases hx : ∃ x ∈ U, x.key = k
      · obtain ⟨x, hx, hxk⟩ := hx
        rw [fold_one hsU x hx hxk]
        obtain ⟨-, -, hxv⟩ := (hU2 x).1 hx
        rw [hxk] at hxv
        rw [← hxv]
        by_cases hx0 : x.v.k = 0
        · have e0 : x.v = eV0 := by
            have := mayE_v (hmU x hx)
            unfold V7.mayB at this
            simp only [decide_eq_true_eq] at this
            rcases this with ⟨_, q2, q3⟩ | ⟨q, _⟩ | ⟨q, _⟩ | ⟨q, _⟩
            · exact vB_iff.1 (by unfold vB; rw [hx0, q2, q3]; rfl)
            · omega
            · omega
            · omega
          rw [if_pos hx0, e0]; exact ⟨rfl, rfl⟩
        · rw [if_neg hx0]; exact ⟨rfl, by unfold absN; rw [if_neg fun q => hx0 (by rw [vB_iff.1 q]; rfl)]⟩
      · have hx' : ∀ x ∈ U, x.key ≠ k := fun x h1 h2 => hx ⟨x, h1, h2⟩
        rw [fold_skip hx']
        have e : valL (allS t.lv) k = valL (allS s.lv) k := by
          by_cases hz : ∃ z ∈ allS s.lv ++ allS t.lv, z.key = k
          · cases hvb : vB (valL (allS s.lv) k) (valL (allS t.lv) k) with
            | true => exact (vB_iff.1 hvb).symm
            | false => exact absurd rfl (hx' ⟨k, valL (allS s.lv) k⟩ ((hU2 _).2 ⟨hz, hvb, rfl⟩))
          · rw [valL_none fun x h1 h2 => hz ⟨x, List.mem_append.2 (.inr h1), h2⟩, valL_none fun x h1 h2 => hz ⟨x, List.mem_append.2 (.inl h1), h2⟩]
        have := gt_val hB k
        rw [e] at this
        exact this
    have g' : GT lv' vs' (t.ver + 1) := by rw [← hgo] at g; exact g
    have hc0 : c = 0 := by rw [← hgo] at h0; exact h0
    have hfit : fitsB (nextS t lv' vs') = true := by
      have : fitsB s = fitsB (nextS t lv' vs') := fits_same hA g'.may (fun k hkB => (hval k hkB).1.symm.trans (gt_val g'.may k).1) (by show s.by_ = t.by_; rw [hb]) (by show s.ke = t.ke; rw [hk])
      rw [← this]
      exact mayS_fits hms
    have hz : takeE t U = ((0, 0), nextS t lv' vs') := by
      rw [take_go hok hbad]
      unfold takeB
      rw [← hgo]
      show (if c ≠ 0 then _ else _) = _
      rw [if_neg (by rw [hc0]; simp)]
      show (if fitsB (nextS t lv' vs') = true then _ else _) = _
      rw [if_pos hfit]
    refine ⟨_, hz, fun k => ?_⟩
    obtain ⟨tk, -⟩ := take_tkn hz
    obtain ⟨-, -, hmz⟩ := tkn_gt tk hsz hwf hwU
    cases hkB : isB k with
    | true =>
      rw [wt_key hmz hkB, wt_key hms hkB]
      have h1 := hval k hkB
      have h2 := gt_val hA k
      exact ⟨h1.1.trans h2.1.symm, h1.2.trans h2.2.symm⟩
    | false => rw [wt_nokey hmz hkB, wt_nokey hms hkB]; exact ⟨rfl, rfl⟩
  · left
    refine ⟨(goE (t.ver + 1) t.lv t.vs U 0).1.2, ?_⟩
    rw [take_err (c := 5) (i := (goE (t.ver + 1) t.lv t.vs U 0).1.2) (lv := (goE (t.ver + 1) t.lv t.vs U 0).2.1) (vs := (goE (t.ver + 1) t.lv t.vs U 0).2.2) hok hbad (by rw [← h5]) (by decide)]
end Go.Proofs.YtbdfcgffkonbiaaDoor
