/- Stores: Take. Written by wip/tools/gen13j.py. -/
import Derived.Test.YtbdfcgffkonbiaaDoorQST39
namespace Go.Proofs.YtbdfcgffkonbiaaDoor
open Go Go.RowKit
set_option linter.unusedVariables false
set_option linter.unusedSimpArgs false
theorem edC_len (x : Ed) : (edC x).length = 4 := rfl
def RdE (w : World) (v : Value) (l : List Ed) : Prop := RdK 4 edC w v l
def SzE (l : List Ed) : Prop := ∀ x ∈ l, x.key.length ≤ maxLen ∧ x.v.s.length ≤ maxLen
theorem ed_cells {w : World} {b o : Nat} {x : Ed} (h : ∀ i, i < 4 → w.cell? ⟨b, o + i, none⟩ = (edC x)[i]?) :
    w.cell? ⟨b, o, none⟩ = some (.string (str x.key)) ∧ w.cell? ⟨b, o + 1, none⟩ = some (.int .i64 x.v.k) ∧ w.cell? ⟨b, o + 2, none⟩ = some (.int .i64 x.v.i) ∧ w.cell? ⟨b, o + 3, none⟩ = some (.string (str x.v.s)) :=
  ⟨h 0 (by omega), h 1 (by omega), h 2 (by omega), h 3 (by omega)⟩
theorem lv_store {w : World} {g : Nat} {cs : Array Value} {t : TypeId} (h : w.heap[g]? = some (.cells cs t (0, 0))) (hs : cs.size = 35) : (loadVar 28 ⟨g, 0, none⟩).run Tryd.prog w = .ok (.agg cs) w :=
  run_loadVar_row w g t 28 _ (0, 0) _ h Tryd.underlying28 rfl (infoS hs)
theorem take_door (n : Nat) (e a x y : Int) (C0 : Array Value) (hC0 : C0.size = 35) (W : World) (tmps : Array Value) (h4 : tmps.getD 4 undef = .pointer (some ⟨n, 0, none⟩)) (h5 : tmps.getD 5 undef = .pointer (some ⟨n + 1, 0, none⟩)) (h6 : tmps.getD 6 undef = .pointer (some ⟨n + 2, 0, none⟩))
    (q0 : W.heap[n]? = some (.cells C0 28 (0, 0))) (q1 : W.heap[n + 1]? = some (.cells #[.int .i64 x] 30 (0, 0))) (q2 : W.heap[n + 2]? = some (.cells #[.int .i64 y] 3 (0, 0))) (R : Ending → World → Prop)
    (hR : ∀ W', Below n W W' → R (.returned (.tuple #[.agg zS, .int .i64 e, .int .i64 a])) W') :
    Leaves Tryd.prog Tryd.f34 tmps R [{ target := .fn (.func 73) #[.pointer (some ⟨n, 0, none⟩), .pointer (some ⟨n + 1, 0, none⟩), .pointer (some ⟨n + 2, 0, none⟩)], args := #[] }] (.panicking (faultC e a)) W := by
  refine leaves_cons (f := 73) (args := #[.pointer (some ⟨n, 0, none⟩), .pointer (some ⟨n + 1, 0, none⟩), .pointer (some ⟨n + 2, 0, none⟩)]) (by simp) (by simp [go_sem]) ?_
  refine (take1_catch n e a C0 hC0 x y W q0 q1 q2).mono ?_
  rintro en u' w'' ⟨rfl, rfl, r0, r1, r2, g⟩
  show Leaves _ _ _ _ [] .returning _
  exact ⟨_, results_c3 rfl _ _ n (n + 1) (n + 2) _ _ _ h4 h5 h6 (lv_store r0 rfl) (lv_errno r1) (lv_int r2), hR _ g⟩
theorem take_back (n : Nat) (v x : Value) (C : Array Value) (hC : C.size = 35) (W : World) (tmps : Array Value) (h4 : tmps.getD 4 undef = .pointer (some ⟨n, 0, none⟩)) (h5 : tmps.getD 5 undef = .pointer (some ⟨n + 1, 0, none⟩)) (h6 : tmps.getD 6 undef = .pointer (some ⟨n + 2, 0, none⟩))
    (q0 : W.heap[n]? = some (.cells C 28 (0, 0))) (q1 : W.heap[n + 1]? = some (.cells #[v] 30 (0, 0))) (q2 : W.heap[n + 2]? = some (.cells #[x] 3 (0, 0))) (R : Ending → World → Prop)
    (hR : ∀ W', Below W.heap.size W W' → R (.returned (.tuple #[.agg C, v, x])) W') :
    Leaves Tryd.prog Tryd.f34 tmps R [{ target := .fn (.func 73) #[.pointer (some ⟨n, 0, none⟩), .pointer (some ⟨n + 1, 0, none⟩), .pointer (some ⟨n + 2, 0, none⟩)], args := #[] }] .returning W := by
  refine leaves_cons (f := 73) (args := #[.pointer (some ⟨n, 0, none⟩), .pointer (some ⟨n + 1, 0, none⟩), .pointer (some ⟨n + 2, 0, none⟩)]) (by simp) (by simp [go_sem]) ?_
  refine (take1_idle ⟨n, 0, none⟩ ⟨n + 1, 0, none⟩ ⟨n + 2, 0, none⟩ W).mono ?_
  rintro en u' w'' ⟨rfl, rfl, g⟩
  show Leaves _ _ _ _ [] .returning _
  exact ⟨_, results_c3 rfl _ _ n (n + 1) (n + 2) _ _ _ h4 h5 h6 (lv_store ((g.block _ (lt_of_block q0)).trans q0) hC) (lv_errno ((g.block _ (lt_of_block q1)).trans q1)) (lv_int ((g.block _ (lt_of_block q2)).trans q2)), hR _ g⟩
/-- A reading of a store that lives through changes of the blocks of which P holds. -/
structure SafeS (P : Nat → Prop) (w : World) (cs : Array Value) (s : St) : Prop where
  size : cs.size = 35
  tr : SafeP P w (tC cs) s.lv s.vs
  ver : cs[32]? = some (.int .i64 s.ver)
  by_ : cs[33]? = some (.int .i64 s.by_)
  ke : cs[34]? = some (.int .i64 s.ke)
theorem SafeS.rd {P : Nat → Prop} {w : World} {cs : Array Value} {s : St} (h : SafeS P w cs s) : RdS w cs s := ⟨h.size, h.tr.rd, h.ver, h.by_, h.ke⟩
theorem SafeS.later {P : Nat → Prop} {w w' : World} {cs : Array Value} {s : St} (h : SafeS P w cs s) (hs : w.heap.size ≤ w'.heap.size) (hk : ∀ k, k < w.heap.size → ¬ P k → w'.heap[k]? = w.heap[k]?) : SafeS P w' cs s := ⟨h.size, h.tr.later hs hk, h.ver, h.by_, h.ke⟩
theorem SafeS.below {P : Nat → Prop} {w w' : World} {cs : Array Value} {s : St} (h : SafeS P w cs s) (g : Below w.heap.size w w') : SafeS P w' cs s := ⟨h.size, h.tr.below g, h.ver, h.by_, h.ke⟩
theorem safe_zero (P : Nat → Prop) (w : World) : SafeS P w zS stQ := ⟨rfl, fun W _ => by rw [zS_t]; exact rdt_zero W, rfl, rfl, rfl⟩
theorem RdS.safe {P : Nat → Prop} {w : World} {cs : Array Value} {s : St} (h : RdS w cs s) (hp : ∀ k, P k → w.heap.size ≤ k) : SafeS P w cs s := ⟨h.size, h.tr.safe hp, h.ver, h.by_, h.ke⟩
def TakeZ (w : World) (cs : Array Value) (s : St) (l : List Ed) (e : Ending) (w' : World) : Prop :=
  ∃ C, e = .returned (.tuple #[.agg C, .int .i64 ((takeE s l).1.1 : Int), .int .i64 ((takeE s l).1.2 : Int)]) ∧ Hid (∀ P : Nat → Prop, (∀ k, P k → k < w.heap.size) → SafeP P w (tC cs) s.lv s.vs → SafeS P w' C (takeE s l).2) ∧ Below w.heap.size w w'
theorem TakeZ.no {w W : World} {cs : Array Value} {s : St} {l : List Ed} {c i : Nat} (h : takeE s l = ((c, i), stQ)) (g : Below w.heap.size w W) : TakeZ w cs s l (.returned (.tuple #[.agg zS, .int .i64 (c : Int), .int .i64 (i : Int)])) W := by
  unfold TakeZ
  rw [h]
  exact ⟨zS, rfl, Lib.hid fun P _ _ => safe_zero P W, g⟩
theorem TakeZ.yes {w W : World} {cs : Array Value} {s t : St} {l : List Ed} {C : Array Value} (h : takeE s l = ((0, 0), t)) (hC : ∀ P : Nat → Prop, (∀ k, P k → k < w.heap.size) → SafeP P w (tC cs) s.lv s.vs → SafeS P W C t) (g : Below w.heap.size w W) : TakeZ w cs s l (.returned (.tuple #[.agg C, .int .i64 0, .int .i64 0])) W := by
  unfold TakeZ
  rw [h]
  exact ⟨C, rfl, Lib.hid hC, g⟩
theorem noP_rd {w : World} {cs : Array Value} {lv : Nat → List It} {vs : Nat → Int} (h : RdT w cs lv vs) : SafeP (fun _ => False) w cs lv vs := h.safe fun _ h => h.elim
theorem take_err {s : St} {l : List Ed} {c i : Nat} {lv : Nat → List It} {vs : Nat → Int} (h : okS s = true) (hb : badE l 0 = none) (hg : goE (s.ver + 1) s.lv s.vs l 0 = ((c, i), lv, vs)) (hc : c ≠ 0) : takeE s l = ((c, i), stQ) := by
  rw [take_go h hb]; unfold takeB; rw [hg, if_pos hc]
theorem take_fit {s : St} {l : List Ed} {lv : Nat → List It} {vs : Nat → Int} (h : okS s = true) (hb : badE l 0 = none) (hg : goE (s.ver + 1) s.lv s.vs l 0 = ((0, 0), lv, vs)) (hf : fitsB (nextS s lv vs) = true) : takeE s l = ((0, 0), nextS s lv vs) := by
  rw [take_go h hb]; unfold takeB; rw [hg, if_neg (by simp), if_pos hf]
theorem take_unfit {s : St} {l : List Ed} {lv : Nat → List It} {vs : Nat → Int} (h : okS s = true) (hb : badE l 0 = none) (hg : goE (s.ver + 1) s.lv s.vs l 0 = ((0, 0), lv, vs)) (hf : fitsB (nextS s lv vs) = false) : takeE s l = ((17, l.length), stQ) := by
  rw [take_go h hb]; unfold takeB; rw [hg, if_neg (by simp), if_neg (by rw [hf]; decide)]
/-- The blocks of a call that takes edits: the store's, and the results'. -/
def Own4 (n : Nat) : Nat → Prop := fun k => n ≤ k ∧ k < n + 4
theorem own4_lt {P : Nat → Prop} {n m : Nat} (hP : ∀ k, P k → k < n) (h : n + 4 ≤ m) : ∀ k, (P k ∨ Own4 n k) → k < m := by
  intro k hk
  rcases hk with hk | hk
  · have := hP k hk; omega
  · have := hk.2; omega
structure Tk (Sf : (Nat → Prop) → Prop) (n : Nat) (s : St) (V1 : Int) (l : List Ed) (k : Nat) (C : Array Value) (lv : Nat → List It) (vs : Nat → Int) (w : World) : Prop where
  size : C.size = 35
  c32 : C[32]? = some (.int .i64 V1)
  c33 : C[33]? = some (.int .i64 s.by_)
  c34 : C[34]? = some (.int .i64 s.ke)
  q1 : w.heap[n]? = some (.cells C 28 (0, 0))
  q2 : w.heap[n + 1]? = some (.cells zS 28 (0, 0))
  q3 : w.heap[n + 2]? = some (.cells #[.int .i64 0] 30 (0, 0))
  q4 : w.heap[n + 3]? = some (.cells #[.int .i64 0] 3 (0, 0))
  none : Sf fun _ => False
  safe : ∀ P : Nat → Prop, (∀ k, P k → k < n) → Sf P → SafeP (fun k => P k ∨ Own4 n k) w (tC C) lv vs
  gt : GT lv vs V1
  vr : verB V1 = true
  ve : V1 = s.ver + 1
  go : goE V1 s.lv s.vs l 0 = goE V1 lv vs (l.drop k) k
theorem tC_set {cs : Array Value} {i : Nat} {v : Value} (h : cs.size = 35) (hi : 32 ≤ i) : tC (cs.setIfInBounds i v) = tC cs := by
  apply Array.ext_getElem?
  intro j
  rcases Nat.lt_or_ge j 32 with hj | hj
  · rw [tC_at hj, tC_at hj, Array.getElem?_setIfInBounds_ne (by omega)]
  · rw [Array.getElem?_eq_none (by rw [tC_size (by simpa using h)]; exact hj), Array.getElem?_eq_none (by rw [tC_size h]; exact hj)]
theorem tk_start {w wr W2 : World} {cs : Array Value} {s : St} {V1 : Int} (h : RdS w cs s) (hok : okS s = true) (hsz : SzT s.lv) (hwf : WfT s.lv) (hV : V1 = s.ver + 1) (hW : W2 = wr.setCell ⟨w.heap.size, 32, none⟩ (.int .i64 V1)) (bel : Below w.heap.size w wr)
    (q1 : wr.heap[w.heap.size]? = some (.cells cs 28 (0, 0))) (q2 : wr.heap[w.heap.size + 1]? = some (.cells zS 28 (0, 0))) (q3 : wr.heap[w.heap.size + 2]? = some (.cells #[.int .i64 0] 30 (0, 0))) (q4 : wr.heap[w.heap.size + 3]? = some (.cells #[.int .i64 0] 3 (0, 0))) (l : List Ed) :
    Tk (fun P => SafeP P w (tC cs) s.lv s.vs) w.heap.size s V1 l 0 (cs.setIfInBounds 32 (.int .i64 V1)) s.lv s.vs W2 := by
  obtain ⟨g1, g2⟩ := okS_gt hok hsz hwf
  have hs := h.size
  subst hV hW
  refine ⟨by simpa using hs, Array.getElem?_setIfInBounds_self_of_lt (by omega), by rw [Array.getElem?_setIfInBounds_ne (by omega)]; exact h.by_, by rw [Array.getElem?_setIfInBounds_ne (by omega)]; exact h.ke, set_at q1, (set_old (by omega)).trans q2, (set_old (by omega)).trans q3, (set_old (by omega)).trans q4, noP_rd h.tr, fun P hP hS => ?_, g1, g2, rfl, rfl⟩
  rw [tC_set hs (Nat.le_refl _)]
  have h1 : SafeP (fun k => P k ∨ Own4 w.heap.size k) w (tC cs) s.lv s.vs := fun W hW => hS W fun k hk hn => hW k hk (fun h => h.elim hn fun h => absurd h.1 (by omega))
  exact h1.later (by have := bel.size; simp; omega) fun k hk _ => (set_old (by omega)).trans (bel.block k hk)
theorem Tk.rds {Sf : (Nat → Prop) → Prop} {n : Nat} {s : St} {V1 : Int} {l : List Ed} {k : Nat} {C : Array Value} {lv : Nat → List It} {vs : Nat → Int} {w : World} (h : Tk Sf n s V1 l k C lv vs w) : RdS w C (nextS s lv vs) :=
  ⟨h.size, (h.safe _ (fun _ h => h.elim) h.none).rd, by rw [h.c32, h.ve]; rfl, h.c33, h.c34⟩
theorem tk_next {Sf : (Nat → Prop) → Prop} {n : Nat} {s : St} {V1 : Int} {l : List Ed} {k : Nat} {C : Array Value} {lv : Nat → List It} {vs : Nat → Int} {w w3 : World} (h : Tk Sf n s V1 l k C lv vs w) {hlt : k < l.length} {x : Ed} (hx : l[k] = x) (he : apE lv vs x V1 = 0) (hm : mayE x = true) (hw : x.v.Wf) (g : Below w.heap.size w w3)
    {ct : Array Value} (hct : ct.size = 32) (hS : ∀ P : Nat → Prop, (∀ k, P k → k < n) → Sf P → SafeP (fun k => P k ∨ Own4 n k) w3 ct (apLv lv vs x V1) (apVs lv vs x V1)) :
    Tk Sf n s V1 l (k + 1) (putA C 0 ct.toList) (apLv lv vs x V1) (apVs lv vs x V1) (w3.setCells n 0 ct.toList) := by
  have l4 := lt_of_block h.q4
  have b := fun k hk => g.block k hk
  refine ⟨by rw [putA_size]; exact h.size, (putA_rest hct (by omega)).trans h.c32, (putA_rest hct (by omega)).trans h.c33, (putA_rest hct (by omega)).trans h.c34, sets_row _ _ _ _ ((b _ (by omega)).trans h.q1), (sets_other (by omega) _ _ _).trans ((b _ (by omega)).trans h.q2), (sets_other (by omega) _ _ _).trans ((b _ (by omega)).trans h.q3), (sets_other (by omega) _ _ _).trans ((b _ (by omega)).trans h.q4), h.none, fun P hP hQ => ?_, h.gt.step hm hw h.vr he, h.vr, h.ve, ?_⟩
  · rw [tC_putA h.size hct]
    exact (hS P hP hQ).later (sets_below (B := 0) (w0 := w3) (Nat.zero_le _) _ _ _ (Below.refl 0 w3)).size fun k hk hp => sets_other (fun e => hp (.inr (by subst e; exact ⟨Nat.le_refl _, by omega⟩))) _ _ _
  · rw [h.go, go_yes hlt (by rw [hx]; exact he), hx]
set_option maxRecDepth 100000 in
set_option maxHeartbeats 2000000 in
theorem take13_any (cs : Array Value) (s : St) (v : Value) (l : List Ed) (w : World) (tab : TabAt w) (h : RdS w cs s) (hsz : SzT s.lv) (hwf : WfT s.lv) (h100 : ∀ b, b < 16 → (s.lv b).length ≤ 100) (hl : RdE w v l) (hse : SzE l) (hwe : WfE l) :
    Calls Tryd.prog 34 #[.agg cs, v] w (TakeZ w cs s l) := by
  obtain ⟨ao, cap, rfl, hcp, hmx, hr0⟩ := RdK.open hl
  have hl : RdE w (.slice ao l.length cap) l := hr0
  clear hr0
  have hmf : ∀ (fn : Fn) (first cap : Array Value) (w : World), (Instr.makeFunc fn first cap).run Tryd.prog w = .ok (.func fn first cap) w := fun _ _ _ _ => rfl
  have z0 := zeroS_run
  have z1 := zS_ne
  have hs := h.size
  have hi := infoS h.size
  obtain ⟨q1, q2, q3, q4, z4⟩ := allocs4 w (.cells cs 28) (.cells zS 28) (.cells #[.int .i64 0] 30) (.cells #[.int .i64 0] 3)
  have bel : Below w.heap.size w ((((w.alloc (.cells cs 28)).alloc (.cells zS 28)).alloc (.cells #[.int .i64 0] 30)).alloc (.cells #[.int .i64 0] 3)) := ((((Below.refl _ w).alloc (Nat.le_refl _) _).alloc (by simp) _).alloc (by simp; omega) _).alloc (by simp; omega) _
  have T0 := tab.below bel
  have MY0 := fun W (g : Below w.heap.size w W) => may13_any cs s W (tab.below g) (h.below g (Nat.le_refl _)) hsz hwf h100
  obtain ⟨Z, hZ⟩ : ∃ Z, Z = TakeZ w cs s l := ⟨_, rfl⟩
  rw [← hZ]
  have HZ := Lib.hid hZ
  obtain ⟨V, hV⟩ : ∃ V, V = s.ver := ⟨_, rfl⟩
  have HV := Lib.hid (show cs[32]? = some (.int .i64 V) by rw [hV]; exact h.ver)
  have HVE := Lib.hid hV
  have HR := Lib.hid h
  have HL := Lib.hid hl
  have HSE := Lib.hid hse
  have HWE := Lib.hid hwe
  have HTB := Lib.hid tab
  have HSZ := Lib.hid hsz
  have HWF := Lib.hid hwf
  clear hZ z4 h hsz hwf h100 tab hV hl hse hwe
  cases hm : mayS s with
  | false =>
    rw [hm] at MY0
    have MY := Lib.hid MY0
    have HE := Lib.hid (show takeE s l = ((1, 0), stQ) from take_arg (by unfold okS; rw [hm]; rfl))
    clear MY0 hm
    go_enter_defers Tryd.func34, Tryd.ntmps34
    go_wp2_with ((with_reducible refine wpList_load_row (o := ⟨some 12, _, _, _, _, _⟩) rfl 28 (.tmp 2) rfl _ rfl _ cs (0, 0) _ q1 Tryd.underlying28 rfl hi ?_))
    refine (MY.out _ bel).mono ?_
    rintro e w1 ⟨rfl, g⟩
    replace q1 := (g.block _ (lt_of_block q1)).trans q1
    replace q2 := (g.block _ (lt_of_block q2)).trans q2
    replace q3 := (g.block _ (lt_of_block q3)).trans q3
    replace q4 := (g.block _ (lt_of_block q4)).trans q4
    have c32 := (block_cell q1 32).trans HV.out
    replace T0 := T0.below g
    replace bel := chain bel g
    clear g
    go_wp2_with (first | ((with_reducible refine (must_yes _ _ _).mono ?_); rintro e wm ⟨rfl, rfl⟩) | ((with_reducible refine (must_no _ _ _).mono ?_); rintro e wm ⟨rfl, rfl⟩))
    refine take_door (w.heap.size + 1) 1 0 0 0 zS rfl _ _ rfl rfl rfl q2 q3 q4 _ fun W' g' => ?_
    rw [HZ.out]
    exact TakeZ.no HE.out (bel.trans (g'.mono (by omega)))
  | true =>
    rw [hm] at MY0
    have MY := Lib.hid MY0
    have HM := Lib.hid hm
    clear MY0 hm
    by_cases hv : V < 2147483647
    · have tv : decide (V < 2147483647) = true := decide_eq_true hv
      have HOK := Lib.hid (show okS s = true by unfold okS; rw [HM.out, ← HVE.out, tv]; rfl)
      clear hv
      go_enter_defers Tryd.func34, Tryd.ntmps34
      go_wp2_with ((with_reducible refine wpList_load_row (o := ⟨some 12, _, _, _, _, _⟩) rfl 28 (.tmp 2) rfl _ rfl _ cs (0, 0) _ q1 Tryd.underlying28 rfl hi ?_))
      refine (MY.out _ bel).mono ?_
      rintro e w1 ⟨rfl, g⟩
      replace q1 := (g.block _ (lt_of_block q1)).trans q1
      replace q2 := (g.block _ (lt_of_block q2)).trans q2
      replace q3 := (g.block _ (lt_of_block q3)).trans q3
      replace q4 := (g.block _ (lt_of_block q4)).trans q4
      have c32 := (block_cell q1 32).trans HV.out
      replace T0 := T0.below g
      replace bel := chain bel g
      clear g
      go_wp2_with (first | ((with_reducible refine (must_yes _ _ _).mono ?_); rintro e wm ⟨rfl, rfl⟩) | ((with_reducible refine (must_no _ _ _).mono ?_); rintro e wm ⟨rfl, rfl⟩))
      have HB1 := Lib.hid bel
      have Q1 := Lib.hid q1
      have Q2 := Lib.hid q2
      have Q3 := Lib.hid q3
      have Q4 := Lib.hid q4
      have hl4 := lt_of_block q4
      clear q1 q2 q3 q4 bel T0 c32
      go_loopw [22] (fun i wr => ∃ k : Nat, k ≤ l.length ∧ i = .int .i64 (k : Int) ∧ Hid (badE l 0 = badE (l.drop k) k) ∧ Below w1.heap.size w1 wr) (fun i _ => l.length + 1 - (intOf i).toNat)
      case atStart => exact ⟨0, Nat.zero_le _, rfl, Lib.hid rfl, Below.refl _ _⟩
      case round =>
        obtain ⟨k, hk, rfl, HBD, belr⟩ := hrel
        have BR := Lib.hid (chain HB1.out belr)
        by_cases hlt : k < l.length
        · have hlti : (k : Int) < (l.length : Int) := by omega
          have RL : RdE wr (.slice ao l.length cap) l := HL.out.below BR.out (Nat.le_refl _)
          obtain ⟨b, off, rfl, hb, hca0⟩ := RdK.cell edC_len RL k hlt
          obtain ⟨x, hx⟩ : ∃ x, x = l[k]'hlt := ⟨_, rfl⟩
          rw [← hx] at hca0
          obtain ⟨c0, c1, c2, c3⟩ := ed_cells (o := off + k * 4) (fun i hi => by rw [Nat.add_assoc]; exact hca0 i hi)
          have hxm : x ∈ l := by rw [hx]; exact List.getElem_mem _
          have hxk := (HSE.out x hxm).1
          have hxs := (HSE.out x hxm).2
          have bA := (Below.refl wr.heap.size wr).alloc (Nat.le_refl _) (.cells #[.string (str x.key), .int .i64 x.v.k, .int .i64 x.v.i, .string (str x.v.s)] 68)
          have qe := heap_alloc_new wr (.cells #[.string (str x.key), .int .i64 x.v.k, .int .i64 x.v.i, .string (str x.v.s)] 68)
          have BF := Lib.hid (chain BR.out bA)
          have KI0 := is_any x.key hxk _ (HTB.out.below BF.out)
          have VM0 := V7.may_any x.v.k x.v.i x.v.s (wr.alloc (.cells #[.string (str x.key), .int .i64 x.v.k, .int .i64 x.v.i, .string (str x.v.s)] 68)) hxs
          have hmx : mayE x = (isB x.key && V7.mayB ⟨x.v.k, x.v.i, x.v.s⟩) := rfl
          have HXE := Lib.hid hx
          clear hca0 RL hx hxm hxk hxs
          cases hkb : isB x.key with
          | false =>
            have HE := Lib.hid (show takeE s l = ((1, k), stQ) from take_bad HOK.out (HBD.out.trans (bad_no hlt (by rw [← HXE.out, hmx, hkb]; rfl))))
            rw [hkb] at KI0
            have KI := Lib.hid KI0
            clear KI0 VM0 hkb hmx
            go_wp2_with fail
            refine KI.out.mono ?_
            rintro e wk ⟨rfl, rfl⟩
            go_wp2_with (first | ((with_reducible refine (must_yes _ _ _).mono ?_); rintro e wm ⟨rfl, rfl⟩) | ((with_reducible refine (must_no _ _ _).mono ?_); rintro e wm ⟨rfl, rfl⟩))
            have gg := belr.trans (bA.mono belr.size)
            have q2 := (gg.block _ (lt_of_block Q2.out)).trans Q2.out
            have q3 := (gg.block _ (lt_of_block Q3.out)).trans Q3.out
            have q4 := (gg.block _ (lt_of_block Q4.out)).trans Q4.out
            refine take_door (w.heap.size + 1) 1 k 0 0 zS rfl _ _ rfl rfl rfl q2 q3 q4 _ fun W' g' => ?_
            rw [HZ.out]
            exact TakeZ.no HE.out ((HB1.out.trans (gg.mono HB1.out.size)).trans (g'.mono (by omega)))
          | true =>
            rw [hkb] at KI0
            have KI := Lib.hid KI0
            clear KI0
            cases hvb : V7.mayB ⟨x.v.k, x.v.i, x.v.s⟩ with
            | false =>
              have HE := Lib.hid (show takeE s l = ((1, k), stQ) from take_bad HOK.out (HBD.out.trans (bad_no hlt (by rw [← HXE.out, hmx, hkb, hvb]; rfl))))
              rw [hvb] at VM0
              have VM := Lib.hid VM0
              clear VM0 hkb hvb hmx
              go_wp2_with fail
              refine KI.out.mono ?_
              rintro e wk ⟨rfl, rfl⟩
              go_wp2_with fail
              refine VM.out.mono ?_
              rintro e wv ⟨rfl, gv⟩
              have bV := bA.trans (gv.mono bA.size)
              clear gv
              go_wp2_with (first | ((with_reducible refine (must_yes _ _ _).mono ?_); rintro e wm ⟨rfl, rfl⟩) | ((with_reducible refine (must_no _ _ _).mono ?_); rintro e wm ⟨rfl, rfl⟩))
              have gg := belr.trans (bV.mono belr.size)
              have q2 := (gg.block _ (lt_of_block Q2.out)).trans Q2.out
              have q3 := (gg.block _ (lt_of_block Q3.out)).trans Q3.out
              have q4 := (gg.block _ (lt_of_block Q4.out)).trans Q4.out
              refine take_door (w.heap.size + 1) 1 k 0 0 zS rfl _ _ rfl rfl rfl q2 q3 q4 _ fun W' g' => ?_
              rw [HZ.out]
              exact TakeZ.no HE.out ((HB1.out.trans (gg.mono HB1.out.size)).trans (g'.mono (by omega)))
            | true =>
              have HBN := Lib.hid (show badE l 0 = badE (l.drop (k + 1)) (k + 1) from HBD.out.trans (bad_yes hlt (by rw [← HXE.out, hmx, hkb, hvb]; rfl)))
              rw [hvb] at VM0
              have VM := Lib.hid VM0
              clear VM0 hkb hvb hmx
              go_wp2_with fail
              refine KI.out.mono ?_
              rintro e wk ⟨rfl, rfl⟩
              go_wp2_with fail
              refine VM.out.mono ?_
              rintro e wv ⟨rfl, gv⟩
              have bV := bA.trans (gv.mono bA.size)
              clear gv
              go_wp2_with (first | ((with_reducible refine (must_yes _ _ _).mono ?_); rintro e wm ⟨rfl, rfl⟩) | ((with_reducible refine (must_no _ _ _).mono ?_); rintro e wm ⟨rfl, rfl⟩))
              exact ⟨⟨k + 1, by omega, by push_cast; rfl, HBN, belr.trans (bV.mono belr.size)⟩, by simp [intOf]; omega⟩
        · obtain rfl : k = l.length := by omega
          have HBX := Lib.hid (show badE l 0 = none from HBD.out.trans (bad_end (Nat.le_refl _)))
          have q1 := (belr.block _ (lt_of_block Q1.out)).trans Q1.out
          have c32 := (block_cell q1 32).trans HV.out
          have f32 := block_frozen q1 32
          have hV1 : 0 ≤ V ∧ V ≤ 2147483646 := by have h1 := mayS_ver HM.out; have h2 := okS_lt HOK.out; rw [← HVE.out] at h1 h2; omega
          obtain ⟨V1, hV1e⟩ : ∃ V1, V1 = V + 1 := ⟨_, rfl⟩
          have hw1 : IntKind.i64.wrap (V + 1) = V1 := by rw [IntKind.wrap_i64]; omega
          have HV1 := Lib.hid hV1e
          clear hV1 hV1e
          go_wp2_with fail
          obtain ⟨W2, hW2⟩ : ∃ W, W = wr.setCell ⟨w.heap.size, 32, none⟩ (.int .i64 V1) := ⟨_, rfl⟩
          rw [← hW2]
          have TK := Lib.hid (tk_start HR.out HOK.out HSZ.out HWF.out (by rw [HV1.out, HVE.out]) hW2 (chain HB1.out belr) q1 ((belr.block _ (lt_of_block Q2.out)).trans Q2.out) ((belr.block _ (lt_of_block Q3.out)).trans Q3.out) ((belr.block _ (lt_of_block Q4.out)).trans Q4.out) l)
          have BL2 := Lib.hid (show Below w.heap.size w W2 by rw [hW2]; exact (chain HB1.out belr).setCell (p := ⟨w.heap.size, 32, none⟩) (Nat.le_refl _) _)
          clear hW2 q1 c32 f32 belr hw1 HB1 Q1 Q2 Q3 Q4 hl4 HBD BR
          go_loopw [44] (fun i wx => ∃ (k : Nat) (C : Array Value) (lv : Nat → List It) (vs : Nat → Int), k ≤ l.length ∧ i = .int .i64 (k : Int) ∧ Hid (Tk (fun P => SafeP P w (tC cs) s.lv s.vs) w.heap.size s V1 l k C lv vs wx) ∧ Hid (Below w.heap.size w wx)) (fun i _ => l.length + 1 - (intOf i).toNat)
          case atStart => exact ⟨0, _, _, _, Nat.zero_le _, rfl, TK, BL2⟩
          case round =>
            clear TK BL2
            obtain ⟨k, C, lv, vs, hk, rfl, TK, BX⟩ := hrel
            by_cases hlt : k < l.length
            · have hlti : (k : Int) < (l.length : Int) := by omega
              have RL : RdE wr (.slice ao l.length cap) l := HL.out.below BX.out (Nat.le_refl _)
              obtain ⟨b, off, rfl, hb, hca0⟩ := RdK.cell edC_len RL k hlt
              obtain ⟨x, hx⟩ : ∃ x, x = l[k]'hlt := ⟨_, rfl⟩
              rw [← hx] at hca0
              obtain ⟨c0, c1, c2, c3⟩ := ed_cells (o := off + k * 4) (fun i hi => by rw [Nat.add_assoc]; exact hca0 i hi)
              have hxm : x ∈ l := by rw [hx]; exact List.getElem_mem _
              have bA := (Below.refl wr.heap.size wr).alloc (Nat.le_refl _) (.cells #[.string (str x.key), .int .i64 x.v.k, .int .i64 x.v.i, .string (str x.v.s)] 68)
              have qe := heap_alloc_new wr (.cells #[.string (str x.key), .int .i64 x.v.k, .int .i64 x.v.i, .string (str x.v.s)] 68)
              have BF := Lib.hid (chain BX.out bA)
              have hsC := TK.out.size
              have hln : w.heap.size + 3 < wr.heap.size := lt_of_block TK.out.q4
              have q1 := (bA.block _ (by omega)).trans TK.out.q1
              have d32 := (block_cell q1 32).trans TK.out.c32
              have SA := Lib.hid (fun P hP hS => (TK.out.safe P hP hS).below bA)
              have AP := Lib.hid (apply13_any (tC C) lv vs x V1 k _ (HTB.out.below BF.out) (SA.out _ (fun _ h => h.elim) TK.out.none).rd TK.out.gt.sz (HSE.out x hxm).1 (HSE.out x hxm).2)
              have HXE := Lib.hid hx
              have HXM := Lib.hid hxm
              have BA := Lib.hid bA
              have hxv : edV x = .agg #[.string (str x.key), .int .i64 x.v.k, .int .i64 x.v.i, .string (str x.v.s)] := rfl
              rw [hxv] at AP
              clear hca0 RL hx hxm bA hxv
              go_wp2_with ((with_reducible refine wpList_load_part (o := ⟨some 50, _, _, _, _, _⟩) rfl 26 (.tmp 49) rfl _ 0 rfl (tC C) _ (tC_range q1) Tryd.underlying26 rfl (tC_infoA hsC) ?_))
              refine AP.out.mono ?_
              intro e w3 hP
              unfold ApZ at hP
              by_cases he : apE lv vs x V1 = 0
              · rw [if_pos he] at hP
                obtain ⟨ct, rfl, hct, hone, HS, g⟩ := hP
                have q1 := (g.block _ (lt_of_block q1)).trans q1
                have th : w3.there w.heap.size 0 ct.size := there_of q1 (by rw [hct, hsC]; decide)
                have hsF := infoTc hct
                have TK2 := Lib.hid (tk_next TK.out (by rw [← HXE.out]) he (bad_none HBX.out x HXM.out) (HWE.out x HXM.out) (BA.out.trans (g.mono BA.out.size)) hct (fun P hP hS => HS.out _ (own4_lt hP (by have := BA.out.size; omega)) (SA.out P hP hS)))
                have BN := Lib.hid (sets_below (Nat.le_refl w.heap.size) ct.toList 0 _ (chain BF.out g))
                clear g HS he
                go_wp2_with ((with_reducible refine wpList_store_mid (op := ⟨none, _, _, _, _, _⟩) rfl 26 (.tmp 56) (.tmp 55) rfl _ 0 ct rfl rfl th hsF hone ?_))
                exact ⟨⟨k + 1, _, _, _, by omega, by push_cast; rfl, TK2, BN⟩, by simp [intOf]; omega⟩
              · rw [if_neg he] at hP
                obtain ⟨rfl, g⟩ := hP
                have gg := chain BX.out (BA.out.trans (g.mono BA.out.size))
                have ga := BA.out.trans (g.mono BA.out.size)
                have q2 := (ga.block _ (by omega)).trans TK.out.q2
                have q3 := (ga.block _ (by omega)).trans TK.out.q3
                have q4 := (ga.block _ (by omega)).trans TK.out.q4
                have HE := Lib.hid (show takeE s l = ((apE lv vs x V1, k), stQ) from take_err HOK.out HBX.out (by rw [← TK.out.ve, TK.out.go, go_no hlt (by rw [← HXE.out]; exact he), ← HXE.out]) he)
                obtain ⟨c, hc⟩ : ∃ c, c = apE lv vs x V1 := ⟨_, rfl⟩
                rw [← hc] at HE ⊢
                have HG := Lib.hid gg
                clear hc he g ga gg
                go_wp2_with fail
                refine take_door (w.heap.size + 1) c k 0 0 zS rfl _ _ rfl rfl rfl q2 q3 q4 _ fun W' g' => ?_
                rw [HZ.out]
                exact TakeZ.no HE.out (HG.out.trans (g'.mono (by omega)))
            · obtain rfl : k = l.length := by omega
              have HGO := Lib.hid (show goE (s.ver + 1) s.lv s.vs l 0 = ((0, 0), lv, vs) by rw [← TK.out.ve, TK.out.go, go_end (Nat.le_refl _)])
              have hsC := TK.out.size
              have hiC := infoS hsC
              have q1 := TK.out.q1
              have q2 := TK.out.q2
              have q3 := TK.out.q3
              have q4 := TK.out.q4
              have RC := TK.out.rds
              have FT0 := fits_any C (nextS s lv vs) wr (HTB.out.below BX.out) RC TK.out.gt.sz TK.out.gt.wf TK.out.gt.h100
              cases hf : fitsB (nextS s lv vs) with
              | false =>
                rw [hf] at FT0
                have FT := Lib.hid FT0
                have HE := Lib.hid (take_unfit HOK.out HBX.out HGO.out hf)
                clear FT0 hf RC
                go_wp2_with ((with_reducible refine wpList_load_row (o := ⟨some 58, _, _, _, _, _⟩) rfl 28 (.tmp 2) rfl _ rfl _ C (0, 0) _ q1 Tryd.underlying28 rfl hiC ?_))
                refine FT.out.mono ?_
                rintro e w3 ⟨rfl, g⟩
                replace q2 := (g.block _ (lt_of_block q2)).trans q2
                replace q3 := (g.block _ (lt_of_block q3)).trans q3
                replace q4 := (g.block _ (lt_of_block q4)).trans q4
                have HG := Lib.hid (chain BX.out g)
                clear g
                go_wp2_with (first | ((with_reducible refine (must_yes _ _ _).mono ?_); rintro e wm ⟨rfl, rfl⟩) | ((with_reducible refine (must_no _ _ _).mono ?_); rintro e wm ⟨rfl, rfl⟩))
                refine take_door (w.heap.size + 1) 17 l.length 0 0 zS rfl _ _ rfl rfl rfl q2 q3 q4 _ fun W' g' => ?_
                rw [HZ.out]
                exact TakeZ.no HE.out (HG.out.trans (g'.mono (by omega)))
              | true =>
                rw [hf] at FT0
                have FT := Lib.hid FT0
                have HE := Lib.hid (take_fit HOK.out HBX.out HGO.out hf)
                have hoC := (Array.all_eq_true_iff_forall_mem.2 fun u hu => RC.one u (by simpa using hu) : C.all (·.oneCell') = true)
                have HRC := Lib.hid RC
                clear FT0 hf RC
                go_wp2_with ((with_reducible refine wpList_load_row (o := ⟨some 58, _, _, _, _, _⟩) rfl 28 (.tmp 2) rfl _ rfl _ C (0, 0) _ q1 Tryd.underlying28 rfl hiC ?_))
                refine FT.out.mono ?_
                rintro e w3 ⟨rfl, g⟩
                have SF := Lib.hid (fun P hP hS => (TK.out.safe P hP hS).below g)
                replace q1 := (g.block _ (lt_of_block q1)).trans q1
                replace q2 := (g.block _ (lt_of_block q2)).trans q2
                replace q3 := (g.block _ (lt_of_block q3)).trans q3
                replace q4 := (g.block _ (lt_of_block q4)).trans q4
                have HG := Lib.hid (chain BX.out g)
                clear g
                go_wp2_with (first | ((with_reducible refine (must_yes _ _ _).mono ?_); rintro e wm ⟨rfl, rfl⟩) | ((with_reducible refine (must_no _ _ _).mono ?_); rintro e wm ⟨rfl, rfl⟩) | ((with_reducible refine wpList_load_row (o := ⟨some 63, _, _, _, _, _⟩) rfl 28 (.tmp 2) rfl _ rfl _ C (0, 0) _ q1 Tryd.underlying28 rfl hiC ?_)) | ((with_reducible refine wpList_store_row (o := ⟨none, _, _, _, _, _⟩) rfl 28 (.tmp 4) (.tmp 63) rfl _ C rfl rfl _ zS q2 hiC (zS_size.trans hsC.symm) hoC ?_); (obtain ⟨WU, hWU⟩ : ∃ W, W = World.setRow w3 (w.heap.size + 1) C := ⟨_, rfl⟩); rw [← hWU]; (have q9 : WU.heap[w.heap.size + 1]? = some (.cells C 28 (0, 0)) := by rw [hWU]; exact setRow_heap _ _ _ _ _ _ q2); (replace q3 : WU.heap[w.heap.size + 2]? = some (.cells #[.int .i64 0] 30 (0, 0)) := by rw [hWU]; exact (setRow_other _ _ _ _ (by omega)).trans q3); (replace q4 : WU.heap[w.heap.size + 3]? = some (.cells #[.int .i64 0] 3 (0, 0)) := by rw [hWU]; exact (setRow_other _ _ _ _ (by omega)).trans q4); (have HB9 := Lib.hid (show Below w.heap.size w WU by rw [hWU]; exact below_row HG.out (by omega) C)); (have SF9 := Lib.hid (fun (P : Nat → Prop) (hP : ∀ k, P k → k < w.heap.size) (hS : SafeP P w (tC cs) s.lv s.vs) => (show SafeP (fun k => P k ∨ Own4 w.heap.size k) WU (tC C) lv vs by rw [hWU]; exact (SF.out P hP hS).later (by rw [setRow_size]; exact Nat.le_refl _) fun k hk hp => setRow_other _ _ _ _ (fun e => hp (.inr (by subst e; exact ⟨by omega, by omega⟩)))))); (have y3 := block_cell q3 0); (have y4 := block_cell q4 0); (have f3 := fun i => block_frozen q3 i); (have f4 := fun i => block_frozen q4 i); clear hWU))
                clear y3 y4 f3 f4
                obtain ⟨WX, hWX⟩ : ∃ W, W = (WU.setCell ⟨w.heap.size + 1 + 1, 0, none⟩ (.int .i64 0)).setCell ⟨w.heap.size + 1 + 1 + 1, 0, none⟩ (.int .i64 0) := ⟨_, rfl⟩
                have r0 : WX.heap[w.heap.size + 1]? = some (.cells C 28 (0, 0)) := by rw [hWX]; exact (set_old (by omega)).trans ((set_old (by omega)).trans q9)
                have r1 : WX.heap[w.heap.size + 2]? = some (.cells #[.int .i64 0] 30 (0, 0)) := by rw [hWX]; exact (set_old (by omega)).trans (set_at (i := 0) (u := .int .i64 0) q3)
                have r2 : WX.heap[w.heap.size + 3]? = some (.cells #[.int .i64 0] 3 (0, 0)) := by rw [hWX]; exact set_at (i := 0) (u := .int .i64 0) ((set_old (by omega)).trans q4)
                have bX : Below w.heap.size w WX := by rw [hWX]; exact (HB9.out.setCell (p := ⟨w.heap.size + 1 + 1, 0, none⟩) (by show w.heap.size ≤ w.heap.size + 1 + 1; omega) _).setCell (p := ⟨w.heap.size + 1 + 1 + 1, 0, none⟩) (by show w.heap.size ≤ w.heap.size + 1 + 1 + 1; omega) _
                have SX := Lib.hid (fun (P : Nat → Prop) (hP : ∀ k, P k → k < w.heap.size) (hS : SafeP P w (tC cs) s.lv s.vs) => (show SafeP (fun k => P k ∨ Own4 w.heap.size k) WX (tC C) lv vs by rw [hWX]; exact (SF9.out P hP hS).later (by simp) fun k hk hp => (set_old (fun e => hp (.inr (by subst e; exact ⟨by omega, by omega⟩)))).trans (set_old (fun e => hp (.inr (by subst e; exact ⟨by omega, by omega⟩))))))
                rw [← hWX]
                clear hWX
                refine take_back (w.heap.size + 1) _ _ C hsC _ _ rfl rfl rfl r0 r1 r2 _ fun W' g' => ?_
                rw [HZ.out]
                exact TakeZ.yes HE.out (fun P hP hS => ⟨hsC, fun W hW => ((SX.out P hP hS).below g') W fun k hk hn => hW k hk fun h => hn (.inl h), HRC.out.ver, HRC.out.by_, HRC.out.ke⟩) (chain bX g')
    · have tv : decide (V < 2147483647) = false := decide_eq_false hv
      have HE := Lib.hid (show takeE s l = ((1, 0), stQ) from take_arg (by unfold okS; rw [← HVE.out, tv]; simp))
      clear hv
      go_enter_defers Tryd.func34, Tryd.ntmps34
      go_wp2_with ((with_reducible refine wpList_load_row (o := ⟨some 12, _, _, _, _, _⟩) rfl 28 (.tmp 2) rfl _ rfl _ cs (0, 0) _ q1 Tryd.underlying28 rfl hi ?_))
      refine (MY.out _ bel).mono ?_
      rintro e w1 ⟨rfl, g⟩
      replace q1 := (g.block _ (lt_of_block q1)).trans q1
      replace q2 := (g.block _ (lt_of_block q2)).trans q2
      replace q3 := (g.block _ (lt_of_block q3)).trans q3
      replace q4 := (g.block _ (lt_of_block q4)).trans q4
      have c32 := (block_cell q1 32).trans HV.out
      replace T0 := T0.below g
      replace bel := chain bel g
      clear g
      go_wp2_with (first | ((with_reducible refine (must_yes _ _ _).mono ?_); rintro e wm ⟨rfl, rfl⟩) | ((with_reducible refine (must_no _ _ _).mono ?_); rintro e wm ⟨rfl, rfl⟩))
      refine take_door (w.heap.size + 1) 1 0 0 0 zS rfl _ _ rfl rfl rfl q2 q3 q4 _ fun W' g' => ?_
      rw [HZ.out]
      exact TakeZ.no HE.out (bel.trans (g'.mono (by omega)))
end Go.Proofs.YtbdfcgffkonbiaaDoor
