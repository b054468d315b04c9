/- Span: what a loop has that keeps variables; First. Written by wip/tools/gen11v.py. -/
import Derived.Test.YtbdfcgffkonbiaaGreatDoorQSSC37
namespace Go.Proofs.YtbdfcgffkonbiaaGreatDoor
open Go Go.RowKit
set_option linter.unusedVariables false
set_option linter.unusedSimpArgs false
set_option maxRecDepth 100000
attribute [local go_sem] Oper.semAt_some
/-- Variables that hold these values. -/
def InvF (fix : List (Nat × Obj)) (n0 : Nat) (w X : World) : Prop := (∀ p ∈ fix, X.heap[p.1]? = some p.2) ∧ Below n0 w X
def FixF (fix : List (Nat × Obj)) : Prop := ∀ p ∈ fix, ∃ cs t, p.2 = .cells cs t (0, 0) ∧ t ≠ 24
section
variable {fix : List (Nat × Obj)} {n0 : Nat} {w : World} (ok : FixF fix)
include ok
theorem InvF.from {B : Nat} (hB : n0 ≤ B) (hw : n0 ≤ w.heap.size) {X Y : World} {row : Option Nat} (h : InvF fix n0 w X) (hg : X.grownBy Y row) (hrow : ∀ r, row = some r → B ≤ r ∧ ∃ o : Obj, X.heap[r]? = some o ∧ o.isCells = false) : InvF fix n0 w Y := by
  obtain ⟨hf, hb⟩ := h
  refine ⟨fun p hp => ?_, hb.grown hg (Nat.le_trans hw hb.size) fun j e => Nat.le_trans hB (hrow j e).1⟩
  obtain ⟨cs, t, e, _⟩ := ok p hp
  have := hf p hp
  rw [e] at this ⊢
  exact cells_kept11 this hg hrow
theorem InvF.turn (hM : n0 ≤ w.heap.size) {X Y : World} (h : InvF fix n0 w X) (t : Tw11 n0 X Y) : InvF fix n0 w Y := by
  obtain ⟨hf, hb⟩ := h
  refine ⟨fun p hp => ?_, hb.trans (t.below (Nat.le_trans hM hb.size))⟩
  obtain ⟨cs, ty, e, hne⟩ := ok p hp
  have := hf p hp
  rw [e] at this ⊢
  exact t.cells hne this
omit ok in
theorem InvF.below (hM : n0 ≤ w.heap.size) {X Y : World} (h : InvF fix n0 w X) (g : Below X.heap.size X Y) : InvF fix n0 w Y :=
  ⟨fun p hp => (g.block _ (lt_of_block (h.1 p hp))).trans (h.1 p hp), h.2.trans (g.mono (Nat.le_trans hM h.2.size))⟩
end
theorem results_row_cell {P : Program} {fn : Func} {p q : Tmp} {ty ty2 : TypeId} (h : fn.results = #[.cell p ty, .cell q ty2]) (tmps : Array Value) (w : World) (g g2 : Nat) (t : TypeId) (cs : Array Value) (fr : Nat × Nat) (d : TypeDesc) (v : Value)
    (hp : tmps.getD p undef = .pointer (some ⟨g, 0, none⟩)) (hq : tmps.getD q undef = .pointer (some ⟨g2, 0, none⟩)) (hg : w.heap[g]? = some (.cells cs t fr))
    (hu : P.underlying ty = some d) (hd : (match d with | .struct _ | .array _ _ => true | _ => false) = true) (hi : (P.info? ty).map (·.size) = some cs.size) (h2 : (loadVar ty2 ⟨g2, 0, none⟩).run P w = .ok v w) :
    (results fn tmps).run P w = .ok (.tuple #[.agg cs, v]) w := by
  have hp' : tmps[p]?.getD undef = .pointer (some ⟨g, 0, none⟩) := by simpa using hp
  have hq' : tmps[q]?.getD undef = .pointer (some ⟨g2, 0, none⟩) := by simpa using hq
  simp [results, h, hp', hq', asAddr, run_loadVar_row w g t ty cs fr d hg hu hd hi, h2]
theorem loadErr {w : World} {g : Nat} {v : Value} (h : w.heap[g]? = some (.cells #[v] 31 (0, 0))) : (loadVar 31 ⟨g, 0, none⟩).run Tryz.prog w = .ok v w := by
  have hc := block_cell h 0
  simp only [List.getElem?_toArray, List.getElem?_cons_zero] at hc
  go_simp
theorem keeps_row {X : World} {g : Nat} {old : Array Value} {t : TypeId} {fr : Nat × Nat} (h : X.heap[g]? = some (.cells old t fr)) (B : Nat) (cs : Array Value) : KeepsFrom B X (X.setRow g cs) :=
  ⟨by simp, fun k o _ hk ho => by
    by_cases e : k = g
    · subst e
      rw [h] at hk; injection hk with hk; subst hk; cases ho
    · exact (setRow_other X g k cs e).trans hk⟩
theorem head_at {l : List It} (h : 0 < l.length) : l.headD zI = l[0] := by
  cases l with
  | nil => simp at h
  | cons x r => rfl
def fiI (lv : Nat → List It) (vs : Nat → Int) (k : List UInt8) : It := if ckE lv vs [k] = 0 then (rngL lv k []).headD zI else zI
def fiE (lv : Nat → List It) (vs : Nat → Int) (k : List UInt8) : Nat := if ckE lv vs [k] = 0 then (if rngL lv k [] = [] then 6 else 0) else ckE lv vs [k]
set_option maxHeartbeats 1000000 in
theorem first_any (cs : Array Value) (lv : Nat → List It) (vs : Nat → Int) (k : List UInt8) (w : World) (tab : TabAt w) (h : RdT w cs lv vs) (hsz : SzT lv) (hk : k.length ≤ maxLen) :
    Calls Tryz.prog 20 #[.agg cs, .string (str k)] w fun e w' => e = .returned (.tuple #[itV (fiI lv vs k), .int .i64 (fiE lv vs k : Int)]) ∧ Below w.heap.size w w' := by
  have hs32 := h.size
  have hsT := infoTc hs32
  obtain ⟨q1, q2, q3, zs⟩ := allocs3 w (.cells cs 26) (.cells #[.string { data := #[] }, .int .i64 0, .int .i64 0, .string { data := #[] }, .int .i64 0] 48) (.cells #[.int .i64 0] 31)
  obtain ⟨WA, hWA⟩ : ∃ W, W = ((w.alloc (.cells cs 26)).alloc (.cells #[.string { data := #[] }, .int .i64 0, .int .i64 0, .string { data := #[] }, .int .i64 0] 48)).alloc (.cells #[.int .i64 0] 31) := ⟨_, rfl⟩
  have belA : Below w.heap.size w WA := by rw [hWA]; exact (((Below.refl _ w).alloc (Nat.le_refl _) (.cells cs 26)).alloc (by simp) (.cells #[.string { data := #[] }, .int .i64 0, .int .i64 0, .string { data := #[] }, .int .i64 0] 48)).alloc (by simp; omega) (.cells #[.int .i64 0] 31)
  rw [← hWA] at q1 q2 q3 zs
  have qb := heap_alloc_new WA (.cells #[.string (str k)] 9)
  have belB := belA.alloc belA.size (.cells #[.string (str k)] 9)
  rw [zs] at qb
  have CK0 := check1_any cs lv vs k _ (tab.below belB) (h.below belB (Nat.le_refl _)) hsz hk _ qb
  have p1 := (@heap_alloc_old WA (.cells #[.string (str k)] 9) _ (lt_of_block q1)).trans q1
  have p2 := (@heap_alloc_old WA (.cells #[.string (str k)] 9) _ (lt_of_block q2)).trans q2
  have p3 := (@heap_alloc_old WA (.cells #[.string (str k)] 9) _ (lt_of_block q3)).trans q3
  obtain ⟨Z, hZ⟩ : ∃ Z : Ending → World → Prop, Z = fun e w' => e = .returned (.tuple #[itV (fiI lv vs k), .int .i64 (fiE lv vs k : Int)]) ∧ Below w.heap.size w w' := ⟨_, rfl⟩
  rw [← hZ]
  have HZ := Lib.hid hZ
  have HT := Lib.hid h
  by_cases hc : ckE lv vs [k] = 0
  · have HM : Hid (mayTs lv vs 16 = true) := Lib.hid (by
      cases hm : mayTs lv vs 16 with
      | true => rfl
      | false => rw [ck_no hm] at hc; cases hc)
    rw [hc] at CK0
    have CK := Lib.hid CK0
    have HC := Lib.hid hc
    subst hWA
    clear CK0 hc hZ h tab hsz
    refine (callsIn_wide (n := 7)).1 ?_
    refine callsIn_of_wp_marks Tryz.func20 rfl trivial ?_ rfl
    simp only [Tryz.ntmps20, List.size_toArray, List.length_cons, List.length_nil, Nat.reduceAdd, Nat.reduceSub, Array.replicate_succ, Array.replicate_zero, List.push_toArray, List.append_toArray, List.nil_append, List.cons_append]
    gi_wp2_with (first | ((with_reducible refine wpListIn_load_row (o := ⟨some 9, _, _, _, _, _⟩) rfl 26 (.tmp 2) rfl _ rfl _ cs (0, 0) _ q1 Tryz.underlying26 rfl hsT ?_)) | (refine ⟨trivial, ?_⟩; gi_at_call 12; refine (callsIn_wide.2 CK.out).mono ?_; rintro e w2 ⟨rfl, g⟩; (have p1 := (g.block _ (lt_of_block p1)).trans p1); (have p2 := (g.block _ (lt_of_block p2)).trans p2); (have p3 := (g.block _ (lt_of_block p3)).trans p3); (have bel := chain belB g)) | ((with_reducible refine wpListIn_load_row (o := ⟨some 17, _, _, _, _, _⟩) rfl 26 (.tmp 2) rfl _ rfl _ cs (0, 0) _ p1 Tryz.underlying26 rfl hsT ?_)) | (refine ⟨trivial, ?_⟩; gi_at_call 13; refine (callsIn_wide.2 (items_some cs hs32 k [] _)).mono ?_; rintro e w5 ⟨Bt, Bf, Bo, rfl, r1, r2, r3, g5⟩))
    have p2 := (g5.block _ (lt_of_block p2)).trans p2
    have p3 := (g5.block _ (lt_of_block p3)).trans p3
    have bel5 := chain bel g5
    obtain ⟨M1, hM1⟩ : ∃ M, M = w.heap.size + 1 := ⟨_, rfl⟩
    obtain ⟨M2, hM2⟩ : ∃ M, M = w.heap.size + 1 + 1 := ⟨_, rfl⟩
    have p3 : w5.heap[w.heap.size + 1 + 1]? = some (.cells #[.int .i64 0] 31 (0, 0)) := p3
    rw [← hM2] at p3
    rw [← hM2, ← hM1]
    rw [← hM1] at p2
    have hl5 := bel5.size
    have h12 : M1 ≠ M2 := by omega
    have H12 := Lib.hid h12
    have HN5 := Lib.hid hl5
    have HM1 := Lib.hid (show w.heap.size ≤ M1 by omega)
    have HM2 := Lib.hid (show w.heap.size ≤ M2 by omega)
    have OK0 : ∀ x : It, FixF [(M1, .cells #[.string (str x.key), .int .i64 x.v.k, .int .i64 x.v.i, .string (str x.v.s), .int .i64 x.ver] 48 (0, 0)), (M2, .cells #[.int .i64 0] 31 (0, 0))] := fun x p hp => by
      simp only [List.mem_cons, List.not_mem_nil, or_false] at hp
      rcases hp with rfl | rfl <;> exact ⟨_, _, rfl, by decide⟩
    have OK := Lib.hid OK0
    have HI0 := Lib.hid (show InvF [(M1, .cells #[.string (str zI.key), .int .i64 zI.v.k, .int .i64 zI.v.i, .string (str zI.v.s), .int .i64 zI.ver] 48 (0, 0)), (M2, .cells #[.int .i64 0] 31 (0, 0))] w.heap.size w w5 from ⟨fun p hp => by
      simp only [List.mem_cons, List.not_mem_nil, or_false] at hp
      rcases hp with rfl | rfl
      · exact p2
      · exact p3, bel5⟩)
    have GV := items_gives (7 - 1) (by decide) Bt Bf Bo cs lv vs k [] w w5 HT.out HM.out bel5 r1 r2 r3
    clear q1 q2 q3 qb p1 p2 p3 g g5 bel bel5 belA belB zs r1 r2 r3 hl5 hM1 hM2 OK0 h12
    refine range_lawM rfl (by decide) (gf := 29) (lb := #[.pointer (some ⟨Bt, 0, none⟩), .pointer (some ⟨Bf, 0, none⟩), .pointer (some ⟨Bo, 0, none⟩)]) rfl trivial (enters_of Tryz.func29 (by kernel_rfl) rfl) (fun _ => rfl)
      GV
      (fun A B h => h.keeps _) (fun h k => h.trans k) (fun W l o o' => Kp11.put HN5.out W l o o')
      (fun pre X => pre = [] ∧ InvF [(M1, .cells #[.string (str zI.key), .int .i64 zI.v.k, .int .i64 zI.v.i, .string (str zI.v.s), .int .i64 zI.ver] 48 (0, 0)), (M2, .cells #[.int .i64 0] 31 (0, 0))] w.heap.size w X)
      (fun c pre X => c = .ret ∧ ∃ x, pre = [x] ∧ InvF [(M1, .cells #[.string (str x.1.key), .int .i64 x.1.v.k, .int .i64 x.1.v.i, .string (str x.1.v.s), .int .i64 x.1.ver] 48 (0, 0)), (M2, .cells #[.int .i64 0] 31 (0, 0))] w.heap.size w X)
      (fun s X Y row h hg hr => ⟨h.1, InvF.from (OK.out zI) HN5.out (Nat.le_refl _) h.2 hg hr⟩)
      (fun c s X Y row h hg hr => by
        obtain ⟨h1, x, h2, h3⟩ := h
        exact ⟨h1, x, h2, InvF.from (OK.out x.1) HN5.out (Nat.le_refl _) h3 hg hr⟩)
      (fun s A B h t => ⟨h.1, InvF.turn (OK.out zI) (Nat.le_refl _) h.2 t⟩)
      (fun c s A B h t => by
        obtain ⟨h1, x, h2, h3⟩ := h
        exact ⟨h1, x, h2, InvF.turn (OK.out x.1) (Nat.le_refl _) h3 t⟩)
      ⟨rfl, HI0.out⟩
      (fun x W => { tmps := #[.agg cs, .string (str k), .pointer (some ⟨w.heap.size, 0, none⟩), undef, .pointer (some ⟨M1, 0, none⟩), .pointer (some ⟨M2, 0, none⟩), .int .i64 0, undef, .pointer (some ⟨W.heap.size, 0, none⟩), .agg cs, .string (str k), .slice (some ⟨w.heap.size + 3, 0, none⟩) 1 1, .int .i64 0, .int .i64 0, .bool false, undef, undef, .agg cs, .string (str k), .func (.func 29) #[] #[.pointer (some ⟨Bt, 0, none⟩), .pointer (some ⟨Bf, 0, none⟩), .pointer (some ⟨Bo, 0, none⟩)], .int .i64 (x.2 : Int), .agg #[.string (str x.1.key), .int .i64 x.1.v.k, .int .i64 x.1.v.i, .string (str x.1.v.s), .int .i64 x.1.ver], undef, undef], defers := [] })
      (fun x W => W.alloc (.cells #[.string (str x.1.key), .int .i64 x.1.v.k, .int .i64 x.1.v.i, .string (str x.1.v.s), .int .i64 x.1.ver] 48))
      (fun x W => (Below.refl _ W).alloc (Nat.le_refl _) _) (fun x W => Kp11.of_below ((Below.refl _ W).alloc (Nat.le_refl _) _)) (fun s A B h g => ⟨h.1, InvF.below (Nat.le_refl _) h.2 g⟩) ?assign ?body ?done ?stop
    case assign =>
      intro l x W K hK
      obtain ⟨x, j⟩ := x
      simp only at hK ⊢
      gi_wp2
      exact hK
    case body =>
      rintro l pre x W X ⟨rfl, hfx, hb⟩ hlen hW hn
      obtain ⟨x, j⟩ := x
      simp only at hn ⊢
      rw [heap_alloc_new] at hn
      have m1 := hfx (M1, _) (List.mem_cons_self ..)
      have m2 := hfx (M2, _) (List.mem_cons_of_mem _ (List.mem_cons_self ..))
      simp only at m1 m2
      obtain ⟨e0, e1, e2, e3, e4, ef⟩ := block_cells5 hn
      have n1 := setRow_heap X M1 _ #[.string (str x.key), .int .i64 x.v.k, .int .i64 x.v.i, .string (str x.v.s), .int .i64 x.ver] _ _ m1
      have n2 : (X.setRow M1 #[.string (str x.key), .int .i64 x.v.k, .int .i64 x.v.i, .string (str x.v.s), .int .i64 x.ver]).heap[M2]? = some (.cells #[.int .i64 0] 31 (0, 0)) := (setRow_other X M1 M2 _ H12.out.symm).trans m2
      have KF := keeps_row m1 w5.heap.size #[.string (str x.key), .int .i64 x.v.k, .int .i64 x.v.i, .string (str x.v.s), .int .i64 x.ver]
      have BN := below_row hb HM1.out #[.string (str x.key), .int .i64 x.v.k, .int .i64 x.v.i, .string (str x.v.s), .int .i64 x.ver]
      obtain ⟨WN, hWN⟩ : ∃ W, W = X.setRow M1 #[.string (str x.key), .int .i64 x.v.k, .int .i64 x.v.i, .string (str x.v.s), .int .i64 x.ver] := ⟨_, rfl⟩
      rw [← hWN] at n1 n2 KF BN
      have cm := block_cell n2 0
      have cf := block_frozen n2 0
      simp only [List.getElem?_toArray, List.getElem?_cons_zero] at cm
      have HBN := Lib.hid BN
      have HWN := Lib.hid hWN
      have HKF := Lib.hid KF
      have N1 := Lib.hid n1
      have N2 := Lib.hid n2
      clear hfx hb m2 hn n1 n2 BN hWN KF
      gi_wp2_with (first | (refine wpListIn_store_rowL (o := ⟨none, _, _, _, _, _⟩) rfl 48 (.tmp 4) (.tmp 22) rfl M1 #[.string (str x.key), .int .i64 x.v.k, .int .i64 x.v.i, .string (str x.v.s), .int .i64 x.ver] rfl rfl 48 #[.string (str zI.key), .int .i64 zI.v.k, .int .i64 zI.v.i, .string (str zI.v.s), .int .i64 zI.ver] m1 infoI rfl (itc_one x) ?_; rw [← HWN.out]))
      have KO := KeepsOthers.setCell WN ⟨M2, 0, none⟩ (.int .i64 0)
      refine ⟨HKF.out.trans (KO.from _), rfl, (x, j), rfl, fun p hp => ?_, HBN.out.setCell (p := ⟨M2, 0, none⟩) HM2.out _⟩
      simp only [List.mem_cons, List.not_mem_nil, or_false] at hp
      rcases hp with rfl | rfl
      · exact (set_old H12.out).trans N1.out
      · exact set_at N2.out
    case done =>
      rintro D ys W hD hys ⟨h0, hfx, hb⟩ hK
      have h9 : rngL lv k [] = [] := by
        rw [h0] at hys
        exact ixs_inj (hys.symm.trans ixs_nil.symm)
      have m1 := hfx (M1, _) (List.mem_cons_self ..)
      have m2 := hfx (M2, _) (List.mem_cons_of_mem _ (List.mem_cons_self ..))
      simp only at m1 m2
      have e1 : fiI lv vs k = zI := by unfold fiI; rw [if_pos HC.out, h9]; rfl
      have e2 : fiE lv vs k = 6 := by unfold fiE; rw [if_pos HC.out, if_pos h9]
      have HE := Lib.hid (And.intro e1 e2)
      have n1 := setRow_heap W M1 _ #[.string (str zI.key), .int .i64 zI.v.k, .int .i64 zI.v.i, .string (str zI.v.s), .int .i64 zI.ver] _ _ m1
      have n2 : (W.setRow M1 #[.string (str zI.key), .int .i64 zI.v.k, .int .i64 zI.v.i, .string (str zI.v.s), .int .i64 zI.ver]).heap[M2]? = some (.cells #[.int .i64 0] 31 (0, 0)) := (setRow_other W M1 M2 _ H12.out.symm).trans m2
      have nK : (W.setRow M1 #[.string (str zI.key), .int .i64 zI.v.k, .int .i64 zI.v.i, .string (str zI.v.s), .int .i64 zI.ver]).heap[D]? = some (.deferred (some [])) := by
        refine (setRow_other W M1 D _ ?_).trans hK
        intro e; subst e; rw [m1] at hK; cases hK
      have BN := below_row hb HM1.out #[.string (str zI.key), .int .i64 zI.v.k, .int .i64 zI.v.i, .string (str zI.v.s), .int .i64 zI.ver]
      obtain ⟨WN, hWN⟩ : ∃ V, V = W.setRow M1 #[.string (str zI.key), .int .i64 zI.v.k, .int .i64 zI.v.i, .string (str zI.v.s), .int .i64 zI.ver] := ⟨_, rfl⟩
      rw [← hWN] at n1 n2 BN nK
      have cm := block_cell n2 0
      have cf := block_frozen n2 0
      simp only [List.getElem?_toArray, List.getElem?_cons_zero] at cm
      have HBN := Lib.hid BN
      have HWN := Lib.hid hWN
      have N1 := Lib.hid n1
      have N2 := Lib.hid n2
      have NK := Lib.hid nK
      clear hfx hb m2 n1 n2 BN hWN nK h9 e1 e2 h0 hys hK
      gi_wp2_with (first | (refine wpListIn_store_rowW (o := ⟨none, _, _, _, _, _⟩) rfl 48 (.tmp 4) (.tmp 23) rfl M1 #[.string (str zI.key), .int .i64 zI.v.k, .int .i64 zI.v.i, .string (str zI.v.s), .int .i64 zI.ver] rfl rfl 48 #[.string (str zI.key), .int .i64 zI.v.k, .int .i64 zI.v.i, .string (str zI.v.s), .int .i64 zI.ver] m1 infoI rfl (itc_one zI) ?_; rw [← HWN.out]))
      have f1 : (WN.setCell ⟨M2, 0, none⟩ (.int .i64 6)).heap[M1]? = some (.cells #[.string (str zI.key), .int .i64 zI.v.k, .int .i64 zI.v.i, .string (str zI.v.s), .int .i64 zI.ver] 48 (0, 0)) := (set_old H12.out).trans N1.out
      have f2 : (WN.setCell ⟨M2, 0, none⟩ (.int .i64 6)).heap[M2]? = some (.cells #[.int .i64 6] 31 (0, 0)) := set_at N2.out
      have fK : (WN.setCell ⟨M2, 0, none⟩ (.int .i64 6)).heap[D]? = some (.deferred (some [])) := by
        refine (set_old ?_).trans NK.out
        intro e; subst e; have := N2.out; rw [NK.out] at this; cases this
      refine ⟨by simp, .inl ⟨_, _, rfl, run_takeDeferred fK, ?_⟩⟩
      have g1 : ((WN.setCell ⟨M2, 0, none⟩ (.int .i64 6)).putObj D (.deferred none)).heap[M1]? = some (.cells #[.string (str zI.key), .int .i64 zI.v.k, .int .i64 zI.v.i, .string (str zI.v.s), .int .i64 zI.ver] 48 (0, 0)) := (World.putObj_heap_other (by intro e; subst e; rw [f1] at fK; cases fK)).trans f1
      have g2 : ((WN.setCell ⟨M2, 0, none⟩ (.int .i64 6)).putObj D (.deferred none)).heap[M2]? = some (.cells #[.int .i64 6] 31 (0, 0)) := (World.putObj_heap_other (by intro e; subst e; rw [f2] at fK; cases fK)).trans f2
      refine ⟨_, results_row_cell rfl _ _ M1 M2 48 #[.string (str zI.key), .int .i64 zI.v.k, .int .i64 zI.v.i, .string (str zI.v.s), .int .i64 zI.ver] (0, 0) _ (.int .i64 6) rfl rfl g1 Tryz.underlying48 rfl infoI (loadErr g2), ?_⟩
      rw [HZ.out, HE.out.1, HE.out.2]
      exact ⟨rfl, (HBN.out.setCell (p := ⟨M2, 0, none⟩) HM2.out _).trans (below_put11 HN5.out hD fK)⟩
    case stop =>
      rintro D c pre W hD ⟨j, hj1, hj⟩ ⟨rfl, x, hpre, hfx, hb⟩ hK
      have m1 := hfx (M1, _) (List.mem_cons_self ..)
      have m2 := hfx (M2, _) (List.mem_cons_of_mem _ (List.mem_cons_self ..))
      simp only at m1 m2
      rw [hpre] at hj1
      have hj0 : j = 0 := by
        have := congrArg List.length hj1
        rw [ixs_len, List.length_take] at this
        simp only [List.length_cons, List.length_nil] at this
        omega
      subst hj0
      have hx : x.1 = (rngL lv k [])[0]'hj := by
        rw [take_snoc11 hj, ixs_snoc] at hj1
        simp only [List.take_zero, ixs_nil, List.nil_append, List.cons.injEq, and_true] at hj1
        rw [hj1]
      have e1 : fiI lv vs k = x.1 := by
        unfold fiI; rw [if_pos HC.out, hx]
        exact head_at hj
      have e2 : fiE lv vs k = 0 := by
        unfold fiE; rw [if_pos HC.out, if_neg]
        intro h9; rw [h9] at hj; simp at hj
      have HE := Lib.hid (And.intro e1 e2)
      clear hfx hj1 hx e1 e2 hpre hj
      gi_wp2
      refine ⟨by simp, .inl ⟨_, _, rfl, run_takeDeferred hK, ?_⟩⟩
      have g1 : (W.putObj D (.deferred none)).heap[M1]? = some (.cells #[.string (str x.1.key), .int .i64 x.1.v.k, .int .i64 x.1.v.i, .string (str x.1.v.s), .int .i64 x.1.ver] 48 (0, 0)) := (World.putObj_heap_other (by intro e; subst e; rw [m1] at hK; cases hK)).trans m1
      have g2 : (W.putObj D (.deferred none)).heap[M2]? = some (.cells #[.int .i64 0] 31 (0, 0)) := (World.putObj_heap_other (by intro e; subst e; rw [m2] at hK; cases hK)).trans m2
      refine ⟨_, results_row_cell rfl _ _ M1 M2 48 #[.string (str x.1.key), .int .i64 x.1.v.k, .int .i64 x.1.v.i, .string (str x.1.v.s), .int .i64 x.1.ver] (0, 0) _ (.int .i64 0) rfl rfl g1 Tryz.underlying48 rfl infoI (loadErr g2), ?_⟩
      rw [HZ.out, HE.out.1, HE.out.2]
      exact ⟨rfl, hb.trans (below_put11 HN5.out hD hK)⟩
  · have hcn : 1 ≤ ckE lv vs [k] := by omega
    have e1 : fiI lv vs k = zI := by unfold fiI; rw [if_neg hc]
    have e2 : fiE lv vs k = ckE lv vs [k] := by unfold fiE; rw [if_neg hc]
    obtain ⟨E, hE⟩ : ∃ E, E = ckE lv vs [k] := ⟨_, rfl⟩
    rw [← hE] at CK0 hcn e2
    have HE := Lib.hid (And.intro e1 e2)
    have CK := Lib.hid CK0
    have d1 : ((E : Int) != 0) = true := by simp; omega
    subst hWA
    have H12 : w.heap.size + 1 ≠ w.heap.size + 1 + 1 := by omega
    clear CK0 hc hZ h tab hsz hE e1 e2
    go_enter Tryz.func20, Tryz.ntmps20
    go_wp2_with (first | ((with_reducible refine wpList_load_row (o := ⟨some 9, _, _, _, _, _⟩) rfl 26 (.tmp 2) rfl _ rfl _ cs (0, 0) _ q1 Tryz.underlying26 rfl hsT ?_)) | ((with_reducible refine CK.out.mono ?_); rintro e w2 ⟨rfl, g⟩; (have bel := chain belB g); (have p2 := (g.block _ (lt_of_block p2)).trans p2); (have p3 : w2.heap[w.heap.size + 1 + 1]? = some (.cells #[.int .i64 0] 31 (0, 0)) := (g.block _ (lt_of_block p3)).trans p3); (have n1 := setRow_heap w2 (w.heap.size + 1) _ #[.string (str zI.key), .int .i64 zI.v.k, .int .i64 zI.v.i, .string (str zI.v.s), .int .i64 zI.ver] _ _ p2); (have n2 := (setRow_other w2 (w.heap.size + 1) (w.heap.size + 1 + 1) #[.string (str zI.key), .int .i64 zI.v.k, .int .i64 zI.v.i, .string (str zI.v.s), .int .i64 zI.ver] H12.symm).trans p3); (have BN := below_row bel (Nat.le_add_right _ 1) #[.string (str zI.key), .int .i64 zI.v.k, .int .i64 zI.v.i, .string (str zI.v.s), .int .i64 zI.ver]); (obtain ⟨WN, hWN⟩ : ∃ V, V = w2.setRow (w.heap.size + 1) #[.string (str zI.key), .int .i64 zI.v.k, .int .i64 zI.v.i, .string (str zI.v.s), .int .i64 zI.ver] := ⟨_, rfl⟩); rw [← hWN] at n1 n2 BN; (have cm := block_cell n2 0); (have cf := block_frozen n2 0); (simp only [List.getElem?_toArray, List.getElem?_cons_zero] at cm); (have HBN := Lib.hid BN); (have HWN := Lib.hid hWN); (have N1 := Lib.hid n1); (have N2 := Lib.hid n2); clear n1 n2 BN hWN p3) | (refine wpList_store_row (o := ⟨none, _, _, _, _, _⟩) rfl 48 (.tmp 4) (.tmp 15) rfl _ #[.string (str zI.key), .int .i64 zI.v.k, .int .i64 zI.v.i, .string (str zI.v.s), .int .i64 zI.ver] rfl rfl 48 #[.string (str zI.key), .int .i64 zI.v.k, .int .i64 zI.v.i, .string (str zI.v.s), .int .i64 zI.ver] p2 infoI rfl (itc_one zI) ?_; rw [← HWN.out]))
    have f1 : (WN.setCell ⟨w.heap.size + 1 + 1, 0, none⟩ (.int .i64 (E : Int))).heap[w.heap.size + 1]? = some (.cells #[.string (str zI.key), .int .i64 zI.v.k, .int .i64 zI.v.i, .string (str zI.v.s), .int .i64 zI.ver] 48 (0, 0)) := (set_old H12).trans N1.out
    have f2 : (WN.setCell ⟨w.heap.size + 1 + 1, 0, none⟩ (.int .i64 (E : Int))).heap[w.heap.size + 1 + 1]? = some (.cells #[.int .i64 (E : Int)] 31 (0, 0)) := set_at N2.out
    refine bodyPost_ret (results_row_cell rfl _ _ _ _ 48 #[.string (str zI.key), .int .i64 zI.v.k, .int .i64 zI.v.i, .string (str zI.v.s), .int .i64 zI.ver] (0, 0) _ (.int .i64 (E : Int)) rfl rfl f1 Tryz.underlying48 rfl infoI (loadErr f2)) rfl ?_
    rw [HZ.out, HE.out.1, HE.out.2]
    exact ⟨rfl, HBN.out.setCell (p := ⟨w.heap.size + 1 + 1, 0, none⟩) (by simp; omega) _⟩
end Go.Proofs.YtbdfcgffkonbiaaGreatDoor
