/- Span: Sum. Written by wip/tools/gen11y.py. -/
import Derived.Test.YtbdfcgffkonbiaaGreatDoorQSSC39
namespace Go.Proofs.YtbdfcgffkonbiaaGreatDoor
open Go Go.RowKit
set_option linter.unusedVariables false
set_option linter.unusedSimpArgs false
set_option maxRecDepth 100000
attribute [local go_sem] Oper.semAt_some
theorem results_cells2 {P : Program} {fn : Func} {p q : Tmp} {ty ty2 : TypeId} (h : fn.results = #[.cell p ty, .cell q ty2]) (tmps : Array Value) (w : World) (g g2 : Nat) (u v : Value)
    (hp : tmps.getD p undef = .pointer (some ⟨g, 0, none⟩)) (hq : tmps.getD q undef = .pointer (some ⟨g2, 0, none⟩)) (h1 : (loadVar ty ⟨g, 0, none⟩).run P w = .ok u w) (h2 : (loadVar ty2 ⟨g2, 0, none⟩).run P w = .ok v w) :
    (results fn tmps).run P w = .ok (.tuple #[u, v]) w := by
  have hp' : tmps[p]?.getD undef = .pointer (some ⟨g, 0, none⟩) := by simpa using hp
  have hq' : tmps[q]?.getD undef = .pointer (some ⟨g2, 0, none⟩) := by simpa using hq
  simp [results, h, hp', hq', asAddr, h1, h2]
theorem loadI64 {w : World} {g : Nat} {v : Value} (h : w.heap[g]? = some (.cells #[v] 2 (0, 0))) : (loadVar 2 ⟨g, 0, none⟩).run Tryz.prog w = .ok v w := by
  have hc := block_cell h 0
  simp only [List.getElem?_toArray, List.getElem?_cons_zero] at hc
  go_simp
theorem kp_set {M : Nat} {A : World} {g : Nat} {cs : Array Value} {t : TypeId} (q : A.heap[g]? = some (.cells cs t (0, 0))) (hM : M ≤ g) (ht : t ≠ 26 ∧ t ≠ 9 ∧ t ≠ 24) (i : Nat) (v : Value) : Kp11 M A (A.setCell ⟨g, i, none⟩ v) :=
  Kp11.of_grown (row := some g) (grown_setB grown_reflB) fun r hr => by
    injection hr with hr
    subst hr
    refine ⟨hM, fun cs' t' fr hq => ?_⟩
    rw [q] at hq
    injection hq with hq; injection hq with _ hq _
    subst hq; exact ht
def ovB (n s i : Int) : Bool := decide (n < s) != decide (i < 0)
def stepS (s : Int × Nat) (x : It) : Int × Nat := (IntKind.i64.wrap (s.1 + x.v.i), if ovB (IntKind.i64.wrap (s.1 + x.v.i)) s.1 x.v.i = true then 8 else s.2)
def sumSt (l : List It) : Int × Nat := l.foldl stepS (0, 0)
def sumK (l : List It) : Bool := l.all (fun x => decide (x.v.k = 2))
theorem sum_snoc (l : List It) (x : It) : sumSt (l ++ [x]) = stepS (sumSt l) x := by unfold sumSt; rw [List.foldl_append]; rfl
theorem sumK_snoc (l : List It) (x : It) : sumK (l ++ [x]) = (sumK l && decide (x.v.k = 2)) := by unfold sumK; rw [List.all_append]; simp
theorem sum_e : ∀ (l : List It) (s : Int × Nat), (s.2 = 0 ∨ s.2 = 8) → ((l.foldl stepS s).2 = 0 ∨ (l.foldl stepS s).2 = 8)
  | [], s, h => h
  | x :: l, s, h => sum_e l (stepS s x) (by unfold stepS; simp only; split; exact .inr rfl; exact h)
def suI (lv : Nat → List It) (vs : Nat → Int) (f t : List UInt8) : Int := if ckE lv vs [f, t] = 0 then (if sumK (rngL lv f t) = true then (if (sumSt (rngL lv f t)).2 = 0 then (sumSt (rngL lv f t)).1 else 0) else 0) else 0
def suE (lv : Nat → List It) (vs : Nat → Int) (f t : List UInt8) : Nat := if ckE lv vs [f, t] = 0 then (if sumK (rngL lv f t) = true then (sumSt (rngL lv f t)).2 else 10) else ckE lv vs [f, t]
set_option maxHeartbeats 1000000 in
theorem sum11_any (cs : Array Value) (lv : Nat → List It) (vs : Nat → Int) (f t : List UInt8) (w : World) (tab : TabAt w) (h : RdT w cs lv vs) (hsz : SzT lv) (hf : f.length ≤ maxLen) (ht : t.length ≤ maxLen) :
    Calls Tryz.prog 6 #[.agg cs, .string (str f), .string (str t)] w fun e w' => e = .returned (.tuple #[.int .i64 (suI lv vs f t), .int .i64 (suE lv vs f t : Int)]) ∧ Below w.heap.size w w' := by
  have hs32 := h.size
  have hsT := infoTc hs32
  obtain ⟨q1, q2, q3, zs⟩ := allocs3 w (.cells cs 26) (.cells #[.int .i64 0] 2) (.cells #[.int .i64 0] 31)
  obtain ⟨WA, hWA⟩ : ∃ W, W = ((w.alloc (.cells cs 26)).alloc (.cells #[.int .i64 0] 2)).alloc (.cells #[.int .i64 0] 31) := ⟨_, rfl⟩
  have belA : Below w.heap.size w WA := by rw [hWA]; exact (((Below.refl _ w).alloc (Nat.le_refl _) (.cells cs 26)).alloc (by simp) (.cells #[.int .i64 0] 2)).alloc (by simp; omega) (.cells #[.int .i64 0] 31)
  rw [← hWA] at q1 q2 q3 zs
  have qb := heap_alloc_new WA (.cells #[.string (str f), .string (str t)] 9)
  have belB := belA.alloc belA.size (.cells #[.string (str f), .string (str t)] 9)
  rw [zs] at qb
  have CK0 := check2_any cs lv vs f t _ (tab.below belB) (h.below belB (Nat.le_refl _)) hsz hf ht _ qb
  have p1 := (@heap_alloc_old WA (.cells #[.string (str f), .string (str t)] 9) _ (lt_of_block q1)).trans q1
  have p2 := (@heap_alloc_old WA (.cells #[.string (str f), .string (str t)] 9) _ (lt_of_block q2)).trans q2
  have p3 := (@heap_alloc_old WA (.cells #[.string (str f), .string (str t)] 9) _ (lt_of_block q3)).trans q3
  obtain ⟨Z, hZ⟩ : ∃ Z : Ending → World → Prop, Z = fun e w' => e = .returned (.tuple #[.int .i64 (suI lv vs f t), .int .i64 (suE lv vs f t : Int)]) ∧ Below w.heap.size w w' := ⟨_, rfl⟩
  rw [← hZ]
  have HZ := Lib.hid hZ
  have HT := Lib.hid h
  by_cases hc : ckE lv vs [f, t] = 0
  · have HM : Hid (mayTs lv vs 16 = true) := Lib.hid (by
      cases hm : mayTs lv vs 16 with
      | true => rfl
      | false => rw [ck_no hm] at hc; cases hc)
    rw [hc] at CK0
    have CK := Lib.hid CK0
    have HC := Lib.hid hc
    subst hWA
    clear CK0 hc hZ h tab hsz
    refine (callsIn_wide (n := 7)).1 ?_
    refine callsIn_of_wp_marks Tryz.func6 rfl trivial ?_ rfl
    simp only [Tryz.ntmps6, List.size_toArray, List.length_cons, List.length_nil, Nat.reduceAdd, Nat.reduceSub, Array.replicate_succ, Array.replicate_zero, List.push_toArray, List.append_toArray, List.nil_append, List.cons_append]
    gi_wp2_with (first | ((with_reducible refine wpListIn_load_row (o := ⟨some 14, _, _, _, _, _⟩) rfl 26 (.tmp 3) rfl _ rfl _ cs (0, 0) _ q1 Tryz.underlying26 rfl hsT ?_)) | (refine ⟨trivial, ?_⟩; gi_at_call 12; refine (callsIn_wide.2 CK.out).mono ?_; rintro e w2 ⟨rfl, g⟩; (have p1 := (g.block _ (lt_of_block p1)).trans p1); (have p2 := (g.block _ (lt_of_block p2)).trans p2); (have p3 := (g.block _ (lt_of_block p3)).trans p3); (have bel := chain belB g); (obtain ⟨s1, s2, sz⟩ := two_allocs w2 (.cells #[.int .i64 0] 2) (.cells #[.int .i64 0] 31)); (have bs := ((Below.refl _ w2).alloc (Nat.le_refl _) (.cells #[.int .i64 0] 2)).alloc (by simp) (.cells #[.int .i64 0] 31)); (have p1 := (bs.block _ (lt_of_block p1)).trans p1)) | ((with_reducible refine wpListIn_load_row (o := ⟨some 22, _, _, _, _, _⟩) rfl 26 (.tmp 3) rfl _ rfl _ cs (0, 0) _ p1 Tryz.underlying26 rfl hsT ?_)) | (refine ⟨trivial, ?_⟩; gi_at_call 13; refine (callsIn_wide.2 (items_some cs hs32 f t _)).mono ?_; rintro e w5 ⟨Bt, Bf, Bo, rfl, r1, r2, r3, g5⟩))
    have bel5 := chain (bel.trans (bs.mono bel.size)) g5
    have m1 := (g5.block _ (by have := lt_of_block p2; have := sz.1; omega)).trans ((bs.block _ (lt_of_block p2)).trans p2)
    have m2 := (g5.block _ (by have := lt_of_block p3; have := sz.1; omega)).trans ((bs.block _ (lt_of_block p3)).trans p3)
    have m3 := (g5.block _ (lt_of_block s1)).trans s1
    have m4 := (g5.block _ (lt_of_block s2)).trans s2
    have hlt2 := lt_of_block p3
    obtain ⟨R1, hR1⟩ : ∃ M, M = w.heap.size + 1 := ⟨_, rfl⟩
    obtain ⟨R2, hR2⟩ : ∃ M, M = w.heap.size + 1 + 1 := ⟨_, rfl⟩
    obtain ⟨SM, hSM⟩ : ∃ M, M = w2.heap.size := ⟨_, rfl⟩
    obtain ⟨EM, hEM⟩ : ∃ M, M = w2.heap.size + 1 := ⟨_, rfl⟩
    have m2 : w5.heap[w.heap.size + 1 + 1]? = some (.cells #[.int .i64 0] 31 (0, 0)) := m2
    rw [← hR1] at m1
    rw [← hR2] at m2
    rw [← hSM] at m3
    rw [← hEM] at m4
    rw [← hR2, ← hR1, ← hEM, ← hSM]
    have hl5 := bel5.size
    have H1 := Lib.hid (show R2 ≠ R1 ∧ EM ≠ R1 ∧ SM ≠ R1 ∧ EM ≠ R2 ∧ SM ≠ R2 ∧ EM ≠ SM by omega)
    have HN5 := Lib.hid hl5
    have HM := Lib.hid (And.intro HM.out (show w.heap.size ≤ R1 ∧ w.heap.size ≤ R2 ∧ w.heap.size ≤ SM ∧ w.heap.size ≤ EM by omega))
    have OK0 : ∀ a b c d : Int, FixF [(R1, .cells #[.int .i64 a] 2 (0, 0)), (R2, .cells #[.int .i64 b] 31 (0, 0)), (SM, .cells #[.int .i64 c] 2 (0, 0)), (EM, .cells #[.int .i64 d] 31 (0, 0))] := fun a b c d p hp => by
      simp only [List.mem_cons, List.not_mem_nil, or_false] at hp
      rcases hp with rfl | rfl | rfl | rfl <;> exact ⟨_, _, rfl, by decide⟩
    have OK := Lib.hid OK0
    have HI0 := Lib.hid (show InvF [(R1, .cells #[.int .i64 0] 2 (0, 0)), (R2, .cells #[.int .i64 0] 31 (0, 0)), (SM, .cells #[.int .i64 0] 2 (0, 0)), (EM, .cells #[.int .i64 0] 31 (0, 0))] w.heap.size w w5 from ⟨fun p hp => by
      simp only [List.mem_cons, List.not_mem_nil, or_false] at hp
      rcases hp with rfl | rfl | rfl | rfl
      · exact m1
      · exact m2
      · exact m3
      · exact m4, bel5⟩)
    have GV := items_gives (7 - 1) (by decide) Bt Bf Bo cs lv vs f t w w5 HT.out HM.out.1 bel5 r1 r2 r3
    clear q1 q2 q3 qb p1 p2 p3 g g5 bel bel5 belA belB zs r1 r2 r3 hl5 hR1 hR2 hSM hEM OK0 m1 m2 m3 m4 s1 s2 sz bs hlt2
    refine range_lawM rfl (by decide) (gf := 29) (lb := #[.pointer (some ⟨Bt, 0, none⟩), .pointer (some ⟨Bf, 0, none⟩), .pointer (some ⟨Bo, 0, none⟩)]) rfl trivial (enters_of Tryz.func29 (by kernel_rfl) rfl) (fun _ => rfl)
      GV
      (fun A B h => h.keeps _) (fun h k => h.trans k) (fun W l o o' => Kp11.put HN5.out W l o o')
      (fun pre X => sumK (fsts pre) = true ∧ InvF [(R1, .cells #[.int .i64 0] 2 (0, 0)), (R2, .cells #[.int .i64 0] 31 (0, 0)), (SM, .cells #[.int .i64 (sumSt (fsts pre)).1] 2 (0, 0)), (EM, .cells #[.int .i64 ((sumSt (fsts pre)).2 : Int)] 31 (0, 0))] w.heap.size w X)
      (fun c pre X => c = .ret ∧ ∃ pre' x, pre = pre' ++ [x] ∧ decide (x.1.v.k = 2) = false ∧ ∃ a b, InvF [(R1, .cells #[.int .i64 0] 2 (0, 0)), (R2, .cells #[.int .i64 10] 31 (0, 0)), (SM, .cells #[.int .i64 a] 2 (0, 0)), (EM, .cells #[.int .i64 b] 31 (0, 0))] w.heap.size w X)
      (fun s X Y row h hg hr => ⟨h.1, InvF.from (OK.out _ _ _ _) HN5.out (Nat.le_refl _) h.2 hg hr⟩)
      (fun c s X Y row h hg hr => by
        obtain ⟨h1, pre', x, h2, h3, a, b, h4⟩ := h
        exact ⟨h1, pre', x, h2, h3, a, b, InvF.from (OK.out _ _ _ _) HN5.out (Nat.le_refl _) h4 hg hr⟩)
      (fun s A B h t => ⟨h.1, InvF.turn (OK.out _ _ _ _) (Nat.le_refl _) h.2 t⟩)
      (fun c s A B h t => by
        obtain ⟨h1, pre', x, h2, h3, a, b, h4⟩ := h
        exact ⟨h1, pre', x, h2, h3, a, b, InvF.turn (OK.out _ _ _ _) (Nat.le_refl _) h4 t⟩)
      ⟨rfl, HI0.out⟩
      (fun x W => { tmps := #[.agg cs, .string (str f), .string (str t), .pointer (some ⟨w.heap.size, 0, none⟩), undef, undef, .pointer (some ⟨R1, 0, none⟩), .pointer (some ⟨R2, 0, none⟩), .int .i64 0, .pointer (some ⟨SM, 0, none⟩), .pointer (some ⟨EM, 0, none⟩), undef, .pointer (some ⟨W.heap.size, 0, none⟩), undef, .agg cs, .string (str f), .string (str t), .slice (some ⟨w.heap.size + 3, 0, none⟩) 2 2, .int .i64 0, .int .i64 0, .bool false, undef, .agg cs, .string (str f), .string (str t), .func (.func 29) #[] #[.pointer (some ⟨Bt, 0, none⟩), .pointer (some ⟨Bf, 0, none⟩), .pointer (some ⟨Bo, 0, none⟩)], .int .i64 (x.2 : Int), .agg #[.string (str x.1.key), .int .i64 x.1.v.k, .int .i64 x.1.v.i, .string (str x.1.v.s), .int .i64 x.1.ver], undef, undef, undef, undef, undef, undef, undef, undef, undef, undef, undef, undef, undef, undef, undef, undef, undef, undef, undef, undef, undef, undef], defers := [] })
      (fun x W => W.alloc (.cells #[.string (str x.1.key), .int .i64 x.1.v.k, .int .i64 x.1.v.i, .string (str x.1.v.s), .int .i64 x.1.ver] 48))
      (fun x W => (Below.refl _ W).alloc (Nat.le_refl _) _) (fun x W => Kp11.of_below ((Below.refl _ W).alloc (Nat.le_refl _) _)) (fun s A B h g => ⟨h.1, InvF.below (Nat.le_refl _) h.2 g⟩) ?assign ?body ?done ?stop
    case assign =>
      intro l x W K hK
      obtain ⟨x, j⟩ := x
      simp only at hK ⊢
      gi_wp2
      exact hK
    case body =>
      rintro l pre x W X ⟨hkk, hfx, hb⟩ hlen hW hn
      obtain ⟨x, j⟩ := x
      simp only at hn ⊢
      rw [heap_alloc_new] at hn
      have m1 : X.heap[R1]? = some (.cells #[.int .i64 0] 2 (0, 0)) := hfx (R1, _) (by simp)
      have m2 : X.heap[R2]? = some (.cells #[.int .i64 0] 31 (0, 0)) := hfx (R2, _) (by simp)
      have m3 : X.heap[SM]? = some (.cells #[.int .i64 (sumSt (fsts pre)).1] 2 (0, 0)) := hfx (SM, _) (by simp)
      have m4 : X.heap[EM]? = some (.cells #[.int .i64 ((sumSt (fsts pre)).2 : Int)] 31 (0, 0)) := hfx (EM, _) (by simp)
      obtain ⟨e0, e1, e2, e3, e4, ef⟩ := block_cells5 hn
      have HS := Lib.hid (sum_snoc (fsts pre) x)
      have HSK := Lib.hid (sumK_snoc (fsts pre) x)
      have HKK := Lib.hid hkk
      have HBL := Lib.hid hb
      obtain ⟨s, hs⟩ : ∃ s, s = (sumSt (fsts pre)).1 := ⟨_, rfl⟩
      obtain ⟨e, he⟩ : ∃ e, e = (sumSt (fsts pre)).2 := ⟨_, rfl⟩
      rw [← hs] at m3
      rw [← he] at m4
      have HSE := Lib.hid (show sumSt (fsts pre) = (s, e) by rw [hs, he])
      have cA := block_cell m1 0
      have cB := block_cell m2 0
      have cC := block_cell m3 0
      have cD := block_cell m4 0
      simp only [List.getElem?_toArray, List.getElem?_cons_zero] at cA cB cC cD
      have fA := block_frozen m1 0
      have fB := block_frozen m2 0
      have fC := block_frozen m3 0
      have fD := block_frozen m4 0
      have M1 := Lib.hid m1
      have M2 := Lib.hid m2
      have M3 := Lib.hid m3
      have M4 := Lib.hid m4
      clear hfx hb hn hkk m1 m2 m3 m4 hs he
      by_cases hk : x.v.k = 2
      · have d0 : (x.v.k != 2) = false := by simp [hk]
        have HK2 := Lib.hid (show sumK (fsts (pre ++ [(x, j)])) = true by rw [fsts_snoc, HSK.out, HKK.out]; simp [hk])
        obtain ⟨n, hn⟩ : ∃ n, IntKind.i64.wrap (s + x.v.i) = n := ⟨_, rfl⟩
        obtain ⟨a, ha⟩ : ∃ a, decide (n < s) = a := ⟨_, rfl⟩
        obtain ⟨b, hb⟩ : ∃ b, decide (x.v.i < 0) = b := ⟨_, rfl⟩
        have HST := Lib.hid (show sumSt (fsts (pre ++ [(x, j)])) = (n, if (a != b) = true then 8 else e) by rw [fsts_snoc, HS.out, HSE.out]; unfold stepS ovB; simp only [hn, ha, hb])
        clear hk
        cases a <;> cases b
        · gi_wp2
          refine ⟨(KeepsOthers.setCell X ⟨SM, 0, none⟩ (.int .i64 n)).from _, kp_set M3.out HM.out.2.2.2.1 (by decide) _ _, HK2.out, fun p hp => ?_, HBL.out.setCell (p := ⟨SM, 0, none⟩) HM.out.2.2.2.1 _⟩
          rw [HST.out] at hp
          simp only [List.mem_cons, List.not_mem_nil, or_false] at hp
          rcases hp with rfl | rfl | rfl | rfl
          · exact (set_old H1.out.2.2.1.symm).trans M1.out
          · exact (set_old H1.out.2.2.2.2.1.symm).trans M2.out
          · exact set_at M3.out
          · exact (set_old H1.out.2.2.2.2.2).trans M4.out
        · have n3 : (X.setCell ⟨EM, 0, none⟩ (.int .i64 8)).heap[SM]? = _ := (set_old H1.out.2.2.2.2.2.symm).trans M3.out
          have cC2 := block_cell n3 0
          have fC2 := block_frozen n3 0
          simp only [List.getElem?_toArray, List.getElem?_cons_zero] at cC2
          clear n3
          gi_wp2
          refine ⟨((KeepsOthers.setCell X ⟨EM, 0, none⟩ (.int .i64 8)).trans (KeepsOthers.setCell _ ⟨SM, 0, none⟩ (.int .i64 n))).from _, (kp_set M4.out HM.out.2.2.2.2 (by decide) _ _).trans (kp_set ((set_old H1.out.2.2.2.2.2.symm).trans M3.out) HM.out.2.2.2.1 (by decide) _ _), HK2.out, fun p hp => ?_, (HBL.out.setCell (p := ⟨EM, 0, none⟩) HM.out.2.2.2.2 _).setCell (p := ⟨SM, 0, none⟩) HM.out.2.2.2.1 _⟩
          rw [HST.out] at hp
          simp only [List.mem_cons, List.not_mem_nil, or_false] at hp
          rcases hp with rfl | rfl | rfl | rfl
          · exact (set_old H1.out.2.2.1.symm).trans ((set_old H1.out.2.1.symm).trans M1.out)
          · exact (set_old H1.out.2.2.2.2.1.symm).trans ((set_old H1.out.2.2.2.1.symm).trans M2.out)
          · exact set_at ((set_old H1.out.2.2.2.2.2.symm).trans M3.out)
          · exact (set_old H1.out.2.2.2.2.2).trans (set_at M4.out)
        · have n3 : (X.setCell ⟨EM, 0, none⟩ (.int .i64 8)).heap[SM]? = _ := (set_old H1.out.2.2.2.2.2.symm).trans M3.out
          have cC2 := block_cell n3 0
          have fC2 := block_frozen n3 0
          simp only [List.getElem?_toArray, List.getElem?_cons_zero] at cC2
          clear n3
          gi_wp2
          refine ⟨((KeepsOthers.setCell X ⟨EM, 0, none⟩ (.int .i64 8)).trans (KeepsOthers.setCell _ ⟨SM, 0, none⟩ (.int .i64 n))).from _, (kp_set M4.out HM.out.2.2.2.2 (by decide) _ _).trans (kp_set ((set_old H1.out.2.2.2.2.2.symm).trans M3.out) HM.out.2.2.2.1 (by decide) _ _), HK2.out, fun p hp => ?_, (HBL.out.setCell (p := ⟨EM, 0, none⟩) HM.out.2.2.2.2 _).setCell (p := ⟨SM, 0, none⟩) HM.out.2.2.2.1 _⟩
          rw [HST.out] at hp
          simp only [List.mem_cons, List.not_mem_nil, or_false] at hp
          rcases hp with rfl | rfl | rfl | rfl
          · exact (set_old H1.out.2.2.1.symm).trans ((set_old H1.out.2.1.symm).trans M1.out)
          · exact (set_old H1.out.2.2.2.2.1.symm).trans ((set_old H1.out.2.2.2.1.symm).trans M2.out)
          · exact set_at ((set_old H1.out.2.2.2.2.2.symm).trans M3.out)
          · exact (set_old H1.out.2.2.2.2.2).trans (set_at M4.out)
        · gi_wp2
          refine ⟨(KeepsOthers.setCell X ⟨SM, 0, none⟩ (.int .i64 n)).from _, kp_set M3.out HM.out.2.2.2.1 (by decide) _ _, HK2.out, fun p hp => ?_, HBL.out.setCell (p := ⟨SM, 0, none⟩) HM.out.2.2.2.1 _⟩
          rw [HST.out] at hp
          simp only [List.mem_cons, List.not_mem_nil, or_false] at hp
          rcases hp with rfl | rfl | rfl | rfl
          · exact (set_old H1.out.2.2.1.symm).trans M1.out
          · exact (set_old H1.out.2.2.2.2.1.symm).trans M2.out
          · exact set_at M3.out
          · exact (set_old H1.out.2.2.2.2.2).trans M4.out
      · have d0 : (x.v.k != 2) = true := by simp [hk]
        have HK2 := Lib.hid (show decide (x.v.k = 2) = false by simp [hk])
        have n3 : (X.setCell ⟨R1, 0, none⟩ (.int .i64 0)).heap[R2]? = _ := (set_old H1.out.1).trans M2.out
        have cC2 := block_cell n3 0
        have fC2 := block_frozen n3 0
        simp only [List.getElem?_toArray, List.getElem?_cons_zero] at cC2
        clear hk n3
        gi_wp2
        refine ⟨((KeepsOthers.setCell X ⟨R1, 0, none⟩ (.int .i64 0)).trans (KeepsOthers.setCell _ ⟨R2, 0, none⟩ (.int .i64 10))).from _, rfl, pre, (x, j), rfl, HK2.out, s, (e : Int), fun p hp => ?_, (HBL.out.setCell (p := ⟨R1, 0, none⟩) HM.out.2.1 _).setCell (p := ⟨R2, 0, none⟩) HM.out.2.2.1 _⟩
        simp only [List.mem_cons, List.not_mem_nil, or_false] at hp
        rcases hp with rfl | rfl | rfl | rfl
        · exact (set_old H1.out.1.symm).trans (set_at M1.out)
        · exact set_at ((set_old H1.out.1).trans M2.out)
        · exact (set_old H1.out.2.2.2.2.1).trans ((set_old H1.out.2.2.1).trans M3.out)
        · exact (set_old H1.out.2.2.2.1).trans ((set_old H1.out.2.1).trans M4.out)
    case done =>
      rintro D ys W hD rfl ⟨hkk, hfx, hb⟩ hK
      rw [fsts_ixs] at hkk hfx
      have m1 : W.heap[R1]? = some (.cells #[.int .i64 0] 2 (0, 0)) := hfx (R1, _) (by simp)
      have m2 : W.heap[R2]? = some (.cells #[.int .i64 0] 31 (0, 0)) := hfx (R2, _) (by simp)
      have m3 : W.heap[SM]? = some (.cells #[.int .i64 (sumSt (rngL lv f t)).1] 2 (0, 0)) := hfx (SM, _) (by simp)
      have m4 : W.heap[EM]? = some (.cells #[.int .i64 ((sumSt (rngL lv f t)).2 : Int)] 31 (0, 0)) := hfx (EM, _) (by simp)
      have he8 : (sumSt (rngL lv f t)).2 = 0 ∨ (sumSt (rngL lv f t)).2 = 8 := sum_e (rngL lv f t) (0, 0) (.inl rfl)
      have eI : suI lv vs f t = if (sumSt (rngL lv f t)).2 = 0 then (sumSt (rngL lv f t)).1 else 0 := by unfold suI; rw [if_pos HC.out, if_pos hkk]
      have eE : suE lv vs f t = (sumSt (rngL lv f t)).2 := by unfold suE; rw [if_pos HC.out, if_pos hkk]
      obtain ⟨s, hs⟩ : ∃ s, s = (sumSt (rngL lv f t)).1 := ⟨_, rfl⟩
      obtain ⟨e, he⟩ : ∃ e, e = (sumSt (rngL lv f t)).2 := ⟨_, rfl⟩
      rw [← hs] at m3 eI
      rw [← he] at m4 eI eE he8
      have hDR1 : D ≠ R1 := by intro e; subst e; rw [m1] at hK; cases hK
      have hDR2 : D ≠ R2 := by intro e; subst e; rw [m2] at hK; cases hK
      rcases he8 with rfl | rfl
      · rw [if_pos rfl] at eI
        have HE := Lib.hid (And.intro eI eE)
        have cA := block_cell m1 0
        have cC := block_cell m3 0
        have cD := block_cell m4 0
        simp only [List.getElem?_toArray, List.getElem?_cons_zero] at cA cC cD
        have fA := block_frozen m1 0
        have n3 : (W.setCell ⟨R1, 0, none⟩ (.int .i64 s)).heap[R2]? = _ := (set_old H1.out.1).trans m2
        have cC2 := block_cell n3 0
        have fC2 := block_frozen n3 0
        simp only [List.getElem?_toArray, List.getElem?_cons_zero] at cC2
        have HH := Lib.hid (show ∃ WF, WF = (W.setCell ⟨R1, 0, none⟩ (.int .i64 s)).setCell ⟨R2, 0, none⟩ (.int .i64 0) ∧ WF.heap[R1]? = some (.cells #[.int .i64 s] 2 (0, 0)) ∧ WF.heap[R2]? = some (.cells #[.int .i64 0] 31 (0, 0)) ∧ WF.heap[D]? = some (.deferred (some [])) ∧ Below w.heap.size w WF from
          ⟨_, rfl, (set_old H1.out.1.symm).trans (set_at m1), set_at n3, (set_old hDR2).trans ((set_old hDR1).trans hK), (hb.setCell (p := ⟨R1, 0, none⟩) HM.out.2.1 _).setCell (p := ⟨R2, 0, none⟩) HM.out.2.2.1 _⟩)
        clear hfx hb m1 m2 m3 m4 n3 eI eE hkk hs he hK
        gi_wp2
        obtain ⟨WF, hWF, f1, f2, fK, fB⟩ := HH.out
        rw [← hWF]
        have g1 : (WF.putObj D (.deferred none)).heap[R1]? = _ := (World.putObj_heap_other (by intro e; subst e; rw [f1] at fK; cases fK)).trans f1
        have g2 : (WF.putObj D (.deferred none)).heap[R2]? = _ := (World.putObj_heap_other (by intro e; subst e; rw [f2] at fK; cases fK)).trans f2
        refine ⟨by simp, .inl ⟨_, _, rfl, run_takeDeferred fK, ?_⟩⟩
        refine ⟨_, results_cells2 rfl _ _ R1 R2 _ _ rfl rfl (loadI64 g1) (loadErr g2), ?_⟩
        rw [HZ.out, HE.out.1, HE.out.2]
        exact ⟨rfl, fB.trans (below_put11 HN5.out hD fK)⟩
      · rw [if_neg (by decide)] at eI
        have HE := Lib.hid (And.intro eI eE)
        have cD := block_cell m4 0
        simp only [List.getElem?_toArray, List.getElem?_cons_zero] at cD
        have MM2 := Lib.hid m2
        have SH : W.drew.heap[EM]? = some (.cells #[.int .i64 8] 31 (0, 0)) ∧ W.drew.heap[R1]? = some (.cells #[.int .i64 0] 2 (0, 0)) ∧ W.drew.heap[R2]? = some (.cells #[.int .i64 0] 31 (0, 0)) := ⟨m4, m1, m2⟩
        have HH := Lib.hid (show ∃ WF, WF = ((W.setCell ⟨R1, 0, none⟩ (.int .i64 0)).setCell ⟨R2, 0, none⟩ (.int .i64 8)).drew ∧ WF.heap[R1]? = some (.cells #[.int .i64 0] 2 (0, 0)) ∧ WF.heap[R2]? = some (.cells #[.int .i64 8] 31 (0, 0)) ∧ WF.heap[D]? = some (.deferred (some [])) ∧ Below w.heap.size w WF from
          ⟨_, rfl, (set_old H1.out.1.symm).trans (set_at m1), set_at ((set_old H1.out.1).trans m2), (set_old hDR2).trans ((set_old hDR1).trans hK), Below.drew ((hb.setCell (p := ⟨R1, 0, none⟩) HM.out.2.1 _).setCell (p := ⟨R2, 0, none⟩) HM.out.2.2.1 _)⟩)
        clear hfx hb m1 m2 m3 m4 eI eE hkk hs he hK
        gi_wp2
        refine j_start (ro := none) 2 (fun w' => w'.heap[EM]? = some (.cells #[.int .i64 8] 31 (0, 0)) ∧ w'.heap[R1]? = some (.cells #[.int .i64 0] 2 (0, 0)) ∧ w'.heap[R2]? = some (.cells #[.int .i64 0] 31 (0, 0))) (by rintro ⟨_, _, h⟩; have h : Z .outgrown _ := h; rw [HZ.out] at h; obtain ⟨h, _⟩ := h; cases h) (by kernel_rfl) (by kernel_rfl) ?_
        refine v_run2 (i := 0) (k := 1) rfl rfl (by kernel_rfl) (by kernel_rfl) (by rfl) (by rfl) (fun K hK => ?_) (fun K hK => ?_)
        · skip
          have z := block_cell SH.1 0; simp only [List.getElem?_toArray, List.getElem?_cons_zero] at z; go_simp; refine hK _ _ ⟨SH, ?_⟩; clear hK K z
          try simp only [Act.put, List.setIfInBounds_toArray, List.set_cons_zero, List.set_cons_succ]
          refine v_run (i := 1) rfl (by kernel_rfl) (by kernel_rfl) (by rfl) (fun K hK => ?_)
          have z := block_cell SH.2.1 0; simp only [List.getElem?_toArray, List.getElem?_cons_zero] at z; have fz := block_frozen SH.2.1 0; have SH2 := (show _ ∧ _ ∧ _ from ⟨(set_old (B := R1) (i := 0) (u := .int .i64 0) H1.out.2.1).trans SH.1, set_at (i := 0) (u := .int .i64 0) SH.2.1, (set_old (B := R1) (i := 0) (u := .int .i64 0) H1.out.1).trans SH.2.2⟩); go_simp; refine hK _ _ ⟨SH2, ?_⟩; clear hK K z fz SH; have SH := SH2
          try simp only [Act.put, List.setIfInBounds_toArray, List.set_cons_zero, List.set_cons_succ]
          refine v_last (i := 2) rfl (by kernel_rfl) (by kernel_rfl) (by kernel_rfl) (by rfl) (fun K hK => ?_)
          have z2 : (W.setCell ⟨R1, 0, none⟩ (.int .i64 0)).cell? ⟨R2, 0, none⟩ = some (.int .i64 0) := block_cell SH.2.2 0; have fz2 : W.frozen? ⟨R2, 0, none⟩ = false := block_frozen MM2.out 0; have z := block_cell SH.2.2 0; simp only [List.getElem?_toArray, List.getElem?_cons_zero] at z; have fz := block_frozen SH.2.2 0; go_simp; refine hK _ _ ?_; clear hK K
          gi_wp2
          obtain ⟨WF, hWF, f1, f2, fK, fB⟩ := HH.out
          rw [← hWF]
          have g1 : (WF.putObj D (.deferred none)).heap[R1]? = _ := (World.putObj_heap_other (by intro e; subst e; rw [f1] at fK; cases fK)).trans f1
          have g2 : (WF.putObj D (.deferred none)).heap[R2]? = _ := (World.putObj_heap_other (by intro e; subst e; rw [f2] at fK; cases fK)).trans f2
          refine ⟨by simp, .inl ⟨_, _, rfl, run_takeDeferred fK, ?_⟩⟩
          refine ⟨_, results_cells2 rfl _ _ R1 R2 _ _ rfl rfl (loadI64 g1) (loadErr g2), ?_⟩
          rw [HZ.out, HE.out.1, HE.out.2]
          exact ⟨rfl, fB.trans (below_put11 HN5.out hD fK)⟩
        · skip
          have z := block_cell SH.2.1 0; simp only [List.getElem?_toArray, List.getElem?_cons_zero] at z; have fz := block_frozen SH.2.1 0; have SH2 := (show _ ∧ _ ∧ _ from ⟨(set_old (B := R1) (i := 0) (u := .int .i64 0) H1.out.2.1).trans SH.1, set_at (i := 0) (u := .int .i64 0) SH.2.1, (set_old (B := R1) (i := 0) (u := .int .i64 0) H1.out.1).trans SH.2.2⟩); go_simp; refine hK _ _ ⟨SH2, ?_⟩; clear hK K z fz SH; have SH := SH2
          try simp only [Act.put, List.setIfInBounds_toArray, List.set_cons_zero, List.set_cons_succ]
          refine v_run (i := 0) rfl (by kernel_rfl) (by kernel_rfl) (by rfl) (fun K hK => ?_)
          have z := block_cell SH.1 0; simp only [List.getElem?_toArray, List.getElem?_cons_zero] at z; have z2 : (W.setCell ⟨R1, 0, none⟩ (.int .i64 0)).cell? ⟨EM, 0, none⟩ = some (.int .i64 8) := z; go_simp; refine hK _ _ ⟨SH, ?_⟩; clear hK K z
          try simp only [Act.put, List.setIfInBounds_toArray, List.set_cons_zero, List.set_cons_succ]
          refine v_last (i := 2) rfl (by kernel_rfl) (by kernel_rfl) (by kernel_rfl) (by rfl) (fun K hK => ?_)
          have z2 : (W.setCell ⟨R1, 0, none⟩ (.int .i64 0)).cell? ⟨R2, 0, none⟩ = some (.int .i64 0) := block_cell SH.2.2 0; have fz2 : W.frozen? ⟨R2, 0, none⟩ = false := block_frozen MM2.out 0; have z := block_cell SH.2.2 0; simp only [List.getElem?_toArray, List.getElem?_cons_zero] at z; have fz := block_frozen SH.2.2 0; go_simp; refine hK _ _ ?_; clear hK K
          gi_wp2
          obtain ⟨WF, hWF, f1, f2, fK, fB⟩ := HH.out
          rw [← hWF]
          have g1 : (WF.putObj D (.deferred none)).heap[R1]? = _ := (World.putObj_heap_other (by intro e; subst e; rw [f1] at fK; cases fK)).trans f1
          have g2 : (WF.putObj D (.deferred none)).heap[R2]? = _ := (World.putObj_heap_other (by intro e; subst e; rw [f2] at fK; cases fK)).trans f2
          refine ⟨by simp, .inl ⟨_, _, rfl, run_takeDeferred fK, ?_⟩⟩
          refine ⟨_, results_cells2 rfl _ _ R1 R2 _ _ rfl rfl (loadI64 g1) (loadErr g2), ?_⟩
          rw [HZ.out, HE.out.1, HE.out.2]
          exact ⟨rfl, fB.trans (below_put11 HN5.out hD fK)⟩
    case stop =>
      rintro D c pre W hD ⟨j, hj1, hj⟩ ⟨rfl, pre', x, hpre, hx, a, b, hfx, hb⟩ hK
      have f1 : W.heap[R1]? = some (.cells #[.int .i64 0] 2 (0, 0)) := hfx (R1, _) (by simp)
      have f2 : W.heap[R2]? = some (.cells #[.int .i64 10] 31 (0, 0)) := hfx (R2, _) (by simp)
      rw [hpre, take_snoc11 hj, ixs_snoc] at hj1
      obtain ⟨h1, h2⟩ := List.append_inj' hj1 rfl
      injection h2 with h2 _
      have hnk : sumK (rngL lv f t) = false := by
        unfold sumK
        rw [List.all_eq_false]
        refine ⟨(rngL lv f t)[j], List.getElem_mem _, ?_⟩
        rw [h2] at hx
        simpa using hx
      have eI : suI lv vs f t = 0 := by unfold suI; rw [if_pos HC.out, if_neg (by simp [hnk])]
      have eE : suE lv vs f t = 10 := by unfold suE; rw [if_pos HC.out, if_neg (by simp [hnk])]
      have HE := Lib.hid (And.intro eI eE)
      have HBL := Lib.hid hb
      have FF := Lib.hid (And.intro f1 f2)
      clear hfx hb f1 f2 hj1 h1 h2 hnk eI eE hpre hx
      gi_wp2
      obtain ⟨WF, hWF⟩ : ∃ V, V = W := ⟨_, rfl⟩
      have f1 := FF.out.1
      have f2 := FF.out.2
      have fK := hK
      have fB := HBL.out
      subst hWF
      have g1 : (WF.putObj D (.deferred none)).heap[R1]? = _ := (World.putObj_heap_other (by intro e; subst e; rw [f1] at fK; cases fK)).trans f1
      have g2 : (WF.putObj D (.deferred none)).heap[R2]? = _ := (World.putObj_heap_other (by intro e; subst e; rw [f2] at fK; cases fK)).trans f2
      refine ⟨by simp, .inl ⟨_, _, rfl, run_takeDeferred fK, ?_⟩⟩
      refine ⟨_, results_cells2 rfl _ _ R1 R2 _ _ rfl rfl (loadI64 g1) (loadErr g2), ?_⟩
      rw [HZ.out, HE.out.1, HE.out.2]
      exact ⟨rfl, fB.trans (below_put11 HN5.out hD fK)⟩
  · have hcn : 1 ≤ ckE lv vs [f, t] := by omega
    have e1 : suI lv vs f t = 0 := by unfold suI; rw [if_neg hc]
    have e2 : suE lv vs f t = ckE lv vs [f, t] := by unfold suE; rw [if_neg hc]
    obtain ⟨E, hE⟩ : ∃ E, E = ckE lv vs [f, t] := ⟨_, rfl⟩
    rw [← hE] at CK0 hcn e2
    have HE := Lib.hid (And.intro e1 e2)
    have CK := Lib.hid CK0
    have d1 : ((E : Int) != 0) = true := by simp; omega
    subst hWA
    have H12 : w.heap.size + 1 ≠ w.heap.size + 1 + 1 := by omega
    clear CK0 hc hZ h tab hsz hE e1 e2
    go_enter Tryz.func6, Tryz.ntmps6
    go_wp2_with (first | ((with_reducible refine wpList_load_row (o := ⟨some 14, _, _, _, _, _⟩) rfl 26 (.tmp 3) rfl _ rfl _ cs (0, 0) _ q1 Tryz.underlying26 rfl hsT ?_)) | ((with_reducible refine CK.out.mono ?_); rintro e w2 ⟨rfl, g⟩; (have bel := chain belB g); (have p2 := (g.block _ (lt_of_block p2)).trans p2); (have p3 : w2.heap[w.heap.size + 1 + 1]? = some (.cells #[.int .i64 0] 31 (0, 0)) := (g.block _ (lt_of_block p3)).trans p3); (have cA := block_cell p2 0); (have fA := block_frozen p2 0); (have n3 : (w2.setCell ⟨w.heap.size + 1, 0, none⟩ (.int .i64 0)).heap[w.heap.size + 1 + 1]? = _ := (set_old H12.symm).trans p3); (have cC2 := block_cell n3 0); (have fC2 := block_frozen n3 0); (simp only [List.getElem?_toArray, List.getElem?_cons_zero] at cC2 cA); (have P2 := Lib.hid p2); (have N3 := Lib.hid n3); (have BL := Lib.hid bel); clear n3 p2 p3))
    have f1 : ((w2.setCell ⟨w.heap.size + 1, 0, none⟩ (.int .i64 0)).setCell ⟨w.heap.size + 1 + 1, 0, none⟩ (.int .i64 (E : Int))).heap[w.heap.size + 1]? = some (.cells #[.int .i64 0] 2 (0, 0)) := (set_old H12).trans (set_at P2.out)
    have f2 : ((w2.setCell ⟨w.heap.size + 1, 0, none⟩ (.int .i64 0)).setCell ⟨w.heap.size + 1 + 1, 0, none⟩ (.int .i64 (E : Int))).heap[w.heap.size + 1 + 1]? = some (.cells #[.int .i64 (E : Int)] 31 (0, 0)) := set_at N3.out
    refine bodyPost_ret (results_cells2 rfl _ _ _ _ _ _ rfl rfl (loadI64 f1) (loadErr f2)) rfl ?_
    rw [HZ.out, HE.out.1, HE.out.2]
    exact ⟨rfl, (BL.out.setCell (p := ⟨w.heap.size + 1, 0, none⟩) (by simp) _).setCell (p := ⟨w.heap.size + 1 + 1, 0, none⟩) (by simp; omega) _⟩
end Go.Proofs.YtbdfcgffkonbiaaGreatDoor
