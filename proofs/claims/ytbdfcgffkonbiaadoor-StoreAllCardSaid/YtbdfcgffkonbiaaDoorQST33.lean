/- Span: Scan. Written by wip/tools/gen11s.py. -/
/- Deferred closures that recover: the first operation of a region recovers, the others are walked as any region's. -/
import Derived.Test.YtbdfcgffkonbiaaDoorQST32
import Derived.Test.YtbdfcgffkonbiaaDoorProg
import Derived.Defers
import Derived.Recover
import Derived.Tactics
import Derived.Tactics2
namespace Go.Proofs.YtbdfcgffkonbiaaDoor
open Go Go.RowKit
set_option linter.unusedVariables false
set_option linter.unusedSimpArgs false
set_option maxRecDepth 100000
attribute [local go_sem] Oper.semAt_some

theorem items_some (cs : Array Value) (hs : cs.size = 32) (f t : List UInt8) (w : World) :
    Calls Tryd.prog 100 #[.agg cs, .string (str f), .string (str t)] w fun e w' => ∃ Bt Bf Bo, e = .returned (.func (.func 121) #[] #[.pointer (some ⟨Bt, 0, none⟩), .pointer (some ⟨Bf, 0, none⟩), .pointer (some ⟨Bo, 0, none⟩)]) ∧ w'.heap[Bt]? = some (.cells cs 26 (0, 0)) ∧ w'.heap[Bf]? = some (.cells #[.string (str f)] 9 (0, 0)) ∧ w'.heap[Bo]? = some (.cells #[.string (str t)] 9 (0, 0)) ∧ Below w.heap.size w w' := by
  refine (items_any cs hs f t w).mono ?_
  rintro e w' ⟨rfl, rfl⟩
  obtain ⟨q0, q1, q2, _⟩ := allocs3 w (.cells cs 26) (.cells #[.string (str f)] 9) (.cells #[.string (str t)] 9)
  exact ⟨_, _, _, rfl, q0, q1, q2, (((Below.refl _ w).alloc (Nat.le_refl _) _).alloc (by simp) _).alloc (by simp; omega) _⟩
theorem check2_any (cs : Array Value) (lv : Nat → List It) (vs : Nat → Int) (f t : List UInt8) (w : World) (tab : TabAt w) (h : RdT w cs lv vs) (hsz : SzT lv) (hf : f.length ≤ maxLen) (ht : t.length ≤ maxLen) (B : Nat) (q : w.heap[B]? = some (.cells #[.string (str f), .string (str t)] 9 (0, 0))) :
    Calls Tryd.prog 99 #[.agg cs, .slice (some ⟨B, 0, none⟩) 2 2] w fun e w' => e = .returned (.int .i64 (ckE lv vs [f, t] : Int)) ∧ Below w.heap.size w w' := by
  refine check11_any cs lv vs [f, t] B 2 w tab h hsz (lt_of_block q) (fun i hi => ?_) (fun p hp => ?_) (by simp) (by simp) (by decide)
  · have : i = 0 ∨ i = 1 := by simp at hi; omega
    rcases this with rfl | rfl <;> (rw [block_cell q]; rfl)
  · simp only [List.mem_cons, List.not_mem_nil, or_false] at hp
    rcases hp with rfl | rfl <;> assumption
theorem below_put11 {n : Nat} {w : World} {D : Nat} {W : World} {o o' : Obj} (hn : n ≤ w.heap.size) (hD : w.heap.size ≤ D) (h : W.heap[D]? = some o) : Below n W (W.putObj D o') :=
  (Below.refl n W).grown (grownBy_putObj' W D o') (by have := lt_of_block h; omega) (fun k e => by injection e with e; omega)
def scL (lv : Nat → List It) (vs : Nat → Int) (f t : List UInt8) (most : Int) : List It := if ckE lv vs [f, t] = 0 then (rngL lv f t).take most.toNat else []
set_option maxHeartbeats 1000000 in
theorem scan_any (cs : Array Value) (lv : Nat → List It) (vs : Nat → Int) (f t : List UInt8) (most : Int) (w : World) (tab : TabAt w) (h : RdT w cs lv vs) (hsz : SzT lv) (hf : f.length ≤ maxLen) (ht : t.length ≤ maxLen) :
    Calls Tryd.prog 67 #[.agg cs, .string (str f), .string (str t), .int .i64 most] w fun e w' => ∃ v, e = .returned (.tuple #[v, .int .i64 (ckE lv vs [f, t] : Int)]) ∧ w'.ownsRow w.heap.size 53 5 v (scL lv vs f t most).length ((scL lv vs f t most).flatMap itC) ∧ Below w.heap.size w w' := by
  have hs32 := h.size
  have hsT := infoTc hs32
  obtain ⟨i0, hi, hz0, hz1, hz2⟩ := info_parts item_info
  obtain ⟨q1, q2, q3, zs⟩ := allocs3 w (.cells cs 26) (.cells #[.int .i64 most] 3) (.cells #[.string (str f), .string (str t)] 9)
  have bel := (((Below.refl _ w).alloc (Nat.le_refl _) (.cells cs 26)).alloc (by simp) (.cells #[.int .i64 most] 3)).alloc (by simp; omega) (.cells #[.string (str f), .string (str t)] 9)
  have CK0 := check2_any cs lv vs f t _ (tab.below bel) (h.below bel (Nat.le_refl _)) hsz hf ht _ q3
  have hq1 := heap_alloc_new w (.cells cs 26)
  have hq1 := (Below.heap_alloc (w.alloc (.cells cs 26)) (.cells #[.int .i64 most] 3) w.heap.size (by simp)).trans hq1
  obtain ⟨Z, hZ⟩ : ∃ Z : Ending → World → Prop, Z = fun e w' => ∃ v, e = .returned (.tuple #[v, .int .i64 (ckE lv vs [f, t] : Int)]) ∧ w'.ownsRow w.heap.size 53 5 v (scL lv vs f t most).length ((scL lv vs f t most).flatMap itC) ∧ Below w.heap.size w w' := ⟨_, rfl⟩
  rw [← hZ]
  have HZ := Lib.hid hZ
  have HT := Lib.hid h
  have TB := Lib.hid tab
  by_cases hc : ckE lv vs [f, t] = 0
  · have HM : Hid (mayTs lv vs 16 = true) := Lib.hid (by
      cases hm : mayTs lv vs 16 with
      | true => rfl
      | false => rw [ck_no hm] at hc; cases hc)
    rw [hc] at CK0
    have CK := Lib.hid CK0
    have HC := Lib.hid hc
    clear CK0 hc hZ h tab hsz
    refine (callsIn_wide (n := 7)).1 ?_
    refine callsIn_of_wp_marks Tryd.func67 rfl trivial ?_ rfl
    simp only [Tryd.ntmps67, List.size_toArray, List.length_cons, List.length_nil, Nat.reduceAdd, Nat.reduceSub, Array.replicate_succ, Array.replicate_zero, List.push_toArray, List.append_toArray, List.nil_append, List.cons_append]
    gi_wp2_with (first | ((with_reducible refine wpListIn_load_row (o := ⟨some 14, _, _, _, _, _⟩) rfl 26 (.tmp 4) rfl _ rfl _ cs (0, 0) _ hq1 Tryd.underlying26 rfl hsT ?_)) | (refine ⟨trivial, ?_⟩; gi_at_call 99; refine (callsIn_wide.2 CK.out).mono ?_; rintro e w2 ⟨rfl, g⟩; (have q1 := (g.block _ (lt_of_block q1)).trans q1); (have q2 := (g.block _ (lt_of_block q2)).trans q2); (have q1a := (@heap_alloc_old w2 (.cells #[.slice none 0 0] 22) _ (lt_of_block q1)).trans q1); (have bel := chain bel g)) | ((with_reducible refine wpListIn_load_row (o := ⟨some 22, _, _, _, _, _⟩) rfl 26 (.tmp 4) rfl _ rfl _ cs (0, 0) _ q1a Tryd.underlying26 rfl hsT ?_)) | (refine ⟨trivial, ?_⟩; gi_at_call 100; refine (callsIn_wide.2 (items_some cs hs32 f t _)).mono ?_; rintro e w5 ⟨Bt, Bf, Bo, rfl, r1, r2, r3, g5⟩))
    have hl2 : w.heap.size + 3 ≤ w2.heap.size := by have := g.size; have := zs; omega
    have qo0 : (w2.alloc (.cells #[.slice none 0 0] 22)).heap[w2.heap.size]? = some (.cells #[.slice none 0 0] 22 (0, 0)) := heap_alloc_new _ _
    have qm0 : (w2.alloc (.cells #[.slice none 0 0] 22)).heap[w.heap.size + 1]? = some (.cells #[.int .i64 most] 3 (0, 0)) := (@heap_alloc_old _ _ _ (lt_of_block q2)).trans q2
    have bel5 := chain (bel.alloc bel.size (.cells #[.slice none 0 0] 22)) g5
    have qo := (g5.block _ (lt_of_block qo0)).trans qo0
    have qm := (g5.block _ (lt_of_block qm0)).trans qm0
    obtain ⟨M, hM⟩ : ∃ M, M = w2.heap.size := ⟨_, rfl⟩
    rw [← hM] at qo hl2 ⊢
    obtain ⟨B1, hB1⟩ : ∃ B, B = w.heap.size + 1 := ⟨_, rfl⟩
    rw [← hB1] at qm ⊢
    obtain ⟨B0, hB0⟩ : ∃ B, B = w.heap.size := ⟨_, rfl⟩
    have ok : FixOk [(B1, .cells #[.int .i64 most] 3 (0, 0))] M := by
      intro p hp
      rw [List.mem_singleton.1 hp]
      exact ⟨by simp only; omega, _, _, rfl, by decide⟩
    have hn0M : w.heap.size ≤ M := by omega
    have hn5 := bel5.size
    have OK := Lib.hid ok
    have HN0 := Lib.hid hn0M
    have HN5 := Lib.hid hn5
    have i00 : InvO [(B1, .cells #[.int .i64 most] 3 (0, 0))] M w.heap.size w [] w5 := ⟨⟨fun p hp => by rw [List.mem_singleton.1 hp]; exact qm, _, qo, World.ownsRow_nil _ _ _ _⟩, bel5⟩
    have HI0 := Lib.hid i00
    have GV := items_gives (7 - 1) (by decide) Bt Bf Bo cs lv vs f t w w5 HT.out HM.out bel5 r1 r2 r3
    clear qo0 qm0 q1 q2 q3 q1a hq1 g5 g bel ok hn0M hn5 i00 qo qm zs hl2 hM hB1 hB0 r1 r2 r3 bel5
    refine range_lawM rfl (by decide) (gf := 121) (lb := #[.pointer (some ⟨Bt, 0, none⟩), .pointer (some ⟨Bf, 0, none⟩), .pointer (some ⟨Bo, 0, none⟩)]) rfl trivial (enters_of Tryd.func121 (by kernel_rfl) rfl) (fun _ => rfl)
      GV
      (fun A B h => h.keeps _) (fun h k => h.trans k) (fun W l o o' => Kp11.put HN5.out W l o o')
      (fun pre X => InvO [(B1, .cells #[.int .i64 most] 3 (0, 0))] M w.heap.size w pre X ∧ ∀ y ∈ pre, (y.2 : Int) < most)
      (fun c pre X => c = .exit 0 ∧ ∃ pre' x, pre = pre' ++ [x] ∧ most ≤ (x.2 : Int) ∧ InvO [(B1, .cells #[.int .i64 most] 3 (0, 0))] M w.heap.size w pre' X ∧ ∀ y ∈ pre', (y.2 : Int) < most)
      (fun s X Y row h hg hr => ⟨InvO.from OK.out HN0.out _ HN5.out (Nat.le_refl _) s X Y row h.1 hg hr, h.2⟩)
      (fun c s X Y row h hg hr => by
        obtain ⟨h1, pre', x, h2, h3, h4, h5⟩ := h
        exact ⟨h1, pre', x, h2, h3, InvO.from OK.out HN0.out _ HN5.out (Nat.le_refl _) pre' X Y row h4 hg hr, h5⟩)
      (fun s A B h t => ⟨InvO.turn OK.out (Nat.le_refl _) h.1 t, h.2⟩)
      (fun c s A B h t => by
        obtain ⟨h1, pre', x, h2, h3, h4, h5⟩ := h
        exact ⟨h1, pre', x, h2, h3, InvO.turn OK.out (Nat.le_refl _) h4 t, h5⟩)
      ⟨HI0.out, fun y hy => by cases hy⟩
      (fun x W => { tmps := #[.agg cs, .string (str f), .string (str t), .int .i64 most, .pointer (some ⟨w.heap.size, 0, none⟩), undef, undef, .pointer (some ⟨B1, 0, none⟩), .slice none 0 0, .int .i64 0, .int .i64 0, .pointer (some ⟨M, 0, none⟩), .int .i64 (x.2 : Int), .pointer (some ⟨W.heap.size, 0, none⟩), .agg cs, .string (str f), .string (str t), .slice (some ⟨B1 + 1, 0, none⟩) 2 2, .int .i64 0, .int .i64 0, .bool false, undef, .agg cs, .string (str f), .string (str t), .func (.func 121) #[] #[.pointer (some ⟨Bt, 0, none⟩), .pointer (some ⟨Bf, 0, none⟩), .pointer (some ⟨Bo, 0, none⟩)], .int .i64 (x.2 : Int), .agg #[.string (str x.1.key), .int .i64 x.1.v.k, .int .i64 x.1.v.i, .string (str x.1.v.s), .int .i64 x.1.ver], undef, undef, undef, undef, undef, undef, undef, undef], defers := [] })
      (fun x W => W.alloc (.cells #[.string (str x.1.key), .int .i64 x.1.v.k, .int .i64 x.1.v.i, .string (str x.1.v.s), .int .i64 x.1.ver] 53))
      (fun x W => (Below.refl _ W).alloc (Nat.le_refl _) _) (fun x W => Kp11.of_below ((Below.refl _ W).alloc (Nat.le_refl _) _)) (fun s A B h g => ⟨InvO.below (Nat.le_refl _) h.1 g, h.2⟩) ?assign ?body ?done ?stop
    case assign =>
      intro l x W K hK
      obtain ⟨x, k⟩ := x
      simp only at hK ⊢
      gi_wp2
      exact hK
    case body =>
      rintro l pre x W X ⟨⟨⟨hfx, v, hv, hr⟩, hb⟩, hlt⟩ hlen hW hn
      obtain ⟨x, k⟩ := x
      simp only at hn ⊢
      rw [heap_alloc_new] at hn
      have hm1 := hfx _ (List.mem_singleton.2 rfl)
      simp only at hm1
      obtain ⟨e0, e1, e2, e3, e4, ef⟩ := block_cells5 hn
      have cm := block_cell hm1 0
      have cv := block_cell hv 0
      simp only [List.getElem?_toArray, List.getElem?_cons_zero] at cm cv
      have hlM := lt_of_block hv
      have hfl := fsts_len pre
      have HFX := Lib.hid hfx
      have HV := Lib.hid hv
      have HR := Lib.hid hr
      have HBL := Lib.hid hb
      have HLT := Lib.hid hlt
      clear hfx hv hr hb hlt hm1 hn
      by_cases hk : (k : Int) < most
      · have d1 : decide (most ≤ (k : Int)) = false := decide_eq_false (by omega)
        have HK2 := Lib.hid hk
        clear hk
        gi_wp2_with (gi_at_builtin; refine wpListIn_append_own _ rfl _ _ 22 rfl (M + 1) 53 i0 (.agg #[.string ⟨#[]⟩, .int .i64 0, .int .i64 0, .string ⟨#[]⟩, .int .i64 0]) 5 56 Tryd.underlying22 hi hz0 hz1 hz2 rfl (by decide) v (fsts pre).length _ rfl (HR.out.alloc _) ⟨X.heap.size, 0, none⟩ 1 1 (itC x) rfl rfl (fun j u hj => by rw [Addr.add_lit, Nat.zero_add, block_cell (heap_alloc_new X _) j]; simpa [itC] using hj) (itC_one x) (by unfold maxLen; omega) (by omega) (by simp; omega) ?_; intro v' w1 hown' hgrow _; obtain ⟨g', cap', rfl⟩ := ownsRow_succ hown'; (have hv1 := (boxed_appended (n₀ := w.heap.size) (B := M) (b₂ := M + 1) HV.out (by omega) HR.out hlM HN0.out hown' hgrow).1); (have cM := hv1.cell); (have fM := hv1.frozen))
        obtain ⟨a1, a2, a3⟩ := InvO.app (x := (x, k)) OK.out HN0.out HFX.out HV.out HR.out HBL.out hown' hgrow
        rw [fsts_len] at a1 a2 a3
        refine ⟨a2.from _, a3, a1, fun y hy => ?_⟩
        rcases List.mem_append.1 hy with h1 | h1
        · exact HLT.out y h1
        · rw [List.mem_singleton.1 h1]; exact HK2.out
      · have d1 : decide (most ≤ (k : Int)) = true := decide_eq_true (by omega)
        have HK2 := Lib.hid (show most ≤ (k : Int) by omega)
        clear hk
        gi_wp2
        exact ⟨KeepsFrom.refl _ _, rfl, pre, (x, k), rfl, HK2.out, ⟨⟨HFX.out, v, HV.out, HR.out⟩, HBL.out⟩, HLT.out⟩
    case done =>
      rintro D ys W hD rfl ⟨⟨⟨hfx, v, hv, hr⟩, hb⟩, hlt⟩ hK
      have cv := block_cell hv 0
      simp only [List.getElem?_toArray, List.getElem?_cons_zero] at cv
      have e9 : scL lv vs f t most = rngL lv f t := by
        unfold scL
        rw [if_pos HC.out]
        refine List.take_of_length_le ?_
        by_cases h0 : (rngL lv f t).length = 0
        · omega
        · have hl := hlt ((rngL lv f t)[(rngL lv f t).length - 1]'(by omega), (rngL lv f t).length - 1) (by
            unfold ixs
            rw [List.mem_zipIdx_iff_getElem?]
            exact List.getElem?_eq_getElem (by omega))
          simp only at hl
          omega
      rw [fsts_ixs] at hr
      have HR := Lib.hid hr
      have HBL := Lib.hid hb
      have HE9 := Lib.hid e9
      clear hr hb e9 hlt hfx hv
      gi_wp2
      refine ⟨by simp, .inl ⟨_, _, rfl, run_takeDeferred hK, ?_⟩⟩
      refine ⟨_, results_tmp2 rfl _ _ _, ?_⟩
      rw [HZ.out]
      refine ⟨v, by rw [HC.out]; rfl, ?_, HBL.out.trans (below_put11 HN5.out hD hK)⟩
      rw [HE9.out]
      exact ownsRow_putObj (own_base HR.out (by have := HN0.out; omega)) _ hK rfl
    case stop =>
      rintro D c pre W hD ⟨k, rfl, hk⟩ ⟨rfl, pre', x, hpre, hmo, ⟨⟨hfx, v, hv, hr⟩, hb⟩, hlt⟩ hK
      have cv := block_cell hv 0
      simp only [List.getElem?_toArray, List.getElem?_cons_zero] at cv
      rw [take_snoc11 hk, ixs_snoc] at hpre
      obtain ⟨h1, h2⟩ := List.append_inj' hpre rfl
      injection h2 with h2 _
      subst h1
      rw [fsts_ixs] at hr
      have e9 : scL lv vs f t most = (rngL lv f t).take k := by
        unfold scL
        rw [if_pos HC.out]
        have hx2 : x.2 = k := by rw [← h2, List.length_take, Nat.min_eq_left (by omega)]
        rw [hx2] at hmo
        by_cases h0 : k = 0
        · subst h0
          rw [show most.toNat = 0 by omega]
        · have hl := hlt ((rngL lv f t)[k - 1]'(by omega), k - 1) (by
            unfold ixs
            rw [List.mem_zipIdx_iff_getElem?]
            rw [List.getElem?_take, if_pos (by omega)]
            exact List.getElem?_eq_getElem (by omega))
          simp only at hl
          rw [show most.toNat = k by omega]
      have HR := Lib.hid hr
      have HBL := Lib.hid hb
      have HE9 := Lib.hid e9
      clear hr hb e9 hlt hfx hv hpre h2 hmo
      gi_wp2
      refine ⟨by simp, .inl ⟨_, _, rfl, run_takeDeferred hK, ?_⟩⟩
      refine ⟨_, results_tmp2 rfl _ _ _, ?_⟩
      rw [HZ.out]
      refine ⟨v, by rw [HC.out]; rfl, ?_, HBL.out.trans (below_put11 HN5.out hD hK)⟩
      rw [HE9.out]
      exact ownsRow_putObj (own_base HR.out (by have := HN0.out; omega)) _ hK rfl
  · have hcn : 1 ≤ ckE lv vs [f, t] := by omega
    have HL := Lib.hid (show scL lv vs f t most = [] by unfold scL; rw [if_neg hc])
    obtain ⟨E, hE⟩ : ∃ E, E = ckE lv vs [f, t] := ⟨_, rfl⟩
    rw [← hE] at CK0 hcn
    have HE := Lib.hid hE
    have CK := Lib.hid CK0
    have d1 : ((E : Int) != 0) = true := by simp; omega
    clear CK0 hc hZ h tab hsz hE
    go_enter Tryd.func67, Tryd.ntmps67
    go_wp2_with (first | ((with_reducible refine wpList_load_row (o := ⟨some 14, _, _, _, _, _⟩) rfl 26 (.tmp 4) rfl _ rfl _ cs (0, 0) _ hq1 Tryd.underlying26 rfl hsT ?_)) | ((with_reducible refine CK.out.mono ?_); rintro e w2 ⟨rfl, g⟩; (have bel := chain bel g)))
    show Z (.returned _) _
    rw [HZ.out, HL.out, ← HE.out]
    exact ⟨_, rfl, World.ownsRow_nil _ _ _ _, bel⟩
end Go.Proofs.YtbdfcgffkonbiaaDoor
namespace Go.Proofs.YtbdfcgffkonbiaaDoor
open Go
set_option linter.unusedVariables false
theorem upon_mono' {P : Program} {o : Oper} {a : Act} {n n' : Act → World → Prop} {Q Q' : Exit → Act → World → Prop} (hn : ∀ a w, n a w → n' a w) (hq : ∀ e a w, Q e a w → Q' e a w) (r : Result Next)
    (h : o.upon P a n Q r) : o.upon P a n' Q' r := by
  unfold Oper.upon at h ⊢
  split at h
  · exact hn _ _ h
  · exact hn _ _ h
  · exact hn _ _ h
  · exact h.mono fun e w' he => by
      cases e with
      | returned v => exact hn _ _ he
      | panicked c => exact hq _ _ _ he
      | outgrown => obtain ⟨a, w, k⟩ := he; exact ⟨a, w, hq _ _ _ k⟩
  · intro fr cs
    obtain ⟨v, w'', hR, hs⟩ := h fr cs
    exact ⟨v, w'', hn _ _ hR, hs⟩
  · exact hq _ _ _ h
  · exact h.elim
theorem wpOpsS_of_list {P : Program} {ops : Array Oper} {Q : Exit → Act → List Frame → World → Prop} {cs : List Frame} (hlo : ¬ LetsOut (fun e a' w' => Q e a' cs w')) :
    ∀ (l : List Nat) (a : Act) (w : World), wpList P ops (fun e a' w' => Q e a' cs w') (l.filterMap fun i => ops[i]?) a w → wpOpsS P ops Q l a cs w
  | [], a, w, h => h
  | i :: rest, a, w, h => by
    rw [wpOpsS]
    cases ho : ops[i]? with
    | none =>
      rw [List.filterMap_cons, ho] at h
      exact wpOpsS_of_list hlo rest a w h
    | some o =>
      rw [List.filterMap_cons, ho] at h
      simp only [wpList] at h
      simp only []
      by_cases hw : Region.wanted o (yielded ops a.tmps) = true
      · rw [if_pos hw] at h ⊢
        rcases h with h | h
        · unfold Oper.wp at h
          generalize hr : (execOp a.eval o).run P w = r at h ⊢
          split
          · exact h.elim
          · exact upon_mono' (fun a' w' k => wpOpsS_of_list hlo rest a' w' k) (fun _ _ _ k => k) _ h
        · exact absurd h.2 hlo
      · rw [if_neg hw] at h ⊢
        exact wpOpsS_of_list hlo rest _ w h
theorem wpOpsS_head {P : Program} {ops : Array Oper} {Q : Exit → Act → List Frame → World → Prop} {cs : List Frame} {i : Nat} {rest : List Nat} {a : Act} {w : World} {o : Oper} (ho : ops[i]? = some o)
    (hg : o.guard = none) (hr : (execOp a.eval o).run P w = .ok .recover w) (v : Value) (cs' : List Frame)
    (hc : (recoverD cs = some (v, cs')) ∨ (recoverD cs = none ∧ v = .nilIface ∧ cs' = cs)) (h : wpOpsS P ops Q rest (a.put o.dst v) cs' w) : wpOpsS P ops Q (i :: rest) a cs w := by
  rw [wpOpsS, ho]
  simp only [Region.wanted, hg, if_true, hr]
  rcases hc with hc | ⟨hc, rfl, rfl⟩
  · rw [hc]; exact h
  · rw [hc]; exact h
/-- The same ends, but for panics. -/
def noP (Q : Exit → Act → World → Prop) : Exit → Act → World → Prop
  | .panic _, _, _ => False
  | e, a, w => Q e a w
theorem wp_noP {P : Program} {c : Code} {Q : Exit → Act → World → Prop} {a : Act} {w : World} (h : c.wp P (noP Q) a w) : c.wp P Q a w :=
  fun b k cs => let ⟨e, a', w', q, r⟩ := h b k cs; ⟨e, a', w', by cases e <;> first | exact q | exact q.elim, r⟩
theorem range_self : ∀ L : List Oper, (List.range L.length).filterMap (fun i => L[i]?) = L
  | [] => rfl
  | x :: L => by
    rw [List.length_cons, List.range_succ_eq_map, List.filterMap_cons]
    show x :: _ = _
    rw [List.filterMap_map]
    congr 1
    exact range_self L
theorem wpS_region_rec {P : Program} {ops : Array Oper} {Q : Exit → Act → List Frame → World → Prop} {cs : List Frame} {id : Nat} {a : Act} {w : World} {o : Oper} {L : List Oper} (hL : ops.toList = o :: L)
    (hg : o.guard = none) (hr : (execOp a.eval o).run P w = .ok .recover w) (v : Value) (cs' : List Frame)
    (hc : (recoverD cs = some (v, cs')) ∨ (recoverD cs = none ∧ v = .nilIface ∧ cs' = cs)) (hlo : ¬ LetsOut (fun e a' w' => Q e a' cs' w'))
    (h : wpList P ops (fun e a' w' => Q e a' cs' w') L (a.put o.dst v) w) : (Code.region id ops false).wpS P Q a cs w := by
  refine wpS_region ?_
  have hs : ops.size = L.length + 1 := by rw [← Array.length_toList, hL]; rfl
  have ho : ops[0]? = some o := by rw [← Array.getElem?_toList, hL]; rfl
  rw [hs, List.range_succ_eq_map]
  refine wpOpsS_head ho hg hr v cs' hc ?_
  refine wpOpsS_of_list hlo _ _ _ ?_
  have : (List.map Nat.succ (List.range L.length)).filterMap (fun i => ops[i]?) = L := by
    rw [List.filterMap_map]
    have h1 : ∀ i, ((fun i => ops[i]?) ∘ Nat.succ) i = L[i]? := fun i => by
      show ops[i + 1]? = L[i]?
      rw [← Array.getElem?_toList, hL]; rfl
    rw [show ((fun i => ops[i]?) ∘ Nat.succ) = fun i => L[i]? from funext h1]
    exact range_self L
  rw [this]
  exact h
end Go.Proofs.YtbdfcgffkonbiaaDoor
