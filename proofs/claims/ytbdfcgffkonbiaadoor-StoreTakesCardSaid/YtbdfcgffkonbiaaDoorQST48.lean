/- Stores: the law StoreTakes. Written by wip/tools/gen13lt.py. -/
/- Keys: what the row's listed variable gives a walk: the table of bytes. -/
import Derived.Test.YtbdfcgffkonbiaaDoorQST46
import Derived.Test.YtbdfcgffkonbiaaDoorQST47
import Derived.Test.YtbdfcgffkonbiaaDoorRows
import Derived.Test.YtbdfcgffkonbiaaDoorQST3
import Derived.ProofKit
import Derived.LaidMore
import Derived.OpenShut
import Derived.Stop.Joined
namespace Go.Proofs.YtbdfcgffkonbiaaDoor
open Go Go.RowKit
set_option linter.unusedVariables false
set_option linter.unusedSimpArgs false
set_option maxRecDepth 100000 in
set_option maxHeartbeats 4000000 in
theorem storetakes_any (cs : Array Value) (s : St) (v : Value) (l : List Ed) (w : World) (tab : TabAt w) (h : RdS w cs s) (hsz : SzT s.lv) (hwf : WfT s.lv) (hl : RdE w v l) (hse : SzE l) (hwe : WfE l) :
    Calls Tryd.prog 5 #[.agg cs, v] w fun e w' => e = .returned (.bool true) ∧ Below w.heap.size w w' := by
  have TAB := Lib.hid tab
  have z0 := zeroS_run
  have z1 := zS_ne
  have hs0 := infoS h.size
  obtain ⟨sF, hsF0⟩ : ∃ x, x = fewS s := ⟨_, rfl⟩
  have szF : SzT sF.lv := by rw [hsF0]; exact fewT_sz s.lv
  have wfF : WfT sF.lv := by rw [hsF0]; exact fewT_wf hwf
  have lenF : ∀ b, b < 16 → (sF.lv b).length ≤ 100 := by rw [hsF0]; exact fewT_len s.lv
  have q2 := heap_alloc_new w (.cells cs 28)
  have bel := (Below.refl w.heap.size w).alloc (Nat.le_refl _) (.cells cs 28)
  have FW0 := few13_any cs s _ (h.below bel (Nat.le_refl _)) hsz
  unfold FewSP at FW0
  rw [← hsF0] at FW0
  have FW := Lib.hid FW0
  have hsz0 := h.size
  clear FW0
  have ED0 := fun W (g : Below w.heap.size w W) => edits13_any v l W (RdK.below hl g (Nat.le_refl _)) hse
  obtain ⟨L, hL⟩ : ∃ L, L = fewE l := ⟨_, rfl⟩
  have szL : SzE L := by rw [hL]; exact fewE_sz l
  have wfL : WfE L := by rw [hL]; exact fewE_wf hwe
  have idm : fewS sF = sF := by rw [hsF0]; exact fewS_idem s
  rw [← hL] at ED0
  have ED := Lib.hid ED0
  obtain ⟨⟨⟨c, i⟩, t⟩, hE⟩ : ∃ p, p = takeE sF L := ⟨_, rfl⟩
  have lenT : ∀ b, b < 16 → (t.lv b).length ≤ 100 := by
    have := take_len (s := sF) (l := L) szF wfF wfL
    rw [← hE] at this; exact this
  obtain ⟨ao, nn, cap, rfl⟩ : ∃ a n c, v = .slice a n c := by obtain ⟨a, c, e, _⟩ := hl; exact ⟨_, _, _, e⟩
  clear h hsz hwf tab hsF0 ED0 hL hl hse hwe
  go_enter Tryd.func5, Tryd.ntmps5
  go_wp2_with ((with_reducible refine wpList_load_row (o := ⟨some 12, _, _, _, _, _⟩) rfl 28 (.tmp 2) rfl _ rfl _ cs (0, 0) _ q2 Tryd.underlying28 rfl hs0 ?_))
  refine FW.out.mono ?_
  rintro e v1 ⟨CF, rfl, own, g⟩
  have hl0 : w.heap.size + 1 = (w.alloc (.cells cs 28)).heap.size := by simp
  rw [← hl0] at own
  have q2 := (g.block _ (lt_of_block q2)).trans q2
  have bel := chain bel g
  have hszF := own.size
  have hsF := infoS own.size
  have hcF : cs.size = CF.size := by rw [own.size]; exact hsz0
  have hoF := own.one
  clear g hl0
  go_wp2_with fail
  refine (ED.out _ bel).mono ?_
  rintro e v2 ⟨u, rfl, ownE, g⟩
  have lB : w.heap.size < v1.heap.size := lt_of_block q2
  have own := own.below g
  have q2 := (g.block _ (lt_of_block q2)).trans q2
  have bel := chain bel g
  obtain ⟨au, cu, rfl⟩ := own_slice_n ownE
  clear g
  go_wp2_with (first | ((with_reducible refine wpList_store_row (o := ⟨none, _, _, _, _, _⟩) rfl 28 (.tmp 2) (.tmp 13) rfl _ CF rfl rfl _ cs q2 hsF hcF hoF ?_); (obtain ⟨WS, hWS⟩ : ∃ X, X = World.setRow v2 w.heap.size CF := ⟨_, rfl⟩); rw [← hWS]; (have q2 : WS.heap[w.heap.size]? = some (.cells CF 28 (0, 0)) := by rw [hWS]; exact setRow_heap _ _ _ CF _ _ q2); (have bel : Below w.heap.size w WS := by rw [hWS]; exact below_row bel (Nat.le_refl _) CF); (have own : OwnS (w.heap.size + 1) WS CF sF := by rw [hWS]; exact own.moved (fun k hk _ => by rw [setRow_other _ _ _ _ (by omega)])); (have ownE := own_moved2 (w' := WS) ownE (fun k h1 h2 => by rw [hWS]; exact setRow_other _ _ _ _ (by omega))); clear hWS) | ((with_reducible refine wpList_load_row (o := ⟨some 16, _, _, _, _, _⟩) rfl 28 (.tmp 2) rfl _ rfl _ CF (0, 0) _ q2 Tryd.underlying28 rfl hsF ?_)))
  have RS := Lib.hid own.rd
  have RE := Lib.hid (own_rdk edC_len ownE)
  have BW := Lib.hid bel
  have TS0 := Lib.hid (TAB.out.below bel)
  have hS := Below.refl WS.heap.size WS
  have FX0 := few13_any CF sF WS RS.out szF
  unfold FewSP at FX0
  rw [idm] at FX0
  have FX := Lib.hid FX0
  have TK := Lib.hid (fun W (g : Below WS.heap.size WS W) => (take13_any CF sF _ L W (TS0.out.below g) (RS.out.below g (Nat.le_refl _)) szF wfF lenF (RdK.below RE.out g (Nat.le_refl _)) szL wfL).mono fun e w' hz => takeZ_P (RS.out.below g (Nat.le_refl _)) hE.symm hz)
  have TR := Lib.hid (fun W (g : Below WS.heap.size WS W) => (refTake13_any CF sF _ L W (TS0.out.below g) (RS.out.below g (Nat.le_refl _)) szF wfF lenF (RdK.below RE.out g (Nat.le_refl _)) szL wfL).mono fun e w' hz => takeZ_P (RS.out.below g (Nat.le_refl _)) hE.symm hz)
  have SM := Lib.hid (fun (A B : Array Value) W (ha : RdS W A t) (hb : RdS W B t) => show Calls Tryd.prog 16 #[.agg A, .agg B] W fun e w' => e = .returned (.bool true) ∧ Below W.heap.size W w' by
    have := same13_any A B t t W ha hb lenT lenT
    rw [sameS_refl] at this
    exact this)
  have SN := Lib.hid (fun (A B : Array Value) W (ha : RdS W A sF) (hb : RdS W B sF) => show Calls Tryd.prog 16 #[.agg A, .agg B] W fun e w' => e = .returned (.bool true) ∧ Below W.heap.size W w' by
    have := same13_any A B sF sF W ha hb lenF lenF
    rw [sameS_refl] at this
    exact this)
  have AW := Lib.hid (fun W (g : Below WS.heap.size WS W) => awake13_any W (TS0.out.below g))
  obtain ⟨c1, hc1⟩ : ∃ c1 : Int, c1 = (c : Int) := ⟨_, rfl⟩
  obtain ⟨i1, hi1⟩ : ∃ c1 : Int, c1 = (i : Int) := ⟨_, rfl⟩
  rw [← hc1, ← hi1] at TK TR
  clear bel own ownE hcF FW FX0 lenT hE idm lenF szL wfL szF wfF lB hc1 hi1 ED
  refine FX.out.mono ?_
  rintro e x1 ⟨CG, rfl, ownG, g⟩
  have RG := Lib.hid ownG.rd
  have hsCG := ownG.size
  have hoCG := ownG.one
  have q2 := (g.block _ (lt_of_block q2)).trans q2
  have hS := chain hS g
  clear g ownG FX
  have qd5 := heap_alloc_new x1 (.cells zS 28)
  go_wp2_with (first | ((with_reducible refine wpList_store_row (o := ⟨none, _, _, _, _, _⟩) rfl 28 (.tmp 5) (.tmp 17) rfl _ CG rfl rfl _ zS qd5 (infoS hsCG) (zS_size.trans hsCG.symm) hoCG ?_); (obtain ⟨y1, hWn⟩ : ∃ W, W = (World.alloc x1 (.cells zS 28)).setRow x1.heap.size CG := ⟨_, rfl⟩); rw [← hWn]; (have q5 : y1.heap[x1.heap.size]? = some (.cells CG 28 (0, 0)) := by rw [hWn]; exact setRow_heap _ _ _ CG _ _ qd5); (have gn : Below x1.heap.size x1 y1 := by rw [hWn]; exact below_row ((Below.refl _ _).alloc (Nat.le_refl _) _) (Nat.le_refl _) CG); clear hWn qd5; (have hS := chain hS gn); (have q2 := (gn.block _ (lt_of_block q2)).trans q2); (have RG := Lib.hid (RG.out.below gn (Nat.le_refl _))); clear gn) | ((with_reducible refine wpList_load_row (o := ⟨some 19, _, _, _, _, _⟩) rfl 28 (.tmp 2) rfl _ rfl _ CF (0, 0) _ q2 Tryd.underlying28 rfl hsF ?_)))
  refine (TK.out _ hS).mono ?_
  rintro e x2 ⟨C1, rfl, hsC1, hoC1, R1, g⟩
  have q2 := (g.block _ (lt_of_block q2)).trans q2
  have q5 := (g.block _ (lt_of_block q5)).trans q5
  have RG := Lib.hid (RG.out.below g (Nat.le_refl _))
  have hS := chain hS g
  clear g
  have R1 := Lib.hid R1
  have qd6 := heap_alloc_new x2 (.cells zS 28)
  go_wp2_with (first | ((with_reducible refine wpList_store_row (o := ⟨none, _, _, _, _, _⟩) rfl 28 (.tmp 6) (.tmp 22) rfl _ C1 rfl rfl _ zS qd6 (infoS hsC1) (zS_size.trans hsC1.symm) hoC1 ?_); (obtain ⟨y2, hWn⟩ : ∃ W, W = (World.alloc x2 (.cells zS 28)).setRow x2.heap.size C1 := ⟨_, rfl⟩); rw [← hWn]; (have q6 : y2.heap[x2.heap.size]? = some (.cells C1 28 (0, 0)) := by rw [hWn]; exact setRow_heap _ _ _ C1 _ _ qd6); (have gn : Below x2.heap.size x2 y2 := by rw [hWn]; exact below_row ((Below.refl _ _).alloc (Nat.le_refl _) _) (Nat.le_refl _) C1); clear hWn qd6; (have hS := chain hS gn); (have q2 := (gn.block _ (lt_of_block q2)).trans q2); (have q5 := (gn.block _ (lt_of_block q5)).trans q5); (have RG := Lib.hid (RG.out.below gn (Nat.le_refl _))); (have R1 := Lib.hid (R1.out.below gn (Nat.le_refl _))); clear gn) | ((with_reducible refine wpList_load_row (o := ⟨some 26, _, _, _, _, _⟩) rfl 28 (.tmp 2) rfl _ rfl _ CF (0, 0) _ q2 Tryd.underlying28 rfl hsF ?_)))
  refine (TR.out _ hS).mono ?_
  rintro e x3 ⟨C2, rfl, hsC2, hoC2, R2, g⟩
  have q2 := (g.block _ (lt_of_block q2)).trans q2
  have q5 := (g.block _ (lt_of_block q5)).trans q5
  have q6 := (g.block _ (lt_of_block q6)).trans q6
  have RG := Lib.hid (RG.out.below g (Nat.le_refl _))
  have R1 := Lib.hid (R1.out.below g (Nat.le_refl _))
  have hS := chain hS g
  clear g
  have R2 := Lib.hid R2
  have qd9 := heap_alloc_new x3 (.cells zS 28)
  go_wp2_with (first | ((with_reducible refine wpList_store_row (o := ⟨none, _, _, _, _, _⟩) rfl 28 (.tmp 9) (.tmp 29) rfl _ C2 rfl rfl _ zS qd9 (infoS hsC2) (zS_size.trans hsC2.symm) hoC2 ?_); (obtain ⟨y3, hWn⟩ : ∃ W, W = (World.alloc x3 (.cells zS 28)).setRow x3.heap.size C2 := ⟨_, rfl⟩); rw [← hWn]; (have q9 : y3.heap[x3.heap.size]? = some (.cells C2 28 (0, 0)) := by rw [hWn]; exact setRow_heap _ _ _ C2 _ _ qd9); (have gn : Below x3.heap.size x3 y3 := by rw [hWn]; exact below_row ((Below.refl _ _).alloc (Nat.le_refl _) _) (Nat.le_refl _) C2); clear hWn qd9; (have hS := chain hS gn); (have q2 := (gn.block _ (lt_of_block q2)).trans q2); (have q5 := (gn.block _ (lt_of_block q5)).trans q5); (have q6 := (gn.block _ (lt_of_block q6)).trans q6); (have RG := Lib.hid (RG.out.below gn (Nat.le_refl _))); (have R1 := Lib.hid (R1.out.below gn (Nat.le_refl _))); (have R2 := Lib.hid (R2.out.below gn (Nat.le_refl _))); clear gn) | ((with_reducible refine wpList_load_row (o := ⟨some 32, _, _, _, _, _⟩) rfl 28 (.tmp 6) rfl _ rfl _ C1 (0, 0) _ q6 Tryd.underlying28 rfl (infoS hsC1) ?_)) | ((with_reducible refine wpList_load_row (o := ⟨some 33, _, _, _, _, _⟩) rfl 28 (.tmp 9) rfl _ rfl _ C2 (0, 0) _ q9 Tryd.underlying28 rfl (infoS hsC2) ?_)))
  refine (SM.out _ _ _ R1.out R2.out).mono ?_
  rintro e x4 ⟨rfl, g⟩
  have q2 := (g.block _ (lt_of_block q2)).trans q2
  have q5 := (g.block _ (lt_of_block q5)).trans q5
  have RG := Lib.hid (RG.out.below g (Nat.le_refl _))
  have hS := chain hS g
  clear g
  go_wp2_with (first | ((with_reducible refine wpList_load_row_g (o := ⟨some 46, _, _, _, _, _⟩) ?_ 28 (.tmp 2) rfl _ rfl _ CF (0, 0) _ q2 Tryd.underlying28 rfl hsF ?_); rfl) | ((with_reducible refine wpList_load_row_g (o := ⟨some 47, _, _, _, _, _⟩) ?_ 28 (.tmp 5) rfl _ rfl _ CG (0, 0) _ q5 Tryd.underlying28 rfl (infoS hsCG) ?_); rfl))
  refine (SN.out _ _ _ (RS.out.below hS (Nat.le_refl _)) RG.out).mono ?_
  rintro e x5 ⟨rfl, g⟩
  have hS := chain hS g
  clear g
  go_wp2_with fail
  refine (AW.out _ hS).mono ?_
  rintro e x6 ⟨rfl, g⟩
  have hS := chain hS g
  clear g
  go_wp2_with fail
  go_ret
  exact ⟨rfl, chain BW.out hS⟩
theorem storetakes_row (cs : Array Value) (s : St) (v : Value) (l : List Ed) (w : World) (h : RdS w cs s) (hsz : SzT s.lv) (hwf : WfT s.lv) (hl : RdE w v l) (hse : SzE l) (hwe : WfE l) (tab : TabAt w) :
    Calls Tryd.prog 5 #[.agg cs, v] w fun e w' => e = .returned (.bool true) ∧ Below w.heap.size w w' := storetakes_any cs s v l w tab h hsz hwf hl hse hwe
end Go.Proofs.YtbdfcgffkonbiaaDoor
namespace Go.Proofs.YtbdfcgffkonbiaaDoor
open Go Go.ChangeShapes Go.WideShapes Go.ChangeAt Go.RowKit
set_option linter.unusedVariables false
def laid1 : List (String × DataW Unit) := [("plenum/key.allowed", Rows.laid_plenum_key_allowed)]
theorem gTab : Tryd.prog.globalNamed "plenum/key.allowed" = some 0 := by kernel_rfl
theorem tTab : (Tryd.prog.globals[0]?).map (·.type) = some 150 := by kernel_rfl
theorem cU64 : Tryd.prog.cellsOf 128 = 1 := by kernel_rfl
theorem cTab : Tryd.prog.cellsOf 150 = 2 := by kernel_rfl
def tabL : List Int := [288195191779622912, 576460745860972544]
theorem laid_tab {H : Type} : (Rows.laid_plenum_key_allowed : DataW H) = .agg (tabL.map fun n => .lit (.int .u64 n)) := rfl
theorem tab_of_laid {W : World} (h : laidMetH Tryd.prog laid1 W) : TabAt W := by
  rw [MakeChecks.laidMetH_plain _ _ _ (by kernel_rfl)] at h
  obtain ⟨ps, ⟨g0, t0, cs0, f0, p0, q0, hg0, ht0, hv0, hd0, _, _⟩, _, _⟩ := h
  obtain rfl := Option.some.inj (gTab.symm.trans hg0)
  obtain rfl := Option.some.inj (tTab.symm.trans ht0)
  obtain ⟨xs, m1, rfl, hx1, hlen, hn, hel⟩ := DataW.trod_array Tryd.underlying150 hd0
  simp only [Prod.mk.injEq] at hx1
  have hx := hx1.1
  rw [laid_tab] at hx
  simp only [DataW.agg.injEq] at hx
  rw [cTab] at hlen
  have cell : ∀ i, i < 2 → W.cell? ⟨0, i, none⟩ = some (.int .u64 (tabL.getD i 0)) := by
    intro i hi
    have h1 := hel i hi
    rw [cU64, Nat.mul_one] at h1
    obtain ⟨x, hxi⟩ : ∃ x, xs[i]? = some x := ⟨xs[i]'(by omega), by simp [hn, hi]⟩
    rw [hxi] at h1
    obtain ⟨k, e1, e2, _⟩ := DataW.trod_int Tryd.underlying128 h1
    have h3 : (xs.map (·.1))[i]? = some (.lit (.int .u64 k)) := by rw [List.getElem?_map, hxi, e2]; rfl
    rw [← hx, List.getElem?_map] at h3
    have h4 : tabL[i]? = some (tabL.getD i 0) := by
      have : i < tabL.length := hi
      simp [this]
    rw [h4] at h3
    simp at h3
    have h5 := World.var?_cell hg0 hv0 i
    have h6 : cs0[i]? = some (.int .u64 k) := by
      have : (cs0.toList.drop i)[0]? = some (.int .u64 k) := by
        have := congrArg (fun l => l[0]?) e1
        simpa [List.getElem?_take] using this
      simpa using this
    rw [h5, h6]
    simp [h3]
  refine ⟨?_, cell 0 (by decide), cell 1 (by decide)⟩
  have := World.block_lt_of_cell? W _ (cell 0 (by decide))
  simpa using this
end Go.Proofs.YtbdfcgffkonbiaaDoor
