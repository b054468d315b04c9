/- Stores: the law StoreAll. Written by wip/tools/gen13ll.py. -/
import Derived.Test.YtbdfcgffkonbiaaDoorQSA1
import Derived.Test.YtbdfcgffkonbiaaDoorQSA3
import Derived.Test.YtbdfcgffkonbiaaDoorQST42
namespace Go.Proofs.YtbdfcgffkonbiaaDoor
open Go Go.RowKit
set_option linter.unusedVariables false
set_option linter.unusedSimpArgs false
theorem valE_ne (x : V7.V) (w : World) : (binOp .neq 43 (.agg #[.int .i64 x.k, .int .i64 x.i, .string (str x.s)]) (.agg #[.int .i64 x.k, .int .i64 x.i, .string (str x.s)])).run Tryd.prog w = .ok (.bool false) w := by
  obtain ⟨b, c, d⟩ := x
  go_simp
theorem take_fail {s t : St} {l : List Ed} {c i : Nat} (h : takeE s l = ((c, i), t)) (hc : c ≠ 0) : t = stQ := by
  unfold takeE at h
  by_cases h1 : okS s = false
  · rw [if_pos h1] at h; injection h with _ h; exact h.symm
  · rw [if_neg h1] at h
    cases hb : badE l 0 with
    | some j => rw [hb] at h; injection h with _ h; exact h.symm
    | none =>
      rw [hb] at h
      change takeB s l = _ at h
      unfold takeB at h
      by_cases h2 : (goE (s.ver + 1) s.lv s.vs l 0).1.1 = 0
      · rw [if_neg (by rw [h2]; simp)] at h
        by_cases h3 : fitsB (nextS s (goE (s.ver + 1) s.lv s.vs l 0).2.1 (goE (s.ver + 1) s.lv s.vs l 0).2.2) = true
        · rw [if_pos h3] at h
          injection h with h4 _
          injection h4 with h4 _
          exact absurd h4.symm hc
        · rw [if_neg h3] at h; injection h with _ h; exact h.symm
      · rw [if_pos h2] at h; injection h with _ h; exact h.symm
/-- What of a key is told, as the call hands it back. -/
theorem get_P {s : St} {k : List UInt8} {C : Array Value} {W : World} {V : V7.V} {v n : Int} (tab : TabAt W) (h : RdS W C s) (hsz : SzT s.lv) (hwf : WfT s.lv) (h100 : ∀ b, b < 16 → (s.lv b).length ≤ 100) (hk : k.length ≤ maxLen) (h1 : (Wt s k).1 = V) (h2 : (Wt s k).2.1 = v) (h3 : ((Wt s k).2.2 : Int) = n) :
    Calls Tryd.prog 25 #[.agg C, .string (str k)] W fun e w' => e = .returned (.tuple #[.agg #[.int .i64 V.k, .int .i64 V.i, .string (str V.s)], .int .i64 v, .int .i64 n]) ∧ Below W.heap.size W w' := by
  have := get13_any C s k W tab h hsz hwf h100 hk
  unfold GetZ at this
  unfold Wt at h1 h2 h3
  change (getI s k).v = V at h1
  change (getI s k).ver = v at h2
  change ((getE s k : Nat) : Int) = n at h3
  rw [h1, h2, h3] at this
  exact this
theorem rde_own {w : World} {base n : Nat} {v : Value} {l : List Ed} (h : w.ownsRow base 68 4 v l.length (l.flatMap edC)) : RdE w v l := own_rdk edC_len h
set_option maxRecDepth 100000 in
set_option maxHeartbeats 8000000 in
theorem storeall_any (cs : Array Value) (s : St) (v0' : Value) (l : List Ed) (k0' : List UInt8) (w : World) (tab : TabAt w) (h : RdS w cs s) (hsz : SzT s.lv) (hwf : WfT s.lv) (hl : RdE w v0' l) (hse : SzE l) (hwe : WfE l) (hk0 : k0'.length ≤ maxLen) :
    Calls Tryd.prog 7 #[.agg cs, v0', .string (str k0')] w fun e w' => e = .returned (.bool true) ∧ Below w.heap.size w w' := by
  have TAB := Lib.hid tab
  have z0 := zeroS_run
  have z1 := zS_ne
  have hs0 := infoS h.size
  obtain ⟨sF, hsF0⟩ : ∃ x, x = fewS s := ⟨_, rfl⟩
  have szF : SzT sF.lv := by rw [hsF0]; exact fewT_sz s.lv
  have wfF : WfT sF.lv := by rw [hsF0]; exact fewT_wf hwf
  have lenF : ∀ b, b < 16 → (sF.lv b).length ≤ 100 := by rw [hsF0]; exact fewT_len s.lv
  have q3 := heap_alloc_new w (.cells cs 28)
  have bel := (Below.refl w.heap.size w).alloc (Nat.le_refl _) (.cells cs 28)
  have FW0 := few13_any cs s _ (h.below bel (Nat.le_refl _)) hsz
  unfold FewSP at FW0
  rw [← hsF0] at FW0
  have FW := Lib.hid FW0
  have hsz0 := h.size
  clear FW0
  have ED0 := fun W (g : Below w.heap.size w W) => edits13_any v0' l W (RdK.below hl g (Nat.le_refl _)) hse
  obtain ⟨L, hL⟩ : ∃ L, L = fewE l := ⟨_, rfl⟩
  have szL : SzE L := by rw [hL]; exact fewE_sz l
  have wfL : WfE L := by rw [hL]; exact fewE_wf hwe
  have lenL : L.length ≤ 90 := by rw [hL]; exact fewE_len l
  rw [← hL] at ED0
  have ED := Lib.hid ED0
  obtain ⟨ks, hks⟩ : ∃ ks, ks = k0'.take 60 := ⟨_, rfl⟩
  have SK0 := fun W => short13_any k0' W hk0
  have kk : ks.length ≤ maxLen := by rw [hks]; exact Nat.le_trans (List.length_take_le _ _) (by decide)
  rw [← hks] at SK0
  have SK := Lib.hid SK0
  obtain ⟨⟨⟨c, i⟩, t⟩, hE⟩ : ∃ p, p = takeE sF L := ⟨_, rfl⟩
  obtain ⟨ao, nn, cap, rfl⟩ : ∃ a n c, v0' = .slice a n c := by obtain ⟨a, c, e, _⟩ := hl; exact ⟨_, _, _, e⟩
  have VZ := valE_zero
  clear h hsz hwf tab hsF0 ED0 SK0 hL hks hl hse hwe hk0
  go_enter Tryd.func7, Tryd.ntmps7
  go_wp2_with ((with_reducible refine wpList_load_row (o := ⟨some 28, _, _, _, _, _⟩) rfl 28 (.tmp 3) rfl _ rfl _ cs (0, 0) _ q3 Tryd.underlying28 rfl hs0 ?_))
  refine FW.out.mono ?_
  rintro e v1 ⟨CF, rfl, own, g⟩
  have hl0 : w.heap.size + 1 = (w.alloc (.cells cs 28)).heap.size := by simp
  rw [← hl0] at own
  have q3 := (g.block _ (lt_of_block q3)).trans q3
  have bel := chain bel g
  have hszF := own.size
  have hsF := infoS own.size
  have hcF : cs.size = CF.size := by rw [own.size]; exact hsz0
  have hoF := own.one
  clear g hl0
  go_wp2_with fail
  refine (ED.out _ bel).mono ?_
  rintro e v2 ⟨u, rfl, ownE, g⟩
  have lB : w.heap.size < v1.heap.size := lt_of_block q3
  have own := own.below g
  have q3 := (g.block _ (lt_of_block q3)).trans q3
  have bel := chain bel g
  obtain ⟨au, cu, rfl⟩ := own_slice_n ownE
  clear g
  go_wp2_with fail
  refine (SK.out _).mono ?_
  rintro e v3 ⟨rfl, rfl⟩
  go_wp2_with (first | ((with_reducible refine wpList_store_row (o := ⟨none, _, _, _, _, _⟩) rfl 28 (.tmp 3) (.tmp 29) rfl _ CF rfl rfl _ cs q3 hsF hcF hoF ?_); (obtain ⟨WS, hWS⟩ : ∃ X, X = World.setRow v2 w.heap.size CF := ⟨_, rfl⟩); rw [← hWS]; (have q3 : WS.heap[w.heap.size]? = some (.cells CF 28 (0, 0)) := by rw [hWS]; exact setRow_heap _ _ _ CF _ _ q3); (have bel : Below w.heap.size w WS := by rw [hWS]; exact below_row bel (Nat.le_refl _) CF); (have own : OwnS (w.heap.size + 1) WS CF sF := by rw [hWS]; exact own.moved (fun k hk _ => by rw [setRow_other _ _ _ _ (by omega)])); (have ownE := own_moved2 (w' := WS) ownE (fun k h1 h2 => by rw [hWS]; exact setRow_other _ _ _ _ (by omega))); clear hWS) | ((with_reducible refine wpList_load_row (o := ⟨some 35, _, _, _, _, _⟩) rfl 28 (.tmp 3) rfl _ rfl _ CF (0, 0) _ q3 Tryd.underlying28 rfl hsF ?_)))
  have RS := Lib.hid own.rd
  have RE := Lib.hid (own_rdk edC_len ownE)
  have BW := Lib.hid bel
  have TS0 := Lib.hid (TAB.out.below bel)
  have hS := Below.refl WS.heap.size WS
  have TK := Lib.hid (fun W (g : Below WS.heap.size WS W) => (take13_any CF sF _ L W (TS0.out.below g) (RS.out.below g (Nat.le_refl _)) szF wfF lenF (RdK.below RE.out g (Nat.le_refl _)) szL wfL).mono fun e w' hz => takeZ_P (RS.out.below g (Nat.le_refl _)) hE.symm hz)
  have AW := Lib.hid (fun W (g : Below WS.heap.size WS W) => awake13_any W (TS0.out.below g))
  by_cases hc : c = 0
  · subst hc
    obtain ⟨tkn, rfl⟩ := take_tkn hE.symm
    obtain ⟨gt, hver, hmt⟩ := tkn_gt tkn szF wfF wfL
    have hms := okS_may tkn.ok
    have hby : t.by_ = sF.by_ := by rw [tkn.eq]; rfl
    have hke : t.ke = sF.ke := by rw [tkn.eq]; rfl
    obtain ⟨P0, hP0⟩ : ∃ p, p = Wt sF ks := ⟨_, rfl⟩
    obtain ⟨V0, hV0⟩ : ∃ x, x = (Wt sF ks).1 := ⟨_, rfl⟩
    obtain ⟨v0, hv0⟩ : ∃ x, x = (Wt sF ks).2.1 := ⟨_, rfl⟩
    obtain ⟨n0, hn0⟩ : ∃ x : Int, x = ((Wt sF ks).2.2 : Int) := ⟨_, rfl⟩
    obtain ⟨V1, hV1⟩ : ∃ x, x = (Wt t ks).1 := ⟨_, rfl⟩
    obtain ⟨v1', hv1⟩ : ∃ x, x = (Wt t ks).2.1 := ⟨_, rfl⟩
    obtain ⟨n1, hn1⟩ : ∃ x : Int, x = ((Wt t ks).2.2 : Int) := ⟨_, rfl⟩
    obtain ⟨tv, htv⟩ : ∃ x, x = t.ver := ⟨_, rfl⟩
    obtain ⟨sv, hsv⟩ : ∃ x, x = sF.ver := ⟨_, rfl⟩
    have hsr := (mayS_ver hms).1
    have hsr2 := okS_lt tkn.ok
    have wv : IntKind.i64.wrap (sv + 1) = tv := by rw [IntKind.wrap_i64, hsv, htv, hver]; omega
    have HTV := Lib.hid htv.symm
    have HP0 := Lib.hid (show foldW ks tv P0 [] = (V0, v0, n0.toNat) ∧ 0 ≤ n0 by rw [hV0, hv0, hn0]; exact ⟨by rw [hP0]; rfl, by omega⟩)
    have HP9 := Lib.hid (show foldW ks tv P0 L = (V1, v1', n1.toNat) ∧ 0 ≤ n1 by rw [hV1, hv1, hn1, htv, hP0, ← get_take tkn szF wfF wfL ks]; exact ⟨rfl, by omega⟩)
    have GE := Lib.hid (fun W (g : Below WS.heap.size WS W) => get_P (TS0.out.below g) (RS.out.below g (Nat.le_refl _)) szF wfF lenF kk hV0.symm hv0.symm hn0.symm)
    have GT := Lib.hid (fun (C : Array Value) W (g : Below WS.heap.size WS W) (hr : RdS W C t) => get_P (TS0.out.below g) hr gt.sz gt.wf gt.h100 kk hV1.symm hv1.symm hn1.symm)
    have MY := Lib.hid (fun W (g : Below WS.heap.size WS W) {C : Array Value} (hr : RdS W C t) => show Calls Tryd.prog 19 #[.agg C] W fun e w' => e = .returned (.bool true) ∧ Below W.heap.size W w' by
      have := may13_any C t W (TS0.out.below g) hr gt.sz gt.wf gt.h100
      rw [hmt] at this
      exact this)
    obtain ⟨U, hU⟩ : ∃ U, U = undoM (allS sF.lv) (allS t.lv) := ⟨_, rfl⟩
    have UN := Lib.hid (fun W (g : Below WS.heap.size WS W) {C : Array Value} (hr : RdS W C t) => show Calls Tryd.prog 36 #[.agg CF, .agg C] W fun e w' => ∃ v, e = .returned (.tuple #[v, .int .i64 0]) ∧ w'.ownsRow W.heap.size 68 4 v U.length (U.flatMap edC) ∧ Below W.heap.size W w' by
      refine (undo13_any CF C sF t W (TS0.out.below g) (RS.out.below g (Nat.le_refl _)) hr szF gt.sz wfF gt.wf lenF gt.h100).mono ?_
      rintro e w' ⟨v, rfl, own, g'⟩
      rw [show undoE sF t = 0 by unfold undoE; rw [if_pos ⟨hms, hmt⟩]]
      rw [show undoS sF t = U by unfold undoS; rw [if_pos ⟨hms, hmt⟩, hU]] at own
      exact ⟨v, rfl, own, g'⟩)
    have szU : SzE U := by rw [hU]; exact um_sz (mayS_t hms) (mayS_t hmt)
    have wfU : WfE U := by rw [hU]; exact um_wf (mayS_t hms) (mayS_t hmt) wfF
    have TU := Lib.hid (fun (C : Array Value) (v : Value) W (g : Below WS.heap.size WS W) (hr : RdS W C t) (hv : RdE W v U) (c i : Nat) (z : St) (hz : takeE t U = ((c, i), z)) => (take13_any C t v U W (TS0.out.below g) hr gt.sz gt.wf gt.h100 hv szU wfU).mono fun e w' hzz => takeZ_P hr hz hzz)
    have UT := Lib.hid (fun hmx : t.ver ≠ 2147483647 => undo_tkn hms hmt gt.sz gt.wf wfF hby hke (by have := (mayS_ver hmt).2.1; omega))
    rw [← hU] at UT
    have GZ0 := Lib.hid (fun (z : St) (i : Nat) (hz : takeE t U = ((0, i), z)) (hzk : ∀ k, (Wt z k).1 = (Wt sF k).1 ∧ (Wt z k).2.2 = (Wt sF k).2.2) =>
      have tz := (take_tkn hz).1
      have gz := tkn_gt tz gt.sz gt.wf wfU
      show ∃ v9 : Int, ∀ (C : Array Value) W (g : Below WS.heap.size WS W) (hr : RdS W C z), Calls Tryd.prog 25 #[.agg C, .string (str ks)] W fun e w' => e = .returned (.tuple #[.agg #[.int .i64 V0.k, .int .i64 V0.i, .string (str V0.s)], .int .i64 v9, .int .i64 n0]) ∧ Below W.heap.size W w' from
        ⟨_, fun C W g hr => get_P (TS0.out.below g) hr gz.1.sz gz.1.wf gz.1.h100 kk ((hzk ks).1.trans hV0.symm) rfl (by rw [(hzk ks).2, ← hn0])⟩)
    have VE0 := fun W => valE_eql V0 W
    have VE1 := fun W => valE_ne V1 W
    have LENL := lenL
    have XV := Lib.hid (show CF[32]? = some (.int .i64 sv) by rw [hsv]; exact RS.out.ver)
    have RSX := RS
    clear bel own ownE hcF FW lenF hE szL wfL szF wfF lB ED tkn gt hver hmt hms hby hke hP0 hV0 hv0 hn0 hV1 hv1 hn1 htv hsv hsr hsr2 szU wfU hU
    refine (TK.out _ hS).mono ?_
    rintro e x1 ⟨C1, rfl, hsC1, hoC1, R1, g⟩
    have q3 := (g.block _ (lt_of_block q3)).trans q3
    have hS := chain hS g
    clear g
    have R1 := Lib.hid R1
    have qd7 := heap_alloc_new x1 (.cells zS 28)
    go_wp2_with (first | ((with_reducible refine wpList_store_row (o := ⟨none, _, _, _, _, _⟩) rfl 28 (.tmp 7) (.tmp 38) rfl _ C1 rfl rfl _ zS qd7 (infoS hsC1) (zS_size.trans hsC1.symm) hoC1 ?_); (obtain ⟨y1, hWn⟩ : ∃ W, W = (World.alloc x1 (.cells zS 28)).setRow x1.heap.size C1 := ⟨_, rfl⟩); rw [← hWn]; (have q7 : y1.heap[x1.heap.size]? = some (.cells C1 28 (0, 0)) := by rw [hWn]; exact setRow_heap _ _ _ C1 _ _ qd7); (have gn : Below x1.heap.size x1 y1 := by rw [hWn]; exact below_row ((Below.refl _ _).alloc (Nat.le_refl _) _) (Nat.le_refl _) C1); clear hWn qd7; (have hS := chain hS gn); (have q3 := (gn.block _ (lt_of_block q3)).trans q3); (have R1 := Lib.hid (R1.out.below gn (Nat.le_refl _))); clear gn) | ((with_reducible refine wpList_load_row (o := ⟨some 49, _, _, _, _, _⟩) rfl 28 (.tmp 3) rfl _ rfl _ CF (0, 0) _ q3 Tryd.underlying28 rfl hsF ?_)))
    obtain ⟨B7, hB7⟩ : ∃ B, B = x1.heap.size := ⟨_, rfl⟩
    rw [← hB7] at q7 ⊢
    clear hB7
    refine (GE.out _ hS).mono ?_
    rintro e x2 ⟨rfl, g⟩
    have q3 := (g.block _ (lt_of_block q3)).trans q3
    have q7 := (g.block _ (lt_of_block q7)).trans q7
    have R1 := Lib.hid (R1.out.below g (Nat.le_refl _))
    have hS := chain hS g
    clear g
    have q10 := heap_alloc_new x2 (.cells #[.int .i64 V0.k, .int .i64 V0.i, .string (str V0.s)] 43)
    have gA := (Below.refl x2.heap.size x2).alloc (Nat.le_refl _) (.cells #[.int .i64 V0.k, .int .i64 V0.i, .string (str V0.s)] 43)
    have q3 := (gA.block _ (lt_of_block q3)).trans q3
    have q7 := (gA.block _ (lt_of_block q7)).trans q7
    have R1 := Lib.hid (R1.out.below gA (Nat.le_refl _))
    have hS := chain hS gA
    clear gA
    go_wp2_with ((with_reducible refine wpList_load_row (o := ⟨some 56, _, _, _, _, _⟩) rfl 28 (.tmp 7) rfl _ rfl _ C1 (0, 0) _ q7 Tryd.underlying28 rfl (infoS hsC1) ?_))
    obtain ⟨y2, hnm⟩ : ∃ W, W = World.alloc x2 (.cells #[.int .i64 V0.k, .int .i64 V0.i, .string (str V0.s)] 43) := ⟨_, rfl⟩
    rw [← hnm] at q10 q3 q7 R1 hS ⊢
    clear hnm
    refine (GT.out _ _ hS R1.out).mono ?_
    rintro e x4 ⟨rfl, g⟩
    have q3 := (g.block _ (lt_of_block q3)).trans q3
    have q7 := (g.block _ (lt_of_block q7)).trans q7
    have q10 := (g.block _ (lt_of_block q10)).trans q10
    have R1 := Lib.hid (R1.out.below g (Nat.le_refl _))
    have hS := chain hS g
    clear g
    have q13 := heap_alloc_new x4 (.cells #[.int .i64 V1.k, .int .i64 V1.i, .string (str V1.s)] 43)
    have gA := (Below.refl x4.heap.size x4).alloc (Nat.le_refl _) (.cells #[.int .i64 V1.k, .int .i64 V1.i, .string (str V1.s)] 43)
    have q3 := (gA.block _ (lt_of_block q3)).trans q3
    have q7 := (gA.block _ (lt_of_block q7)).trans q7
    have q10 := (gA.block _ (lt_of_block q10)).trans q10
    have R1 := Lib.hid (R1.out.below gA (Nat.le_refl _))
    have hS := chain hS gA
    clear gA
    obtain ⟨W6, hW6⟩ : ∃ W, W = World.alloc x4 (.cells #[.int .i64 V1.k, .int .i64 V1.i, .string (str V1.s)] 43) := ⟨_, rfl⟩
    rw [← hW6] at q13 q3 q7 q10 R1 hS
    have q16 := heap_alloc_new W6 (.cells #[.int .i64 V0.k, .int .i64 V0.i, .string (str V0.s)] 43)
    have hX := (Below.refl W6.heap.size W6).alloc (Nat.le_refl _) (.cells #[.int .i64 V0.k, .int .i64 V0.i, .string (str V0.s)] 43)
    rw [hW6] at q16 hX
    go_wp2_with ((with_reducible refine wpList_load_row (o := ⟨some 62, _, _, _, _, _⟩) rfl 43 (.tmp 10) rfl _ rfl _ #[.int .i64 V0.k, .int .i64 V0.i, .string (str V0.s)] (0, 0) _ (by rw [hW6] at q10; exact q10) Tryd.underlying43 rfl (infoV _ _ _) ?_))
    have hsz6 : W6.heap.size = x4.heap.size + 1 := by rw [hW6]; simp
    rw [← hW6] at q16 hX ⊢
    rw [← hsz6]
    clear hW6 hsz6
    have RE := Lib.hid (RdK.below RE.out hS (Nat.le_refl _))
    have l7 := lt_of_block q7
    have x7 := (block_cell q7 32).trans (by rw [R1.out.ver, HTV.out])
    go_loopw [17, 18, 19] (fun tv9 tn9 i wr => ∃ (j : Nat) (V : V7.V) (v n : Int), j ≤ L.length ∧ i = .int .i64 (j : Int) ∧ tv9 = .int .i64 v ∧ tn9 = .int .i64 n ∧ Hid (foldW ks tv P0 (L.take j) = (V, v, n.toNat) ∧ 0 ≤ n) ∧ wr.heap[W6.heap.size]? = some (.cells #[.int .i64 V.k, .int .i64 V.i, .string (str V.s)] 43 (0, 0)) ∧ Below W6.heap.size W6 wr) (fun _ _ i _ => 300 - (intOf i).toNat)
    case atStart => exact ⟨0, V0, v0, n0, Nat.zero_le _, rfl, rfl, rfl, Lib.hid ⟨by rw [List.take_zero]; exact HP0.out.1, HP0.out.2⟩, q16, hX⟩
    case round =>
      obtain ⟨j, V, v, n, hj, rfl, rfl, rfl, HF, q16, hX⟩ := hrel
      by_cases hlt : j < L.length
      · obtain ⟨b, off, rfl, hb, hca⟩ := RdK.cell edC_len RE.out j hlt
        obtain ⟨x, hx⟩ : ∃ x, x = L[j]'hlt := ⟨_, rfl⟩
        rw [← hx] at hca
        obtain ⟨c0, c1, c2, c3⟩ := ed_cells (o := off + j * 4) (fun i hi => by rw [Nat.add_assoc]; exact hca i hi)
        have HST := Lib.hid (show foldW ks tv P0 (L.take (j + 1)) = stepW ks tv (V, v, n.toNat) x by rw [foldW_take hlt, HF.out.1, ← hx])
        have k0 := (hX.cell (p := ⟨b, off + j * 4, none⟩) hb).trans c0
        clear hx hca
        by_cases hk : x.key = ks
        · have e1 : ((str x.key).toList == (str ks).toList) = true := by rw [hk]; exact beq_self_eq_true _
          have e2 : decide (str x.key = str ks) = true := by rw [hk]; simp
          have HK := Lib.hid hk
          clear hk
          go_wp2_with fail
          refine region_puts_of (fun _ : Unit => [(some 78, .slice (some ⟨b, off, none⟩) L.length cu), (some 79, .int .i64 (j : Int)), (some 80, .pointer (some ⟨b, off + j * 4, none⟩)), (some 81, .pointer (some ⟨b, off + j * 4 + 1, none⟩)), (some 82, .agg #[.int .i64 x.v.k, .int .i64 x.v.i, .string (str x.v.s)]), (some 83, .pointer (some ⟨B7, 32, none⟩)), (some 84, .int .i64 tv), (some 17, .int .i64 tv), (some 18, .int .i64 0)]) (fun _ y => y.heap[W6.heap.size]? = some (.cells #[.int .i64 x.v.k, .int .i64 x.v.i, .string (str x.v.s)] 43 (0, 0)) ∧ Below W6.heap.size W6 y) ?_ ?_
          · have hS9 : Below W6.heap.size W6 wr.drew := hX.drew
            refine gs_start (S := (fun W => Below W6.heap.size W6 W)) (by kernel_rfl) ?_
            refine gs_take (i := 0) (d := (some 78)) (v := ?_) rfl rfl (by kernel_rfl) (fun _ _ _ h => nomatch h.1) (by rfl) hS9 (fun w' hb' => ?_) ?_
            rotate_left
            · (try go_simp); (try with_reducible rfl)
            try simp only [Act.put, List.setIfInBounds_toArray, List.set_cons_zero, List.set_cons_succ]
            refine gs_take (i := 1) (d := (some 79)) (v := ?_) rfl rfl (by kernel_rfl) (fun _ _ _ h => nomatch h.1) (by rfl) hS9 (fun w' hb' => ?_) ?_
            rotate_left
            · (try go_simp); (try with_reducible rfl)
            try simp only [Act.put, List.setIfInBounds_toArray, List.set_cons_zero, List.set_cons_succ]
            refine gs_take (i := 2) (d := (some 80)) (v := ?_) rfl rfl (by kernel_rfl) (fun _ _ _ h => nomatch h.1) (by rfl) hS9 (fun w' hb' => ?_) ?_
            rotate_left
            · (try go_simp); (try with_reducible rfl)
            try simp only [Act.put, List.setIfInBounds_toArray, List.set_cons_zero, List.set_cons_succ]
            refine gs_take (i := 3) (d := (some 81)) (v := ?_) rfl rfl (by kernel_rfl) (fun _ _ _ h => nomatch h.1) (by rfl) hS9 (fun w' hb' => ?_) ?_
            rotate_left
            · (try go_simp); (try with_reducible rfl)
            try simp only [Act.put, List.setIfInBounds_toArray, List.set_cons_zero, List.set_cons_succ]
            refine gs_take (i := 4) (d := (some 82)) (v := ?_) rfl rfl (by kernel_rfl) (fun _ _ _ h => nomatch h.1) (by rfl) hS9 (fun w' hb' => ?_) ?_
            rotate_left
            · have z1 := (hb'.cell (p := ⟨b, off + j * 4 + 1, none⟩) hb).trans c1; have z2 := (hb'.cell (p := ⟨b, off + j * 4 + 2, none⟩) hb).trans c2; have z3 := (hb'.cell (p := ⟨b, off + j * 4 + 3, none⟩) hb).trans c3; (try go_simp); (try with_reducible rfl)
            try simp only [Act.put, List.setIfInBounds_toArray, List.set_cons_zero, List.set_cons_succ]
            refine gs_take (i := 5) (d := (some 83)) (v := ?_) rfl rfl (by kernel_rfl) (fun _ _ _ h => nomatch h.1) (by rfl) hS9 (fun w' hb' => ?_) ?_
            rotate_left
            · (try go_simp); (try with_reducible rfl)
            try simp only [Act.put, List.setIfInBounds_toArray, List.set_cons_zero, List.set_cons_succ]
            refine gs_take (i := 6) (d := (some 84)) (v := ?_) rfl rfl (by kernel_rfl) (fun _ _ _ h => nomatch h.1) (by rfl) hS9 (fun w' hb' => ?_) ?_
            rotate_left
            · have zz := (hb'.cell (p := ⟨B7, 32, none⟩) l7).trans x7; (try go_simp); (try with_reducible rfl)
            try simp only [Act.put, List.setIfInBounds_toArray, List.set_cons_zero, List.set_cons_succ]
            refine gs_run (i := 7) rfl (by kernel_rfl) (by rfl) (fun K hK => ?_)
            have z0 := block_cell q16 0
            have z1 := block_cell q16 1
            have z2 := block_cell q16 2
            have zf := fun i => block_frozen q16 i
            go_simp
            refine hK _ _ (and_keep (((hX.drew.setCell (p := ⟨W6.heap.size, 0, none⟩) (Nat.le_refl _) (.int .i64 x.v.k)).setCell (p := ⟨W6.heap.size, 1, none⟩) (Nat.le_refl _) (.int .i64 x.v.i)).setCell (p := ⟨W6.heap.size, 2, none⟩) (Nat.le_refl _) (.string (str x.v.s))) fun hS2 => ?_)
            clear hK K z0 z1 z2 zf
            try simp only [Act.put, List.setIfInBounds_toArray, List.set_cons_zero, List.set_cons_succ]
            refine gs_take (i := 8) (d := (some 17)) (v := ?_) rfl rfl (by kernel_rfl) (fun _ _ _ h => nomatch h.1) (by rfl) hS2 (fun w' hb' => ?_) ?_
            rotate_left
            · (try go_simp); (try with_reducible rfl)
            try simp only [Act.put, List.setIfInBounds_toArray, List.set_cons_zero, List.set_cons_succ]
            refine gs_take (i := 9) (d := (some 18)) (v := ?_) rfl rfl (by kernel_rfl) (fun _ _ _ h => nomatch h.1) (by rfl) hS2 (fun w' hb' => ?_) ?_
            rotate_left
            · (try go_simp); (try with_reducible rfl)
            try simp only [Act.put, List.setIfInBounds_toArray, List.set_cons_zero, List.set_cons_succ]
            refine gs_done (by kernel_rfl) ?_
            refine ⟨rfl, (), ?_, ?_, hS2⟩
            · simp only [List.foldl_cons, List.foldl_nil, Act.put, List.setIfInBounds_toArray, List.set_cons_zero, List.set_cons_succ]
            · first | exact set_at (i := 2) (u := .string (str x.v.s)) (set_at (i := 1) (u := .int .i64 x.v.i) (set_at (i := 0) (u := .int .i64 x.v.k) q16)) | (simp only [drew_heapE]; exact set_at (i := 2) (u := .string (str x.v.s)) (set_at (i := 1) (u := .int .i64 x.v.i) (set_at (i := 0) (u := .int .i64 x.v.k) q16)))
          rintro ⟨⟩ y9 ⟨q16, hX⟩
          simp only [List.foldl_cons, List.foldl_nil, Act.put, List.setIfInBounds_toArray, List.set_cons_zero, List.set_cons_succ]
          have k1 := block_cell q16 0
          by_cases h0 : x.v.k = 0
          · have t0 : (x.v.k == 0) = true := by rw [h0]; rfl
            have HNX := Lib.hid (show foldW ks tv P0 (L.take (j + 1)) = (eV0, 0, 6) by rw [HST.out]; unfold stepW; rw [if_pos HK.out, if_pos h0])
            have zf := fun i => block_frozen q16 i
            have k2 := block_cell q16 1
            have k3 := block_cell q16 2
            have Q16 := Lib.hid q16
            have HX := Lib.hid hX
            clear q16 hX h0
            go_wp2_with fail
            exact ⟨⟨j + 1, eV0, 0, 6, by omega, by push_cast; rfl, rfl, rfl, Lib.hid ⟨HNX.out, by decide⟩, set_at (i := 2) (u := .string (str [])) (set_at (i := 1) (u := .int .i64 0) (set_at (i := 0) (u := .int .i64 0) Q16.out)), ((HX.out.setCell (p := ⟨W6.heap.size, 0, none⟩) (Nat.le_refl _) (.int .i64 0)).setCell (p := ⟨W6.heap.size, 1, none⟩) (Nat.le_refl _) (.int .i64 0)).setCell (p := ⟨W6.heap.size, 2, none⟩) (Nat.le_refl _) (.string (str []))⟩, by simp [intOf]; omega⟩
          · have t0 : (x.v.k == 0) = false := beq_eq_false_iff_ne.2 h0
            have HNX := Lib.hid (show foldW ks tv P0 (L.take (j + 1)) = (x.v, tv, 0) by rw [HST.out]; unfold stepW; rw [if_pos HK.out, if_neg h0])
            clear h0
            go_wp2_with fail
            exact ⟨⟨j + 1, x.v, tv, 0, by omega, by push_cast; rfl, rfl, rfl, Lib.hid ⟨HNX.out, by decide⟩, q16, hX⟩, by simp [intOf]; omega⟩
        · have e1 : ((str x.key).toList == (str ks).toList) = false := by rw [str_tl, str_tl]; exact beq_eq_false_iff_ne.2 hk
          have HNX := Lib.hid (show foldW ks tv P0 (L.take (j + 1)) = (V, v, n.toNat) by rw [HST.out]; unfold stepW; rw [if_neg hk])
          clear hk
          go_wp2_with fail
          exact ⟨⟨j + 1, V, v, n, by omega, by push_cast; rfl, rfl, rfl, Lib.hid ⟨HNX.out, HF.out.2⟩, q16, hX⟩, by simp [intOf]; omega⟩
      · obtain rfl : j = L.length := by omega
        have HPF := Lib.hid HP9
        obtain ⟨eV, ev, en⟩ : V = V1 ∧ v = v1' ∧ n = n1 := by
          have h1 := HF.out.1
          rw [List.take_length, HPF.out.1] at h1
          have h2 := HF.out.2
          have h3 := HPF.out.2
          injection h1 with h4 h1
          injection h1 with h5 h6
          exact ⟨h4.symm, h5.symm, by omega⟩
        subst eV ev en
        have hS := hS.trans (hX.mono hS.size)
        have q3 := (hX.block _ (lt_of_block q3)).trans q3
        have q7 := (hX.block _ (lt_of_block q7)).trans q7
        have q10 := (hX.block _ (lt_of_block q10)).trans q10
        have q13 := (hX.block _ (lt_of_block q13)).trans q13
        have R1 := Lib.hid (R1.out.below hX (Nat.le_refl _))
        have x7 := (hX.cell (p := ⟨B7, 32, none⟩) l7).trans x7
        have x3 := (block_cell q3 32).trans XV.out
        clear hX HF
        go_wp2_with (first | ((with_reducible refine wpList_load_row (o := ⟨some 89, _, _, _, _, _⟩) rfl 43 (.tmp 13) rfl _ rfl _ #[.int .i64 V.k, .int .i64 V.i, .string (str V.s)] (0, 0) _ q13 Tryd.underlying43 rfl (infoV _ _ _) ?_)) | ((with_reducible refine wpList_load_row (o := ⟨some 90, _, _, _, _, _⟩) rfl 43 (.tmp 16) rfl _ rfl _ #[.int .i64 V.k, .int .i64 V.i, .string (str V.s)] (0, 0) _ q16 Tryd.underlying43 rfl (infoV _ _ _) ?_)) | ((with_reducible refine wpList_load_row_g (o := ⟨some 111, _, _, _, _, _⟩) ?_ 28 (.tmp 7) rfl _ rfl _ C1 (0, 0) _ q7 Tryd.underlying28 rfl (infoS hsC1) ?_); rfl))
        clear q16 q13
        refine (MY.out _ hS R1.out).mono ?_
        rintro e x8 ⟨rfl, g⟩
        have q3 := (g.block _ (lt_of_block q3)).trans q3
        have q7 := (g.block _ (lt_of_block q7)).trans q7
        have q10 := (g.block _ (lt_of_block q10)).trans q10
        have R1 := Lib.hid (R1.out.below g (Nat.le_refl _))
        have hS := chain hS g
        clear g x3 x7
        go_wp2_with (first | ((with_reducible refine wpList_load_row (o := ⟨some 116, _, _, _, _, _⟩) rfl 28 (.tmp 3) rfl _ rfl _ CF (0, 0) _ q3 Tryd.underlying28 rfl hsF ?_)) | ((with_reducible refine wpList_load_row (o := ⟨some 117, _, _, _, _, _⟩) rfl 28 (.tmp 7) rfl _ rfl _ C1 (0, 0) _ q7 Tryd.underlying28 rfl (infoS hsC1) ?_)))
        refine (UN.out _ hS R1.out).mono ?_
        rintro e x9 ⟨vu, rfl, ownU, g⟩
        have q3 := (g.block _ (lt_of_block q3)).trans q3
        have q7 := (g.block _ (lt_of_block q7)).trans q7
        have q10 := (g.block _ (lt_of_block q10)).trans q10
        have R1 := Lib.hid (R1.out.below g (Nat.le_refl _))
        have hS := chain hS g
        clear g
        obtain ⟨au, cu9, rfl⟩ := own_slice_n ownU
        have TKU := Lib.hid (TU.out _ _ x9 hS R1.out (own_rdk edC_len ownU))
        clear ownU
        by_cases hmx : t.ver = 2147483647
        · have HZ := Lib.hid (show takeE t U = ((1, 0), stQ) from take_arg (by unfold okS; rw [hmx]; simp))
          have TVE := Lib.hid hmx
          have mx := (show ((2147483647 : Int) == 2147483647) = true from rfl)
          clear hmx
          have TKZ := Lib.hid (TKU.out _ _ _ HZ.out)
          go_wp2_with ((with_reducible refine wpList_load_row (o := ⟨some 122, _, _, _, _, _⟩) rfl 28 (.tmp 7) rfl _ rfl _ C1 (0, 0) _ q7 Tryd.underlying28 rfl (infoS hsC1) ?_))
          refine (TKZ.out).mono ?_
          rintro e y0 ⟨C2, rfl, hsC2, hoC2, R2, g⟩
          have q7 := (g.block _ (lt_of_block q7)).trans q7
          have q10 := (g.block _ (lt_of_block q10)).trans q10
          have R1 := Lib.hid (R1.out.below g (Nat.le_refl _))
          have hS := chain hS g
          clear g
          have R2 := Lib.hid R2
          have qd22 := heap_alloc_new y0 (.cells zS 28)
          have g1 := (Below.refl y0.heap.size y0).alloc (Nat.le_refl _) (.cells zS 28)
          have l7' := lt_of_block q7
          go_wp2_with ((with_reducible refine wpList_store_row (o := ⟨none, _, _, _, _, _⟩) rfl 28 (.tmp 22) (.tmp 125) rfl _ C2 rfl rfl _ zS qd22 (infoS hsC2) (zS_size.trans hsC2.symm) hoC2 ?_); (obtain ⟨y2, hWn⟩ : ∃ W, W = (World.alloc y0 (.cells zS 28)).setRow y0.heap.size C2 := ⟨_, rfl⟩); rw [← hWn]; (have q22 : y2.heap[y0.heap.size]? = some (.cells C2 28 (0, 0)) := by rw [hWn]; exact setRow_heap _ _ _ C2 _ _ qd22); (have gn : Below y0.heap.size y0 y2 := by rw [hWn]; exact below_row ((Below.refl _ _).alloc (Nat.le_refl _) _) (Nat.le_refl _) C2); clear hWn qd22; (have hS := chain hS gn); (have q7 := (gn.block _ (lt_of_block q7)).trans q7); clear gn; (have x7 := (block_cell q7 32).trans R1.out.ver); (rw [TVE.out] at x7))
          refine (AW.out _ hS).mono ?_
          rintro e y3 ⟨rfl, g⟩
          have hS := chain hS g
          clear g
          go_wp2_with fail
          go_ret
          exact ⟨rfl, chain BW.out hS⟩
        · have TVE := Lib.hid (show t.ver = tv from HTV.out)
          rcases UT.out hmx with ⟨i5, h5⟩ | ⟨z, hz, hzk⟩
          · have HZ := Lib.hid h5
            have nmx : (tv == 2147483647) = false := beq_eq_false_iff_ne.2 (by rw [← HTV.out]; exact hmx)
            clear h5 hmx
            have TKZ := Lib.hid (TKU.out _ _ _ HZ.out)
            go_wp2_with ((with_reducible refine wpList_load_row (o := ⟨some 122, _, _, _, _, _⟩) rfl 28 (.tmp 7) rfl _ rfl _ C1 (0, 0) _ q7 Tryd.underlying28 rfl (infoS hsC1) ?_))
            refine (TKZ.out).mono ?_
            rintro e y0 ⟨C2, rfl, hsC2, hoC2, R2, g⟩
            have q7 := (g.block _ (lt_of_block q7)).trans q7
            have q10 := (g.block _ (lt_of_block q10)).trans q10
            have R1 := Lib.hid (R1.out.below g (Nat.le_refl _))
            have hS := chain hS g
            clear g
            have R2 := Lib.hid R2
            have qd22 := heap_alloc_new y0 (.cells zS 28)
            have g1 := (Below.refl y0.heap.size y0).alloc (Nat.le_refl _) (.cells zS 28)
            have l7' := lt_of_block q7
            go_wp2_with ((with_reducible refine wpList_store_row (o := ⟨none, _, _, _, _, _⟩) rfl 28 (.tmp 22) (.tmp 125) rfl _ C2 rfl rfl _ zS qd22 (infoS hsC2) (zS_size.trans hsC2.symm) hoC2 ?_); (obtain ⟨y2, hWn⟩ : ∃ W, W = (World.alloc y0 (.cells zS 28)).setRow y0.heap.size C2 := ⟨_, rfl⟩); rw [← hWn]; (have q22 : y2.heap[y0.heap.size]? = some (.cells C2 28 (0, 0)) := by rw [hWn]; exact setRow_heap _ _ _ C2 _ _ qd22); (have gn : Below y0.heap.size y0 y2 := by rw [hWn]; exact below_row ((Below.refl _ _).alloc (Nat.le_refl _) _) (Nat.le_refl _) C2); clear hWn qd22; (have hS := chain hS gn); (have q7 := (gn.block _ (lt_of_block q7)).trans q7); clear gn; (have x7 := (block_cell q7 32).trans R1.out.ver); (rw [TVE.out] at x7))
            refine (AW.out _ hS).mono ?_
            rintro e y3 ⟨rfl, g⟩
            have hS := chain hS g
            clear g
            go_wp2_with fail
            go_ret
            exact ⟨rfl, chain BW.out hS⟩
          · have HZ := Lib.hid hz
            obtain ⟨v9, GZ1⟩ := GZ0.out z _ hz hzk
            have GZ := Lib.hid GZ1
            clear GZ1
            clear hz hzk hmx
            have TKZ := Lib.hid (TKU.out _ _ _ HZ.out)
            go_wp2_with ((with_reducible refine wpList_load_row (o := ⟨some 122, _, _, _, _, _⟩) rfl 28 (.tmp 7) rfl _ rfl _ C1 (0, 0) _ q7 Tryd.underlying28 rfl (infoS hsC1) ?_))
            refine (TKZ.out).mono ?_
            rintro e y0 ⟨C2, rfl, hsC2, hoC2, R2, g⟩
            have q7 := (g.block _ (lt_of_block q7)).trans q7
            have q10 := (g.block _ (lt_of_block q10)).trans q10
            have R1 := Lib.hid (R1.out.below g (Nat.le_refl _))
            have hS := chain hS g
            clear g
            have R2 := Lib.hid R2
            have qd22 := heap_alloc_new y0 (.cells zS 28)
            go_wp2_with (first | ((with_reducible refine wpList_store_row (o := ⟨none, _, _, _, _, _⟩) rfl 28 (.tmp 22) (.tmp 125) rfl _ C2 rfl rfl _ zS qd22 (infoS hsC2) (zS_size.trans hsC2.symm) hoC2 ?_); (obtain ⟨y2, hWn⟩ : ∃ W, W = (World.alloc y0 (.cells zS 28)).setRow y0.heap.size C2 := ⟨_, rfl⟩); rw [← hWn]; (have q22 : y2.heap[y0.heap.size]? = some (.cells C2 28 (0, 0)) := by rw [hWn]; exact setRow_heap _ _ _ C2 _ _ qd22); (have gn : Below y0.heap.size y0 y2 := by rw [hWn]; exact below_row ((Below.refl _ _).alloc (Nat.le_refl _) _) (Nat.le_refl _) C2); clear hWn qd22; (have hS := chain hS gn); (have q10 := (gn.block _ (lt_of_block q10)).trans q10); (have R2 := Lib.hid (R2.out.below gn (Nat.le_refl _))); clear gn) | ((with_reducible refine wpList_load_row (o := ⟨some 149, _, _, _, _, _⟩) rfl 28 (.tmp 22) rfl _ rfl _ C2 (0, 0) _ q22 Tryd.underlying28 rfl (infoS hsC2) ?_)))
            refine (GZ.out _ _ hS R2.out).mono ?_
            rintro e y3 ⟨rfl, g⟩
            have q10 := (g.block _ (lt_of_block q10)).trans q10
            have hS := chain hS g
            clear g
            have q25 := heap_alloc_new y3 (.cells #[.int .i64 V0.k, .int .i64 V0.i, .string (str V0.s)] 43)
            have gA := (Below.refl y3.heap.size y3).alloc (Nat.le_refl _) (.cells #[.int .i64 V0.k, .int .i64 V0.i, .string (str V0.s)] 43)
            have q10 := (gA.block _ (lt_of_block q10)).trans q10
            have hS := chain hS gA
            clear gA
            go_wp2_with (first | ((with_reducible refine wpList_load_row (o := ⟨some 155, _, _, _, _, _⟩) rfl 43 (.tmp 25) rfl _ rfl _ #[.int .i64 V0.k, .int .i64 V0.i, .string (str V0.s)] (0, 0) _ q25 Tryd.underlying43 rfl (infoV _ _ _) ?_)) | ((with_reducible refine wpList_load_row (o := ⟨some 156, _, _, _, _, _⟩) rfl 43 (.tmp 10) rfl _ rfl _ #[.int .i64 V0.k, .int .i64 V0.i, .string (str V0.s)] (0, 0) _ q10 Tryd.underlying43 rfl (infoV _ _ _) ?_)))
            refine (AW.out _ hS).mono ?_
            rintro e y4 ⟨rfl, g⟩
            have hS := chain hS g
            clear g
            go_wp2_with fail
            go_ret
            exact ⟨rfl, chain BW.out hS⟩
  · obtain rfl : t = stQ := take_fail hE.symm hc
    have NN := Lib.hid (fun (C : Array Value) W (hr : RdS W C stQ) => show Calls Tryd.prog 15 #[.agg C] W fun e w' => e = .returned (.bool true) ∧ Below W.heap.size W w' by
      have := none13_any C stQ W hr (fun _ _ => by simp [stQ])
      rw [sameS_refl] at this
      exact this)
    obtain ⟨c9, hc9⟩ : ∃ c1 : Int, c1 = (c : Int) := ⟨_, rfl⟩
    obtain ⟨i9, hi9⟩ : ∃ c1 : Int, c1 = (i : Int) := ⟨_, rfl⟩
    rw [← hc9, ← hi9] at TK
    have n0 : (c9 == 0) = false := beq_eq_false_iff_ne.2 (by omega)
    clear bel own ownE hcF FW lenF hE szL wfL szF wfF lB ED hc hc9 hi9
    refine (TK.out _ hS).mono ?_
    rintro e x1 ⟨C1, rfl, hsC1, hoC1, R1, g⟩
    have q3 := (g.block _ (lt_of_block q3)).trans q3
    have hS := chain hS g
    clear g
    have R1 := Lib.hid R1
    have qd7 := heap_alloc_new x1 (.cells zS 28)
    go_wp2_with (first | ((with_reducible refine wpList_store_row (o := ⟨none, _, _, _, _, _⟩) rfl 28 (.tmp 7) (.tmp 38) rfl _ C1 rfl rfl _ zS qd7 (infoS hsC1) (zS_size.trans hsC1.symm) hoC1 ?_); (obtain ⟨y1, hWn⟩ : ∃ W, W = (World.alloc x1 (.cells zS 28)).setRow x1.heap.size C1 := ⟨_, rfl⟩); rw [← hWn]; (have q7 : y1.heap[x1.heap.size]? = some (.cells C1 28 (0, 0)) := by rw [hWn]; exact setRow_heap _ _ _ C1 _ _ qd7); (have gn : Below x1.heap.size x1 y1 := by rw [hWn]; exact below_row ((Below.refl _ _).alloc (Nat.le_refl _) _) (Nat.le_refl _) C1); clear hWn qd7; (have hS := chain hS gn); (have R1 := Lib.hid (R1.out.below gn (Nat.le_refl _))); clear gn) | ((with_reducible refine wpList_load_row (o := ⟨some 43, _, _, _, _, _⟩) rfl 28 (.tmp 7) rfl _ rfl _ C1 (0, 0) _ q7 Tryd.underlying28 rfl (infoS hsC1) ?_)))
    refine (NN.out _ _ R1.out).mono ?_
    rintro e x2 ⟨rfl, g⟩
    have hS := chain hS g
    clear g
    go_wp2_with fail
    refine (AW.out _ hS).mono ?_
    rintro e x3 ⟨rfl, g⟩
    have hS := chain hS g
    clear g
    go_wp2_with fail
    go_ret
    exact ⟨rfl, chain BW.out hS⟩
theorem storeall_row (cs : Array Value) (s : St) (v : Value) (l : List Ed) (k : List UInt8) (w : World) (h : RdS w cs s) (hsz : SzT s.lv) (hwf : WfT s.lv) (hl : RdE w v l) (hse : SzE l) (hwe : WfE l) (hk : k.length ≤ maxLen) (tab : TabAt w) :
    Calls Tryd.prog 7 #[.agg cs, v, .string (str k)] w fun e w' => e = .returned (.bool true) ∧ Below w.heap.size w w' := storeall_any cs s v l k w tab h hsz hwf hl hse hwe hk
end Go.Proofs.YtbdfcgffkonbiaaDoor
