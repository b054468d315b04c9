/- Stores: the law StoreGets. Written by wip/tools/gen13lg.py. -/
import Derived.Test.YtbdfcgffkonbiaaDoorQSG1
namespace Go.Proofs.YtbdfcgffkonbiaaDoor
open Go Go.RowKit
set_option linter.unusedVariables false
set_option linter.unusedSimpArgs false
set_option maxRecDepth 100000 in
set_option maxHeartbeats 8000000 in
theorem storegets_any (cs : Array Value) (s : St) (k0 t0 : List UInt8) (w : World) (tab : TabAt w) (h : RdS w cs s) (hsz : SzT s.lv) (hwf : WfT s.lv) (hk0 : k0.length ≤ maxLen) (ht0 : t0.length ≤ maxLen) :
    Calls Tryd.prog 4 #[.agg cs, .string (str k0), .string (str t0)] w fun e w' => e = .returned (.bool true) ∧ Below w.heap.size w w' := by
  have TAB := Lib.hid tab
  have z0 := zeroS_run
  have z1 := zS_ne
  have hs0 := infoS h.size
  obtain ⟨sF, hsF0⟩ : ∃ x, x = fewS s := ⟨_, rfl⟩
  have szF : SzT sF.lv := by rw [hsF0]; exact fewT_sz s.lv
  have wfF : WfT sF.lv := by rw [hsF0]; exact fewT_wf hwf
  have lenF : ∀ b, b < 16 → (sF.lv b).length ≤ 100 := by rw [hsF0]; exact fewT_len s.lv
  have q3 := heap_alloc_new w (.cells cs 28)
  have bel := (Below.refl w.heap.size w).alloc (Nat.le_refl _) (.cells cs 28)
  have FW0 := few13_any cs s _ (h.below bel (Nat.le_refl _)) hsz
  unfold FewSP at FW0
  rw [← hsF0] at FW0
  have FW := Lib.hid FW0
  have hsz0 := h.size
  clear FW0
  obtain ⟨ks, hks⟩ : ∃ ks, ks = k0.take 60 := ⟨_, rfl⟩
  obtain ⟨ts, hts⟩ : ∃ ks, ks = t0.take 60 := ⟨_, rfl⟩
  have SK0 := fun W => short13_any k0 W hk0
  have ST0 := fun W => short13_any t0 W ht0
  have kk : ks.length ≤ maxLen := by rw [hks]; exact Nat.le_trans (List.length_take_le _ _) (by decide)
  have kt : ts.length ≤ maxLen := by rw [hts]; exact Nat.le_trans (List.length_take_le _ _) (by decide)
  rw [← hks] at SK0
  rw [← hts] at ST0
  have SK := Lib.hid SK0
  have ST := Lib.hid ST0
  have PK0 := refPattern_any ks kk
  have PT0 := refPattern_any ts kt
  have IK0 := refIs_any ks kk
  have VZ := valE_zero
  obtain ⟨X, hX⟩ : ∃ X, X = gTI sF.lv ks := ⟨_, rfl⟩
  clear h hsz hwf tab hsF0 SK0 ST0 hks hts hk0 ht0
  go_enter Tryd.func4, Tryd.ntmps4
  go_wp2_with ((with_reducible refine wpList_load_row (o := ⟨some 14, _, _, _, _, _⟩) rfl 28 (.tmp 3) rfl _ rfl _ cs (0, 0) _ q3 Tryd.underlying28 rfl hs0 ?_))
  refine FW.out.mono ?_
  rintro e v1 ⟨CF, rfl, own, g⟩
  have hl0 : w.heap.size + 1 = (w.alloc (.cells cs 28)).heap.size := by simp
  rw [← hl0] at own
  have q3 := (g.block _ (lt_of_block q3)).trans q3
  have bel := chain bel g
  have hszF := own.size
  have hsF := infoS own.size
  have hcF : cs.size = CF.size := by rw [own.size]; exact hsz0
  have hoF := own.one
  clear g hl0
  go_wp2_with fail
  refine (SK.out _).mono ?_
  rintro e v2 ⟨rfl, rfl⟩
  go_wp2_with fail
  refine (ST.out _).mono ?_
  rintro e v2 ⟨rfl, rfl⟩
  go_wp2_with (first | ((with_reducible refine wpList_store_row (o := ⟨none, _, _, _, _, _⟩) rfl 28 (.tmp 3) (.tmp 15) rfl _ CF rfl rfl _ cs q3 hsF hcF hoF ?_); (obtain ⟨WS, hWS⟩ : ∃ X, X = World.setRow v1 w.heap.size CF := ⟨_, rfl⟩); rw [← hWS]; (have q3 : WS.heap[w.heap.size]? = some (.cells CF 28 (0, 0)) := by rw [hWS]; exact setRow_heap _ _ _ CF _ _ q3); (have bel : Below w.heap.size w WS := by rw [hWS]; exact below_row bel (Nat.le_refl _) CF); (have own : OwnS (w.heap.size + 1) WS CF sF := by rw [hWS]; exact own.moved (fun k hk _ => by rw [setRow_other _ _ _ _ (by omega)])); clear hWS) | ((with_reducible refine wpList_load_row (o := ⟨some 21, _, _, _, _, _⟩) rfl 28 (.tmp 3) rfl _ rfl _ CF (0, 0) _ q3 Tryd.underlying28 rfl hsF ?_)))
  have RS := Lib.hid own.rd
  have BW := Lib.hid bel
  have TS0 := Lib.hid (TAB.out.below bel)
  have hS := Below.refl WS.heap.size WS
  have GE0 := fun W (g : Below WS.heap.size WS W) => get13_any CF sF ks W (TS0.out.below g) (RS.out.below g (Nat.le_refl _)) szF wfF lenF kk
  have SC0 := fun W (g : Below WS.heap.size WS W) => scan13_any CF sF ks ts 5 W (TS0.out.below g) (RS.out.below g (Nat.le_refl _)) szF wfF lenF kk kt
  unfold ScanZ at SC0
  have RY0 := fun W (g : Below WS.heap.size WS W) => refMay13_any CF sF W (TS0.out.below g) (RS.out.below g (Nat.le_refl _)) szF wfF lenF
  have RG0 := fun (hm : mayS sF = true) W (g : Below WS.heap.size WS W) => refGet10_any (tC CF) sF.lv sF.vs ks W (RS.out.tr.below g (Nat.le_refl _)) (mayS_t hm)
  have AW := Lib.hid (fun W (g : Below WS.heap.size WS W) => awake13_any W (TS0.out.below g))
  clear bel own hcF FW
  cases hm : mayS sF with
  | false =>
    rw [hm] at RY0
    have hE : getE sF ks = 1 := by unfold getE; rw [if_pos hm]
    have hI : getI sF ks = zI := by unfold getI; rw [if_neg (by rw [hE]; decide)]
    have hsE : scE sF ks ts = 1 := by unfold scE; rw [if_neg (by rw [hm]; decide)]
    have hsS : scS sF ks ts 5 = [] := by unfold scS; rw [if_neg (by rw [hm]; decide)]
    clear RG0
    have GE := Lib.hid (fun W (g : Below WS.heap.size WS W) => show Calls Tryd.prog 25 #[.agg CF, .string (str ks)] W fun e w' => e = .returned (.tuple #[.agg #[.int .i64 0, .int .i64 0, .string (str [])], .int .i64 0, .int .i64 1]) ∧ Below W.heap.size W w' by
      have := GE0 W g
      unfold GetZ at this
      rw [hE, hI] at this
      exact this)
    have SC := Lib.hid (fun W (g : Below WS.heap.size WS W) => show Calls Tryd.prog 26 #[.agg CF, .string (str ks), .string (str ts), .int .i64 5] W fun e w' => ∃ a c, e = .returned (.tuple #[.slice a 0 c, .int .i64 1]) ∧ Below W.heap.size W w' by
      refine (SC0 W g).mono ?_
      rintro e w' ⟨v, rfl, own, g'⟩
      rw [hsE, hsS] at *
      obtain ⟨a, c, rfl⟩ := own_slice_n own
      exact ⟨a, c, rfl, g'⟩)
    have RY := Lib.hid RY0
    clear GE0 SC0 RY0 hE hI hsE hsS
    refine (GE.out _ hS).mono ?_
    rintro e x1 ⟨rfl, g⟩
    have q3 := (g.block _ (lt_of_block q3)).trans q3
    have hS := chain hS g
    clear g
    have q7 := heap_alloc_new x1 (.cells #[.int .i64 0, .int .i64 0, .string (str [])] 43)
    have gA := (Below.refl x1.heap.size x1).alloc (Nat.le_refl _) (.cells #[.int .i64 0, .int .i64 0, .string (str [])] 43)
    have q3 := (gA.block _ (lt_of_block q3)).trans q3
    have hS := chain hS gA
    clear gA
    go_wp2_with ((with_reducible refine wpList_load_row (o := ⟨some 28, _, _, _, _, _⟩) rfl 28 (.tmp 3) rfl _ rfl _ CF (0, 0) _ q3 Tryd.underlying28 rfl hsF ?_))
    obtain ⟨x2, hx2⟩ : ∃ W, W = World.alloc x1 (.cells #[.int .i64 0, .int .i64 0, .string (str [])] 43) := ⟨_, rfl⟩
    rw [← hx2] at q7 q3 hS ⊢
    clear hx2
    refine (SC.out _ hS).mono ?_
    rintro e x3 ⟨a9, c9, rfl, g⟩
    have q3 := (g.block _ (lt_of_block q3)).trans q3
    have q7 := (g.block _ (lt_of_block q7)).trans q7
    have hS := chain hS g
    clear g
    go_wp2_with ((with_reducible refine wpList_load_row (o := ⟨some 34, _, _, _, _, _⟩) rfl 28 (.tmp 3) rfl _ rfl _ CF (0, 0) _ q3 Tryd.underlying28 rfl hsF ?_))
    refine (RY.out _ hS).mono ?_
    rintro e x4 ⟨rfl, g⟩
    have q3 := (g.block _ (lt_of_block q3)).trans q3
    have q7 := (g.block _ (lt_of_block q7)).trans q7
    have hS := chain hS g
    clear g
    go_wp2_with ((with_reducible refine wpList_load_row (o := ⟨some 37, _, _, _, _, _⟩) rfl 43 (.tmp 7) rfl _ rfl _ #[.int .i64 0, .int .i64 0, .string (str [])] (0, 0) _ q7 Tryd.underlying43 rfl (infoV _ _ _) ?_))
    refine (AW.out _ hS).mono ?_
    rintro e x5 ⟨rfl, g⟩
    have hS := chain hS g
    clear g
    go_wp2_with fail
    go_ret
    exact ⟨rfl, chain BW.out hS⟩
  | true =>
    rw [hm] at RY0
    cases hik : isB ks with
    | false =>
      rw [hik] at IK0
      have IK := Lib.hid (fun W t => IK0.at W t)
      have hE : getE sF ks = 3 := by unfold getE; rw [if_neg (by rw [hm]; decide), if_pos hik]
      have hI : getI sF ks = zI := by unfold getI; rw [if_neg (by rw [hE]; decide)]
      cases hpk : patB ks with
      | false =>
        have PK := Lib.hid (fun W t => (PK0.ret.at W t))
        rw [hpk] at PK
        have hsE : scE sF ks ts = 3 := by unfold scE; rw [if_pos hm]; exact ck_form (mayS_t hm) (by simp [hpk])
        have hsS : scS sF ks ts 5 = [] := by unfold scS scL; rw [if_pos hm, ck_form (mayS_t hm) (by simp [hpk]), if_neg (by decide)]
        have GE := Lib.hid (fun W (g : Below WS.heap.size WS W) => show Calls Tryd.prog 25 #[.agg CF, .string (str ks)] W fun e w' => e = .returned (.tuple #[.agg #[.int .i64 0, .int .i64 0, .string (str [])], .int .i64 0, .int .i64 3]) ∧ Below W.heap.size W w' by
          have := GE0 W g
          unfold GetZ at this
          rw [hE, hI] at this
          exact this)
        have SC := Lib.hid (fun W (g : Below WS.heap.size WS W) => show Calls Tryd.prog 26 #[.agg CF, .string (str ks), .string (str ts), .int .i64 5] W fun e w' => ∃ a c, e = .returned (.tuple #[.slice a 0 c, .int .i64 3]) ∧ Below W.heap.size W w' by
          refine (SC0 W g).mono ?_
          rintro e w' ⟨v, rfl, own, g'⟩
          rw [hsE, hsS] at *
          obtain ⟨a, c, rfl⟩ := own_slice_n own
          exact ⟨a, c, rfl, g'⟩)
        have RY := Lib.hid RY0
        clear GE0 SC0 RY0 hE hI hsE hsS
        refine (GE.out _ hS).mono ?_
        rintro e x1 ⟨rfl, g⟩
        have q3 := (g.block _ (lt_of_block q3)).trans q3
        have hS := chain hS g
        clear g
        have q7 := heap_alloc_new x1 (.cells #[.int .i64 0, .int .i64 0, .string (str [])] 43)
        have gA := (Below.refl x1.heap.size x1).alloc (Nat.le_refl _) (.cells #[.int .i64 0, .int .i64 0, .string (str [])] 43)
        have q3 := (gA.block _ (lt_of_block q3)).trans q3
        have hS := chain hS gA
        clear gA
        go_wp2_with ((with_reducible refine wpList_load_row (o := ⟨some 28, _, _, _, _, _⟩) rfl 28 (.tmp 3) rfl _ rfl _ CF (0, 0) _ q3 Tryd.underlying28 rfl hsF ?_))
        obtain ⟨x2, hx2⟩ : ∃ W, W = World.alloc x1 (.cells #[.int .i64 0, .int .i64 0, .string (str [])] 43) := ⟨_, rfl⟩
        rw [← hx2] at q7 q3 hS ⊢
        clear hx2
        refine (SC.out _ hS).mono ?_
        rintro e x3 ⟨a9, c9, rfl, g⟩
        have q3 := (g.block _ (lt_of_block q3)).trans q3
        have q7 := (g.block _ (lt_of_block q7)).trans q7
        have hS := chain hS g
        clear g
        go_wp2_with ((with_reducible refine wpList_load_row (o := ⟨some 34, _, _, _, _, _⟩) rfl 28 (.tmp 3) rfl _ rfl _ CF (0, 0) _ q3 Tryd.underlying28 rfl hsF ?_))
        refine (RY.out _ hS).mono ?_
        rintro e x4 ⟨rfl, g⟩
        have q3 := (g.block _ (lt_of_block q3)).trans q3
        have q7 := (g.block _ (lt_of_block q7)).trans q7
        have hS := chain hS g
        clear g
        go_wp2_with fail
        refine (PK.out _ (TS0.out.below hS)).mono ?_
        rintro e x5 ⟨rfl, g⟩
        have q3 := (g.block _ (lt_of_block q3)).trans q3
        have q7 := (g.block _ (lt_of_block q7)).trans q7
        have hS := chain hS g
        clear g
        go_wp2_with fail
        refine (IK.out _ (TS0.out.below hS)).mono ?_
        rintro e y1 ⟨rfl, g⟩
        have q3 := (g.block _ (lt_of_block q3)).trans q3
        have q7 := (g.block _ (lt_of_block q7)).trans q7
        have hS := chain hS g
        clear g
        go_wp2_with ((with_reducible refine wpList_load_row (o := ⟨some 91, _, _, _, _, _⟩) rfl 43 (.tmp 7) rfl _ rfl _ #[.int .i64 0, .int .i64 0, .string (str [])] (0, 0) _ q7 Tryd.underlying43 rfl (infoV _ _ _) ?_))
        refine (AW.out _ hS).mono ?_
        rintro e y2 ⟨rfl, g⟩
        have hS := chain hS g
        clear g
        go_wp2_with fail
        go_ret
        exact ⟨rfl, chain BW.out hS⟩
      | true =>
        have PK := Lib.hid (fun W t => (PK0.ret.at W t))
        rw [hpk] at PK
        cases hpt : patB ts with
        | false =>
          have PT := Lib.hid (fun W t => (PT0.ret.at W t))
          rw [hpt] at PT
          have hsE : scE sF ks ts = 3 := by unfold scE; rw [if_pos hm]; exact ck_form (mayS_t hm) (by simp [hpt])
          have hsS : scS sF ks ts 5 = [] := by unfold scS scL; rw [if_pos hm, ck_form (mayS_t hm) (by simp [hpt]), if_neg (by decide)]
          have GE := Lib.hid (fun W (g : Below WS.heap.size WS W) => show Calls Tryd.prog 25 #[.agg CF, .string (str ks)] W fun e w' => e = .returned (.tuple #[.agg #[.int .i64 0, .int .i64 0, .string (str [])], .int .i64 0, .int .i64 3]) ∧ Below W.heap.size W w' by
            have := GE0 W g
            unfold GetZ at this
            rw [hE, hI] at this
            exact this)
          have SC := Lib.hid (fun W (g : Below WS.heap.size WS W) => show Calls Tryd.prog 26 #[.agg CF, .string (str ks), .string (str ts), .int .i64 5] W fun e w' => ∃ a c, e = .returned (.tuple #[.slice a 0 c, .int .i64 3]) ∧ Below W.heap.size W w' by
            refine (SC0 W g).mono ?_
            rintro e w' ⟨v, rfl, own, g'⟩
            rw [hsE, hsS] at *
            obtain ⟨a, c, rfl⟩ := own_slice_n own
            exact ⟨a, c, rfl, g'⟩)
          have RY := Lib.hid RY0
          clear GE0 SC0 RY0 hE hI hsE hsS
          refine (GE.out _ hS).mono ?_
          rintro e x1 ⟨rfl, g⟩
          have q3 := (g.block _ (lt_of_block q3)).trans q3
          have hS := chain hS g
          clear g
          have q7 := heap_alloc_new x1 (.cells #[.int .i64 0, .int .i64 0, .string (str [])] 43)
          have gA := (Below.refl x1.heap.size x1).alloc (Nat.le_refl _) (.cells #[.int .i64 0, .int .i64 0, .string (str [])] 43)
          have q3 := (gA.block _ (lt_of_block q3)).trans q3
          have hS := chain hS gA
          clear gA
          go_wp2_with ((with_reducible refine wpList_load_row (o := ⟨some 28, _, _, _, _, _⟩) rfl 28 (.tmp 3) rfl _ rfl _ CF (0, 0) _ q3 Tryd.underlying28 rfl hsF ?_))
          obtain ⟨x2, hx2⟩ : ∃ W, W = World.alloc x1 (.cells #[.int .i64 0, .int .i64 0, .string (str [])] 43) := ⟨_, rfl⟩
          rw [← hx2] at q7 q3 hS ⊢
          clear hx2
          refine (SC.out _ hS).mono ?_
          rintro e x3 ⟨a9, c9, rfl, g⟩
          have q3 := (g.block _ (lt_of_block q3)).trans q3
          have q7 := (g.block _ (lt_of_block q7)).trans q7
          have hS := chain hS g
          clear g
          go_wp2_with ((with_reducible refine wpList_load_row (o := ⟨some 34, _, _, _, _, _⟩) rfl 28 (.tmp 3) rfl _ rfl _ CF (0, 0) _ q3 Tryd.underlying28 rfl hsF ?_))
          refine (RY.out _ hS).mono ?_
          rintro e x4 ⟨rfl, g⟩
          have q3 := (g.block _ (lt_of_block q3)).trans q3
          have q7 := (g.block _ (lt_of_block q7)).trans q7
          have hS := chain hS g
          clear g
          go_wp2_with fail
          refine (PK.out _ (TS0.out.below hS)).mono ?_
          rintro e x5 ⟨rfl, g⟩
          have q3 := (g.block _ (lt_of_block q3)).trans q3
          have q7 := (g.block _ (lt_of_block q7)).trans q7
          have hS := chain hS g
          clear g
          go_wp2_with fail
          refine (PT.out _ (TS0.out.below hS)).mono ?_
          rintro e x6 ⟨rfl, g⟩
          have q3 := (g.block _ (lt_of_block q3)).trans q3
          have q7 := (g.block _ (lt_of_block q7)).trans q7
          have hS := chain hS g
          clear g
          go_wp2_with fail
          refine (IK.out _ (TS0.out.below hS)).mono ?_
          rintro e y1 ⟨rfl, g⟩
          have q3 := (g.block _ (lt_of_block q3)).trans q3
          have q7 := (g.block _ (lt_of_block q7)).trans q7
          have hS := chain hS g
          clear g
          go_wp2_with ((with_reducible refine wpList_load_row (o := ⟨some 91, _, _, _, _, _⟩) rfl 43 (.tmp 7) rfl _ rfl _ #[.int .i64 0, .int .i64 0, .string (str [])] (0, 0) _ q7 Tryd.underlying43 rfl (infoV _ _ _) ?_))
          refine (AW.out _ hS).mono ?_
          rintro e y2 ⟨rfl, g⟩
          have hS := chain hS g
          clear g
          go_wp2_with fail
          go_ret
          exact ⟨rfl, chain BW.out hS⟩
        | true =>
          have PT := Lib.hid (fun W t => (PT0.ret.at W t))
          rw [hpt] at PT
          have hsE : scE sF ks ts = 0 := by unfold scE; rw [if_pos hm]; exact ck_ok (mayS_t hm) (by simp [hpk, hpt])
          have hsS : scS sF ks ts 5 = (rngL sF.lv ks ts).take 5 := by unfold scS scL; rw [if_pos hm, ck_ok (mayS_t hm) (by simp [hpk, hpt]), if_pos rfl]; rfl
          have GE := Lib.hid (fun W (g : Below WS.heap.size WS W) => show Calls Tryd.prog 25 #[.agg CF, .string (str ks)] W fun e w' => e = .returned (.tuple #[.agg #[.int .i64 0, .int .i64 0, .string (str [])], .int .i64 0, .int .i64 3]) ∧ Below W.heap.size W w' by
            have := GE0 W g
            unfold GetZ at this
            rw [hE, hI] at this
            exact this)
          obtain ⟨R5, hR5⟩ : ∃ R, R = (rngL sF.lv ks ts).take 5 := ⟨_, rfl⟩
          have WH0 := fun W (g : Below WS.heap.size WS W) => whole_any (tC CF) sF.lv sF.vs ks ts W (TS0.out.below g) (RS.out.tr.below g (Nat.le_refl _)) szF lenF (mayS_t hm) hpk hpt kk kt
          have l3 : (rngL sF.lv ks ts).length ≤ 3000 := Nat.le_trans (rng_len (mayS_t hm) ks ts) (by decide)
          obtain ⟨RR, hRR⟩ : ∃ R, R = rngL sF.lv ks ts := ⟨_, rfl⟩
          rw [← hRR] at WH0 l3 hR5
          have HR5 := Lib.hid hR5
          have l5 : R5.length ≤ 5 := by rw [hR5]; exact List.length_take_le _ _
          have SC := Lib.hid (fun W (g : Below WS.heap.size WS W) => show Calls Tryd.prog 26 #[.agg CF, .string (str ks), .string (str ts), .int .i64 5] W fun e w' => ∃ v, e = .returned (.tuple #[v, .int .i64 0]) ∧ w'.ownsRow W.heap.size 53 5 v R5.length (R5.flatMap itC) ∧ Below W.heap.size W w' by
            refine (SC0 W g).mono ?_
            rintro e w' ⟨v, rfl, own, g'⟩
            rw [hsE, hsS, ← hRR, ← hR5] at *
            exact ⟨v, rfl, own, g'⟩)
          have WH := Lib.hid WH0
          have L3 := Lib.hid l3
          have L5 := Lib.hid l5
          clear WH0 l3 l5 hRR hR5
          have RY := Lib.hid RY0
          clear GE0 SC0 RY0 hE hI hsE hsS
          refine (GE.out _ hS).mono ?_
          rintro e x1 ⟨rfl, g⟩
          have q3 := (g.block _ (lt_of_block q3)).trans q3
          have hS := chain hS g
          clear g
          have q7 := heap_alloc_new x1 (.cells #[.int .i64 0, .int .i64 0, .string (str [])] 43)
          have gA := (Below.refl x1.heap.size x1).alloc (Nat.le_refl _) (.cells #[.int .i64 0, .int .i64 0, .string (str [])] 43)
          have q3 := (gA.block _ (lt_of_block q3)).trans q3
          have hS := chain hS gA
          clear gA
          go_wp2_with ((with_reducible refine wpList_load_row (o := ⟨some 28, _, _, _, _, _⟩) rfl 28 (.tmp 3) rfl _ rfl _ CF (0, 0) _ q3 Tryd.underlying28 rfl hsF ?_))
          obtain ⟨x2, hx2⟩ : ∃ W, W = World.alloc x1 (.cells #[.int .i64 0, .int .i64 0, .string (str [])] 43) := ⟨_, rfl⟩
          rw [← hx2] at q7 q3 hS ⊢
          clear hx2
          refine (SC.out _ hS).mono ?_
          rintro e x3 ⟨v9, rfl, own9, g⟩
          have q3 := (g.block _ (lt_of_block q3)).trans q3
          have q7 := (g.block _ (lt_of_block q7)).trans q7
          have hS := chain hS g
          clear g
          obtain ⟨al, cl, rfl⟩ := own_slice_n own9
          have RD9 := Lib.hid (OwnI.rd (w := x3) own9)
          have X3 := Below.refl x3.heap.size x3
          clear own9
          go_wp2_with ((with_reducible refine wpList_load_row (o := ⟨some 34, _, _, _, _, _⟩) rfl 28 (.tmp 3) rfl _ rfl _ CF (0, 0) _ q3 Tryd.underlying28 rfl hsF ?_))
          refine (RY.out _ hS).mono ?_
          rintro e x4 ⟨rfl, g⟩
          have q3 := (g.block _ (lt_of_block q3)).trans q3
          have q7 := (g.block _ (lt_of_block q7)).trans q7
          have hS := chain hS g
          have X3 := chain X3 g
          clear g
          go_wp2_with fail
          refine (PK.out _ (TS0.out.below hS)).mono ?_
          rintro e x5 ⟨rfl, g⟩
          have q3 := (g.block _ (lt_of_block q3)).trans q3
          have q7 := (g.block _ (lt_of_block q7)).trans q7
          have hS := chain hS g
          have X3 := chain X3 g
          clear g
          go_wp2_with fail
          refine (PT.out _ (TS0.out.below hS)).mono ?_
          rintro e x6 ⟨rfl, g⟩
          have q3 := (g.block _ (lt_of_block q3)).trans q3
          have q7 := (g.block _ (lt_of_block q7)).trans q7
          have hS := chain hS g
          have X3 := chain X3 g
          clear g
          go_wp2_with ((with_reducible refine wpList_load_part (o := ⟨some 77, _, _, _, _, _⟩) rfl 26 (.tmp 76) rfl _ 0 rfl (tC CF) _ (tC_range q3) Tryd.underlying26 rfl (tC_infoA hszF) ?_))
          refine (WH.out _ hS).mono ?_
          rintro e x7 ⟨vw, rfl, ownw, g⟩
          have q3 := (g.block _ (lt_of_block q3)).trans q3
          have q7 := (g.block _ (lt_of_block q7)).trans q7
          have hS := chain hS g
          have X3 := chain X3 g
          clear g
          obtain ⟨aw, cw, rfl⟩ := own_slice_n ownw
          have HD := Lib.hid (head_any _ RR 5 x7 (OwnI.rd (w := x7) ownw) L3.out)
          clear ownw
          go_wp2_with fail
          refine HD.out.mono ?_
          rintro e x8 ⟨⟨u8, rfl, RU⟩, rfl⟩
          obtain ⟨ah, ch, rfl, RU2⟩ : ∃ a c, u8 = .slice a R5.length c ∧ RdI x7 u8 R5 := by
            rw [show (5 : Int).toNat = 5 from rfl, ← HR5.out] at RU
            have RU9 := RU
            obtain ⟨a, c, e, _⟩ := RU9
            exact ⟨a, c, e, RU⟩
          have SM := Lib.hid (show Calls Tryd.prog 28 #[.slice al R5.length cl, .slice ah R5.length ch] x7 fun e w' => e = .returned (.bool true) ∧ Below x7.heap.size x7 w' by
            refine (refSameG_any _ _ R5 R5 x7 (RD9.out.below X3 (Nat.le_refl _)) RU2 (by have := L5.out; omega) (by have := L5.out; omega)).mono ?_
            rintro e w' ⟨rfl, n, hn⟩
            rw [lsEq_refl]
            exact ⟨rfl, by rw [hn]; exact below_drewN (Below.refl _ _)⟩)
          clear RU2 HD RD9
          go_wp2_with fail
          refine (SM.out).mono ?_
          rintro e x9 ⟨rfl, g⟩
          have q3 := (g.block _ (lt_of_block q3)).trans q3
          have q7 := (g.block _ (lt_of_block q7)).trans q7
          have hS := chain hS g
          clear g
          clear X3
          go_wp2_with fail
          refine (IK.out _ (TS0.out.below hS)).mono ?_
          rintro e y1 ⟨rfl, g⟩
          have q3 := (g.block _ (lt_of_block q3)).trans q3
          have q7 := (g.block _ (lt_of_block q7)).trans q7
          have hS := chain hS g
          clear g
          go_wp2_with ((with_reducible refine wpList_load_row (o := ⟨some 91, _, _, _, _, _⟩) rfl 43 (.tmp 7) rfl _ rfl _ #[.int .i64 0, .int .i64 0, .string (str [])] (0, 0) _ q7 Tryd.underlying43 rfl (infoV _ _ _) ?_))
          refine (AW.out _ hS).mono ?_
          rintro e y2 ⟨rfl, g⟩
          have hS := chain hS g
          clear g
          go_wp2_with fail
          go_ret
          exact ⟨rfl, chain BW.out hS⟩
    | true =>
      rw [hik] at IK0
      have IK := Lib.hid (fun W t => IK0.at W t)
      cases hgb : gTB sF.lv ks with
      | false =>
        have hE : getE sF ks = 6 := by unfold getE; rw [if_neg (by rw [hm]; decide), if_neg (by rw [hik]; decide), if_pos hgb]
        have hI : getI sF ks = zI := by unfold getI; rw [if_neg (by rw [hE]; decide)]
        have RG1 := RG0 hm
        rw [← hX, hgb] at RG1
        unfold itV at RG1
        have RG := Lib.hid RG1
        clear RG1 hX
        cases hpk : patB ks with
        | false =>
          exact absurd (isB_pat hik) (by rw [hpk]; decide)
        | true =>
          have PK := Lib.hid (fun W t => (PK0.ret.at W t))
          rw [hpk] at PK
          cases hpt : patB ts with
          | false =>
            have PT := Lib.hid (fun W t => (PT0.ret.at W t))
            rw [hpt] at PT
            have hsE : scE sF ks ts = 3 := by unfold scE; rw [if_pos hm]; exact ck_form (mayS_t hm) (by simp [hpt])
            have hsS : scS sF ks ts 5 = [] := by unfold scS scL; rw [if_pos hm, ck_form (mayS_t hm) (by simp [hpt]), if_neg (by decide)]
            have GE := Lib.hid (fun W (g : Below WS.heap.size WS W) => show Calls Tryd.prog 25 #[.agg CF, .string (str ks)] W fun e w' => e = .returned (.tuple #[.agg #[.int .i64 0, .int .i64 0, .string (str [])], .int .i64 0, .int .i64 6]) ∧ Below W.heap.size W w' by
              have := GE0 W g
              unfold GetZ at this
              rw [hE, hI] at this
              exact this)
            have SC := Lib.hid (fun W (g : Below WS.heap.size WS W) => show Calls Tryd.prog 26 #[.agg CF, .string (str ks), .string (str ts), .int .i64 5] W fun e w' => ∃ a c, e = .returned (.tuple #[.slice a 0 c, .int .i64 3]) ∧ Below W.heap.size W w' by
              refine (SC0 W g).mono ?_
              rintro e w' ⟨v, rfl, own, g'⟩
              rw [hsE, hsS] at *
              obtain ⟨a, c, rfl⟩ := own_slice_n own
              exact ⟨a, c, rfl, g'⟩)
            have RY := Lib.hid RY0
            clear GE0 SC0 RY0 hE hI hsE hsS
            refine (GE.out _ hS).mono ?_
            rintro e x1 ⟨rfl, g⟩
            have q3 := (g.block _ (lt_of_block q3)).trans q3
            have hS := chain hS g
            clear g
            have q7 := heap_alloc_new x1 (.cells #[.int .i64 0, .int .i64 0, .string (str [])] 43)
            have gA := (Below.refl x1.heap.size x1).alloc (Nat.le_refl _) (.cells #[.int .i64 0, .int .i64 0, .string (str [])] 43)
            have q3 := (gA.block _ (lt_of_block q3)).trans q3
            have hS := chain hS gA
            clear gA
            go_wp2_with ((with_reducible refine wpList_load_row (o := ⟨some 28, _, _, _, _, _⟩) rfl 28 (.tmp 3) rfl _ rfl _ CF (0, 0) _ q3 Tryd.underlying28 rfl hsF ?_))
            obtain ⟨x2, hx2⟩ : ∃ W, W = World.alloc x1 (.cells #[.int .i64 0, .int .i64 0, .string (str [])] 43) := ⟨_, rfl⟩
            rw [← hx2] at q7 q3 hS ⊢
            clear hx2
            refine (SC.out _ hS).mono ?_
            rintro e x3 ⟨a9, c9, rfl, g⟩
            have q3 := (g.block _ (lt_of_block q3)).trans q3
            have q7 := (g.block _ (lt_of_block q7)).trans q7
            have hS := chain hS g
            clear g
            go_wp2_with ((with_reducible refine wpList_load_row (o := ⟨some 34, _, _, _, _, _⟩) rfl 28 (.tmp 3) rfl _ rfl _ CF (0, 0) _ q3 Tryd.underlying28 rfl hsF ?_))
            refine (RY.out _ hS).mono ?_
            rintro e x4 ⟨rfl, g⟩
            have q3 := (g.block _ (lt_of_block q3)).trans q3
            have q7 := (g.block _ (lt_of_block q7)).trans q7
            have hS := chain hS g
            clear g
            go_wp2_with fail
            refine (PK.out _ (TS0.out.below hS)).mono ?_
            rintro e x5 ⟨rfl, g⟩
            have q3 := (g.block _ (lt_of_block q3)).trans q3
            have q7 := (g.block _ (lt_of_block q7)).trans q7
            have hS := chain hS g
            clear g
            go_wp2_with fail
            refine (PT.out _ (TS0.out.below hS)).mono ?_
            rintro e x6 ⟨rfl, g⟩
            have q3 := (g.block _ (lt_of_block q3)).trans q3
            have q7 := (g.block _ (lt_of_block q7)).trans q7
            have hS := chain hS g
            clear g
            go_wp2_with fail
            refine (IK.out _ (TS0.out.below hS)).mono ?_
            rintro e y1 ⟨rfl, g⟩
            have q3 := (g.block _ (lt_of_block q3)).trans q3
            have q7 := (g.block _ (lt_of_block q7)).trans q7
            have hS := chain hS g
            clear g
            go_wp2_with ((with_reducible refine wpList_load_part (o := ⟨some 107, _, _, _, _, _⟩) rfl 26 (.tmp 106) rfl _ 0 rfl (tC CF) _ (tC_range q3) Tryd.underlying26 rfl (tC_infoA hszF) ?_))
            refine (RG.out _ hS).mono ?_
            rintro e y2 ⟨rfl, g⟩
            have q3 := (g.block _ (lt_of_block q3)).trans q3
            have q7 := (g.block _ (lt_of_block q7)).trans q7
            have hS := chain hS g
            clear g
            have q12 := heap_alloc_new y2 (.cells #[.string (str X.key), .int .i64 X.v.k, .int .i64 X.v.i, .string (str X.v.s), .int .i64 X.ver] 53)
            have gA := (Below.refl y2.heap.size y2).alloc (Nat.le_refl _) (.cells #[.string (str X.key), .int .i64 X.v.k, .int .i64 X.v.i, .string (str X.v.s), .int .i64 X.ver] 53)
            have q3 := (gA.block _ (lt_of_block q3)).trans q3
            have q7 := (gA.block _ (lt_of_block q7)).trans q7
            have hS := chain hS gA
            clear gA
            go_wp2_with ((with_reducible refine wpList_load_row (o := ⟨some 114, _, _, _, _, _⟩) rfl 43 (.tmp 7) rfl _ rfl _ #[.int .i64 0, .int .i64 0, .string (str [])] (0, 0) _ q7 Tryd.underlying43 rfl (infoV _ _ _) ?_))
            refine (AW.out _ hS).mono ?_
            rintro e y3 ⟨rfl, g⟩
            have hS := chain hS g
            clear g
            go_wp2_with fail
            go_ret
            exact ⟨rfl, chain BW.out hS⟩
          | true =>
            have PT := Lib.hid (fun W t => (PT0.ret.at W t))
            rw [hpt] at PT
            have hsE : scE sF ks ts = 0 := by unfold scE; rw [if_pos hm]; exact ck_ok (mayS_t hm) (by simp [hpk, hpt])
            have hsS : scS sF ks ts 5 = (rngL sF.lv ks ts).take 5 := by unfold scS scL; rw [if_pos hm, ck_ok (mayS_t hm) (by simp [hpk, hpt]), if_pos rfl]; rfl
            have GE := Lib.hid (fun W (g : Below WS.heap.size WS W) => show Calls Tryd.prog 25 #[.agg CF, .string (str ks)] W fun e w' => e = .returned (.tuple #[.agg #[.int .i64 0, .int .i64 0, .string (str [])], .int .i64 0, .int .i64 6]) ∧ Below W.heap.size W w' by
              have := GE0 W g
              unfold GetZ at this
              rw [hE, hI] at this
              exact this)
            obtain ⟨R5, hR5⟩ : ∃ R, R = (rngL sF.lv ks ts).take 5 := ⟨_, rfl⟩
            have WH0 := fun W (g : Below WS.heap.size WS W) => whole_any (tC CF) sF.lv sF.vs ks ts W (TS0.out.below g) (RS.out.tr.below g (Nat.le_refl _)) szF lenF (mayS_t hm) hpk hpt kk kt
            have l3 : (rngL sF.lv ks ts).length ≤ 3000 := Nat.le_trans (rng_len (mayS_t hm) ks ts) (by decide)
            obtain ⟨RR, hRR⟩ : ∃ R, R = rngL sF.lv ks ts := ⟨_, rfl⟩
            rw [← hRR] at WH0 l3 hR5
            have HR5 := Lib.hid hR5
            have l5 : R5.length ≤ 5 := by rw [hR5]; exact List.length_take_le _ _
            have SC := Lib.hid (fun W (g : Below WS.heap.size WS W) => show Calls Tryd.prog 26 #[.agg CF, .string (str ks), .string (str ts), .int .i64 5] W fun e w' => ∃ v, e = .returned (.tuple #[v, .int .i64 0]) ∧ w'.ownsRow W.heap.size 53 5 v R5.length (R5.flatMap itC) ∧ Below W.heap.size W w' by
              refine (SC0 W g).mono ?_
              rintro e w' ⟨v, rfl, own, g'⟩
              rw [hsE, hsS, ← hRR, ← hR5] at *
              exact ⟨v, rfl, own, g'⟩)
            have WH := Lib.hid WH0
            have L3 := Lib.hid l3
            have L5 := Lib.hid l5
            clear WH0 l3 l5 hRR hR5
            have RY := Lib.hid RY0
            clear GE0 SC0 RY0 hE hI hsE hsS
            refine (GE.out _ hS).mono ?_
            rintro e x1 ⟨rfl, g⟩
            have q3 := (g.block _ (lt_of_block q3)).trans q3
            have hS := chain hS g
            clear g
            have q7 := heap_alloc_new x1 (.cells #[.int .i64 0, .int .i64 0, .string (str [])] 43)
            have gA := (Below.refl x1.heap.size x1).alloc (Nat.le_refl _) (.cells #[.int .i64 0, .int .i64 0, .string (str [])] 43)
            have q3 := (gA.block _ (lt_of_block q3)).trans q3
            have hS := chain hS gA
            clear gA
            go_wp2_with ((with_reducible refine wpList_load_row (o := ⟨some 28, _, _, _, _, _⟩) rfl 28 (.tmp 3) rfl _ rfl _ CF (0, 0) _ q3 Tryd.underlying28 rfl hsF ?_))
            obtain ⟨x2, hx2⟩ : ∃ W, W = World.alloc x1 (.cells #[.int .i64 0, .int .i64 0, .string (str [])] 43) := ⟨_, rfl⟩
            rw [← hx2] at q7 q3 hS ⊢
            clear hx2
            refine (SC.out _ hS).mono ?_
            rintro e x3 ⟨v9, rfl, own9, g⟩
            have q3 := (g.block _ (lt_of_block q3)).trans q3
            have q7 := (g.block _ (lt_of_block q7)).trans q7
            have hS := chain hS g
            clear g
            obtain ⟨al, cl, rfl⟩ := own_slice_n own9
            have RD9 := Lib.hid (OwnI.rd (w := x3) own9)
            have X3 := Below.refl x3.heap.size x3
            clear own9
            go_wp2_with ((with_reducible refine wpList_load_row (o := ⟨some 34, _, _, _, _, _⟩) rfl 28 (.tmp 3) rfl _ rfl _ CF (0, 0) _ q3 Tryd.underlying28 rfl hsF ?_))
            refine (RY.out _ hS).mono ?_
            rintro e x4 ⟨rfl, g⟩
            have q3 := (g.block _ (lt_of_block q3)).trans q3
            have q7 := (g.block _ (lt_of_block q7)).trans q7
            have hS := chain hS g
            have X3 := chain X3 g
            clear g
            go_wp2_with fail
            refine (PK.out _ (TS0.out.below hS)).mono ?_
            rintro e x5 ⟨rfl, g⟩
            have q3 := (g.block _ (lt_of_block q3)).trans q3
            have q7 := (g.block _ (lt_of_block q7)).trans q7
            have hS := chain hS g
            have X3 := chain X3 g
            clear g
            go_wp2_with fail
            refine (PT.out _ (TS0.out.below hS)).mono ?_
            rintro e x6 ⟨rfl, g⟩
            have q3 := (g.block _ (lt_of_block q3)).trans q3
            have q7 := (g.block _ (lt_of_block q7)).trans q7
            have hS := chain hS g
            have X3 := chain X3 g
            clear g
            go_wp2_with ((with_reducible refine wpList_load_part (o := ⟨some 77, _, _, _, _, _⟩) rfl 26 (.tmp 76) rfl _ 0 rfl (tC CF) _ (tC_range q3) Tryd.underlying26 rfl (tC_infoA hszF) ?_))
            refine (WH.out _ hS).mono ?_
            rintro e x7 ⟨vw, rfl, ownw, g⟩
            have q3 := (g.block _ (lt_of_block q3)).trans q3
            have q7 := (g.block _ (lt_of_block q7)).trans q7
            have hS := chain hS g
            have X3 := chain X3 g
            clear g
            obtain ⟨aw, cw, rfl⟩ := own_slice_n ownw
            have HD := Lib.hid (head_any _ RR 5 x7 (OwnI.rd (w := x7) ownw) L3.out)
            clear ownw
            go_wp2_with fail
            refine HD.out.mono ?_
            rintro e x8 ⟨⟨u8, rfl, RU⟩, rfl⟩
            obtain ⟨ah, ch, rfl, RU2⟩ : ∃ a c, u8 = .slice a R5.length c ∧ RdI x7 u8 R5 := by
              rw [show (5 : Int).toNat = 5 from rfl, ← HR5.out] at RU
              have RU9 := RU
              obtain ⟨a, c, e, _⟩ := RU9
              exact ⟨a, c, e, RU⟩
            have SM := Lib.hid (show Calls Tryd.prog 28 #[.slice al R5.length cl, .slice ah R5.length ch] x7 fun e w' => e = .returned (.bool true) ∧ Below x7.heap.size x7 w' by
              refine (refSameG_any _ _ R5 R5 x7 (RD9.out.below X3 (Nat.le_refl _)) RU2 (by have := L5.out; omega) (by have := L5.out; omega)).mono ?_
              rintro e w' ⟨rfl, n, hn⟩
              rw [lsEq_refl]
              exact ⟨rfl, by rw [hn]; exact below_drewN (Below.refl _ _)⟩)
            clear RU2 HD RD9
            go_wp2_with fail
            refine (SM.out).mono ?_
            rintro e x9 ⟨rfl, g⟩
            have q3 := (g.block _ (lt_of_block q3)).trans q3
            have q7 := (g.block _ (lt_of_block q7)).trans q7
            have hS := chain hS g
            clear g
            clear X3
            go_wp2_with fail
            refine (IK.out _ (TS0.out.below hS)).mono ?_
            rintro e y1 ⟨rfl, g⟩
            have q3 := (g.block _ (lt_of_block q3)).trans q3
            have q7 := (g.block _ (lt_of_block q7)).trans q7
            have hS := chain hS g
            clear g
            go_wp2_with ((with_reducible refine wpList_load_part (o := ⟨some 107, _, _, _, _, _⟩) rfl 26 (.tmp 106) rfl _ 0 rfl (tC CF) _ (tC_range q3) Tryd.underlying26 rfl (tC_infoA hszF) ?_))
            refine (RG.out _ hS).mono ?_
            rintro e y2 ⟨rfl, g⟩
            have q3 := (g.block _ (lt_of_block q3)).trans q3
            have q7 := (g.block _ (lt_of_block q7)).trans q7
            have hS := chain hS g
            clear g
            have q12 := heap_alloc_new y2 (.cells #[.string (str X.key), .int .i64 X.v.k, .int .i64 X.v.i, .string (str X.v.s), .int .i64 X.ver] 53)
            have gA := (Below.refl y2.heap.size y2).alloc (Nat.le_refl _) (.cells #[.string (str X.key), .int .i64 X.v.k, .int .i64 X.v.i, .string (str X.v.s), .int .i64 X.ver] 53)
            have q3 := (gA.block _ (lt_of_block q3)).trans q3
            have q7 := (gA.block _ (lt_of_block q7)).trans q7
            have hS := chain hS gA
            clear gA
            go_wp2_with ((with_reducible refine wpList_load_row (o := ⟨some 114, _, _, _, _, _⟩) rfl 43 (.tmp 7) rfl _ rfl _ #[.int .i64 0, .int .i64 0, .string (str [])] (0, 0) _ q7 Tryd.underlying43 rfl (infoV _ _ _) ?_))
            refine (AW.out _ hS).mono ?_
            rintro e y3 ⟨rfl, g⟩
            have hS := chain hS g
            clear g
            go_wp2_with fail
            go_ret
            exact ⟨rfl, chain BW.out hS⟩
      | true =>
        have hE : getE sF ks = 0 := by unfold getE; rw [if_neg (by rw [hm]; decide), if_neg (by rw [hik]; decide), if_neg (by rw [hgb]; decide)]
        have hI : getI sF ks = X := by unfold getI; rw [if_pos hE, hX]
        have RG1 := RG0 hm
        rw [← hX, hgb] at RG1
        unfold itV at RG1
        have RG := Lib.hid RG1
        clear RG1 hX
        have VE := fun W => valE_eql X.v W
        cases hpk : patB ks with
        | false =>
          exact absurd (isB_pat hik) (by rw [hpk]; decide)
        | true =>
          have PK := Lib.hid (fun W t => (PK0.ret.at W t))
          rw [hpk] at PK
          cases hpt : patB ts with
          | false =>
            have PT := Lib.hid (fun W t => (PT0.ret.at W t))
            rw [hpt] at PT
            have hsE : scE sF ks ts = 3 := by unfold scE; rw [if_pos hm]; exact ck_form (mayS_t hm) (by simp [hpt])
            have hsS : scS sF ks ts 5 = [] := by unfold scS scL; rw [if_pos hm, ck_form (mayS_t hm) (by simp [hpt]), if_neg (by decide)]
            have GE := Lib.hid (fun W (g : Below WS.heap.size WS W) => show Calls Tryd.prog 25 #[.agg CF, .string (str ks)] W fun e w' => e = .returned (.tuple #[.agg #[.int .i64 X.v.k, .int .i64 X.v.i, .string (str X.v.s)], .int .i64 (X.ver), .int .i64 0]) ∧ Below W.heap.size W w' by
              have := GE0 W g
              unfold GetZ at this
              rw [hE, hI] at this
              exact this)
            have SC := Lib.hid (fun W (g : Below WS.heap.size WS W) => show Calls Tryd.prog 26 #[.agg CF, .string (str ks), .string (str ts), .int .i64 5] W fun e w' => ∃ a c, e = .returned (.tuple #[.slice a 0 c, .int .i64 3]) ∧ Below W.heap.size W w' by
              refine (SC0 W g).mono ?_
              rintro e w' ⟨v, rfl, own, g'⟩
              rw [hsE, hsS] at *
              obtain ⟨a, c, rfl⟩ := own_slice_n own
              exact ⟨a, c, rfl, g'⟩)
            have RY := Lib.hid RY0
            clear GE0 SC0 RY0 hE hI hsE hsS
            refine (GE.out _ hS).mono ?_
            rintro e x1 ⟨rfl, g⟩
            have q3 := (g.block _ (lt_of_block q3)).trans q3
            have hS := chain hS g
            clear g
            have q7 := heap_alloc_new x1 (.cells #[.int .i64 X.v.k, .int .i64 X.v.i, .string (str X.v.s)] 43)
            have gA := (Below.refl x1.heap.size x1).alloc (Nat.le_refl _) (.cells #[.int .i64 X.v.k, .int .i64 X.v.i, .string (str X.v.s)] 43)
            have q3 := (gA.block _ (lt_of_block q3)).trans q3
            have hS := chain hS gA
            clear gA
            go_wp2_with ((with_reducible refine wpList_load_row (o := ⟨some 28, _, _, _, _, _⟩) rfl 28 (.tmp 3) rfl _ rfl _ CF (0, 0) _ q3 Tryd.underlying28 rfl hsF ?_))
            obtain ⟨x2, hx2⟩ : ∃ W, W = World.alloc x1 (.cells #[.int .i64 X.v.k, .int .i64 X.v.i, .string (str X.v.s)] 43) := ⟨_, rfl⟩
            rw [← hx2] at q7 q3 hS ⊢
            clear hx2
            refine (SC.out _ hS).mono ?_
            rintro e x3 ⟨a9, c9, rfl, g⟩
            have q3 := (g.block _ (lt_of_block q3)).trans q3
            have q7 := (g.block _ (lt_of_block q7)).trans q7
            have hS := chain hS g
            clear g
            go_wp2_with ((with_reducible refine wpList_load_row (o := ⟨some 34, _, _, _, _, _⟩) rfl 28 (.tmp 3) rfl _ rfl _ CF (0, 0) _ q3 Tryd.underlying28 rfl hsF ?_))
            refine (RY.out _ hS).mono ?_
            rintro e x4 ⟨rfl, g⟩
            have q3 := (g.block _ (lt_of_block q3)).trans q3
            have q7 := (g.block _ (lt_of_block q7)).trans q7
            have hS := chain hS g
            clear g
            go_wp2_with fail
            refine (PK.out _ (TS0.out.below hS)).mono ?_
            rintro e x5 ⟨rfl, g⟩
            have q3 := (g.block _ (lt_of_block q3)).trans q3
            have q7 := (g.block _ (lt_of_block q7)).trans q7
            have hS := chain hS g
            clear g
            go_wp2_with fail
            refine (PT.out _ (TS0.out.below hS)).mono ?_
            rintro e x6 ⟨rfl, g⟩
            have q3 := (g.block _ (lt_of_block q3)).trans q3
            have q7 := (g.block _ (lt_of_block q7)).trans q7
            have hS := chain hS g
            clear g
            go_wp2_with fail
            refine (IK.out _ (TS0.out.below hS)).mono ?_
            rintro e y1 ⟨rfl, g⟩
            have q3 := (g.block _ (lt_of_block q3)).trans q3
            have q7 := (g.block _ (lt_of_block q7)).trans q7
            have hS := chain hS g
            clear g
            go_wp2_with ((with_reducible refine wpList_load_part (o := ⟨some 107, _, _, _, _, _⟩) rfl 26 (.tmp 106) rfl _ 0 rfl (tC CF) _ (tC_range q3) Tryd.underlying26 rfl (tC_infoA hszF) ?_))
            refine (RG.out _ hS).mono ?_
            rintro e y2 ⟨rfl, g⟩
            have q3 := (g.block _ (lt_of_block q3)).trans q3
            have q7 := (g.block _ (lt_of_block q7)).trans q7
            have hS := chain hS g
            clear g
            have q12 := heap_alloc_new y2 (.cells #[.string (str X.key), .int .i64 X.v.k, .int .i64 X.v.i, .string (str X.v.s), .int .i64 X.ver] 53)
            have gA := (Below.refl y2.heap.size y2).alloc (Nat.le_refl _) (.cells #[.string (str X.key), .int .i64 X.v.k, .int .i64 X.v.i, .string (str X.v.s), .int .i64 X.ver] 53)
            have q3 := (gA.block _ (lt_of_block q3)).trans q3
            have q7 := (gA.block _ (lt_of_block q7)).trans q7
            have hS := chain hS gA
            clear gA
            have k1 := block_cell q12 1
            have k2 := block_cell q12 2
            have k3 := block_cell q12 3
            have k4 := block_cell q12 4
            go_wp2_with ((with_reducible refine wpList_load_row (o := ⟨some 128, _, _, _, _, _⟩) rfl 43 (.tmp 7) rfl _ rfl _ #[.int .i64 X.v.k, .int .i64 X.v.i, .string (str X.v.s)] (0, 0) _ q7 Tryd.underlying43 rfl (infoV _ _ _) ?_))
            refine (AW.out _ hS).mono ?_
            rintro e y3 ⟨rfl, g⟩
            have hS := chain hS g
            clear g
            go_wp2_with fail
            go_ret
            exact ⟨rfl, chain BW.out hS⟩
          | true =>
            have PT := Lib.hid (fun W t => (PT0.ret.at W t))
            rw [hpt] at PT
            have hsE : scE sF ks ts = 0 := by unfold scE; rw [if_pos hm]; exact ck_ok (mayS_t hm) (by simp [hpk, hpt])
            have hsS : scS sF ks ts 5 = (rngL sF.lv ks ts).take 5 := by unfold scS scL; rw [if_pos hm, ck_ok (mayS_t hm) (by simp [hpk, hpt]), if_pos rfl]; rfl
            have GE := Lib.hid (fun W (g : Below WS.heap.size WS W) => show Calls Tryd.prog 25 #[.agg CF, .string (str ks)] W fun e w' => e = .returned (.tuple #[.agg #[.int .i64 X.v.k, .int .i64 X.v.i, .string (str X.v.s)], .int .i64 (X.ver), .int .i64 0]) ∧ Below W.heap.size W w' by
              have := GE0 W g
              unfold GetZ at this
              rw [hE, hI] at this
              exact this)
            obtain ⟨R5, hR5⟩ : ∃ R, R = (rngL sF.lv ks ts).take 5 := ⟨_, rfl⟩
            have WH0 := fun W (g : Below WS.heap.size WS W) => whole_any (tC CF) sF.lv sF.vs ks ts W (TS0.out.below g) (RS.out.tr.below g (Nat.le_refl _)) szF lenF (mayS_t hm) hpk hpt kk kt
            have l3 : (rngL sF.lv ks ts).length ≤ 3000 := Nat.le_trans (rng_len (mayS_t hm) ks ts) (by decide)
            obtain ⟨RR, hRR⟩ : ∃ R, R = rngL sF.lv ks ts := ⟨_, rfl⟩
            rw [← hRR] at WH0 l3 hR5
            have HR5 := Lib.hid hR5
            have l5 : R5.length ≤ 5 := by rw [hR5]; exact List.length_take_le _ _
            have SC := Lib.hid (fun W (g : Below WS.heap.size WS W) => show Calls Tryd.prog 26 #[.agg CF, .string (str ks), .string (str ts), .int .i64 5] W fun e w' => ∃ v, e = .returned (.tuple #[v, .int .i64 0]) ∧ w'.ownsRow W.heap.size 53 5 v R5.length (R5.flatMap itC) ∧ Below W.heap.size W w' by
              refine (SC0 W g).mono ?_
              rintro e w' ⟨v, rfl, own, g'⟩
              rw [hsE, hsS, ← hRR, ← hR5] at *
              exact ⟨v, rfl, own, g'⟩)
            have WH := Lib.hid WH0
            have L3 := Lib.hid l3
            have L5 := Lib.hid l5
            clear WH0 l3 l5 hRR hR5
            have RY := Lib.hid RY0
            clear GE0 SC0 RY0 hE hI hsE hsS
            refine (GE.out _ hS).mono ?_
            rintro e x1 ⟨rfl, g⟩
            have q3 := (g.block _ (lt_of_block q3)).trans q3
            have hS := chain hS g
            clear g
            have q7 := heap_alloc_new x1 (.cells #[.int .i64 X.v.k, .int .i64 X.v.i, .string (str X.v.s)] 43)
            have gA := (Below.refl x1.heap.size x1).alloc (Nat.le_refl _) (.cells #[.int .i64 X.v.k, .int .i64 X.v.i, .string (str X.v.s)] 43)
            have q3 := (gA.block _ (lt_of_block q3)).trans q3
            have hS := chain hS gA
            clear gA
            go_wp2_with ((with_reducible refine wpList_load_row (o := ⟨some 28, _, _, _, _, _⟩) rfl 28 (.tmp 3) rfl _ rfl _ CF (0, 0) _ q3 Tryd.underlying28 rfl hsF ?_))
            obtain ⟨x2, hx2⟩ : ∃ W, W = World.alloc x1 (.cells #[.int .i64 X.v.k, .int .i64 X.v.i, .string (str X.v.s)] 43) := ⟨_, rfl⟩
            rw [← hx2] at q7 q3 hS ⊢
            clear hx2
            refine (SC.out _ hS).mono ?_
            rintro e x3 ⟨v9, rfl, own9, g⟩
            have q3 := (g.block _ (lt_of_block q3)).trans q3
            have q7 := (g.block _ (lt_of_block q7)).trans q7
            have hS := chain hS g
            clear g
            obtain ⟨al, cl, rfl⟩ := own_slice_n own9
            have RD9 := Lib.hid (OwnI.rd (w := x3) own9)
            have X3 := Below.refl x3.heap.size x3
            clear own9
            go_wp2_with ((with_reducible refine wpList_load_row (o := ⟨some 34, _, _, _, _, _⟩) rfl 28 (.tmp 3) rfl _ rfl _ CF (0, 0) _ q3 Tryd.underlying28 rfl hsF ?_))
            refine (RY.out _ hS).mono ?_
            rintro e x4 ⟨rfl, g⟩
            have q3 := (g.block _ (lt_of_block q3)).trans q3
            have q7 := (g.block _ (lt_of_block q7)).trans q7
            have hS := chain hS g
            have X3 := chain X3 g
            clear g
            go_wp2_with fail
            refine (PK.out _ (TS0.out.below hS)).mono ?_
            rintro e x5 ⟨rfl, g⟩
            have q3 := (g.block _ (lt_of_block q3)).trans q3
            have q7 := (g.block _ (lt_of_block q7)).trans q7
            have hS := chain hS g
            have X3 := chain X3 g
            clear g
            go_wp2_with fail
            refine (PT.out _ (TS0.out.below hS)).mono ?_
            rintro e x6 ⟨rfl, g⟩
            have q3 := (g.block _ (lt_of_block q3)).trans q3
            have q7 := (g.block _ (lt_of_block q7)).trans q7
            have hS := chain hS g
            have X3 := chain X3 g
            clear g
            go_wp2_with ((with_reducible refine wpList_load_part (o := ⟨some 77, _, _, _, _, _⟩) rfl 26 (.tmp 76) rfl _ 0 rfl (tC CF) _ (tC_range q3) Tryd.underlying26 rfl (tC_infoA hszF) ?_))
            refine (WH.out _ hS).mono ?_
            rintro e x7 ⟨vw, rfl, ownw, g⟩
            have q3 := (g.block _ (lt_of_block q3)).trans q3
            have q7 := (g.block _ (lt_of_block q7)).trans q7
            have hS := chain hS g
            have X3 := chain X3 g
            clear g
            obtain ⟨aw, cw, rfl⟩ := own_slice_n ownw
            have HD := Lib.hid (head_any _ RR 5 x7 (OwnI.rd (w := x7) ownw) L3.out)
            clear ownw
            go_wp2_with fail
            refine HD.out.mono ?_
            rintro e x8 ⟨⟨u8, rfl, RU⟩, rfl⟩
            obtain ⟨ah, ch, rfl, RU2⟩ : ∃ a c, u8 = .slice a R5.length c ∧ RdI x7 u8 R5 := by
              rw [show (5 : Int).toNat = 5 from rfl, ← HR5.out] at RU
              have RU9 := RU
              obtain ⟨a, c, e, _⟩ := RU9
              exact ⟨a, c, e, RU⟩
            have SM := Lib.hid (show Calls Tryd.prog 28 #[.slice al R5.length cl, .slice ah R5.length ch] x7 fun e w' => e = .returned (.bool true) ∧ Below x7.heap.size x7 w' by
              refine (refSameG_any _ _ R5 R5 x7 (RD9.out.below X3 (Nat.le_refl _)) RU2 (by have := L5.out; omega) (by have := L5.out; omega)).mono ?_
              rintro e w' ⟨rfl, n, hn⟩
              rw [lsEq_refl]
              exact ⟨rfl, by rw [hn]; exact below_drewN (Below.refl _ _)⟩)
            clear RU2 HD RD9
            go_wp2_with fail
            refine (SM.out).mono ?_
            rintro e x9 ⟨rfl, g⟩
            have q3 := (g.block _ (lt_of_block q3)).trans q3
            have q7 := (g.block _ (lt_of_block q7)).trans q7
            have hS := chain hS g
            clear g
            clear X3
            go_wp2_with fail
            refine (IK.out _ (TS0.out.below hS)).mono ?_
            rintro e y1 ⟨rfl, g⟩
            have q3 := (g.block _ (lt_of_block q3)).trans q3
            have q7 := (g.block _ (lt_of_block q7)).trans q7
            have hS := chain hS g
            clear g
            go_wp2_with ((with_reducible refine wpList_load_part (o := ⟨some 107, _, _, _, _, _⟩) rfl 26 (.tmp 106) rfl _ 0 rfl (tC CF) _ (tC_range q3) Tryd.underlying26 rfl (tC_infoA hszF) ?_))
            refine (RG.out _ hS).mono ?_
            rintro e y2 ⟨rfl, g⟩
            have q3 := (g.block _ (lt_of_block q3)).trans q3
            have q7 := (g.block _ (lt_of_block q7)).trans q7
            have hS := chain hS g
            clear g
            have q12 := heap_alloc_new y2 (.cells #[.string (str X.key), .int .i64 X.v.k, .int .i64 X.v.i, .string (str X.v.s), .int .i64 X.ver] 53)
            have gA := (Below.refl y2.heap.size y2).alloc (Nat.le_refl _) (.cells #[.string (str X.key), .int .i64 X.v.k, .int .i64 X.v.i, .string (str X.v.s), .int .i64 X.ver] 53)
            have q3 := (gA.block _ (lt_of_block q3)).trans q3
            have q7 := (gA.block _ (lt_of_block q7)).trans q7
            have hS := chain hS gA
            clear gA
            have k1 := block_cell q12 1
            have k2 := block_cell q12 2
            have k3 := block_cell q12 3
            have k4 := block_cell q12 4
            go_wp2_with ((with_reducible refine wpList_load_row (o := ⟨some 128, _, _, _, _, _⟩) rfl 43 (.tmp 7) rfl _ rfl _ #[.int .i64 X.v.k, .int .i64 X.v.i, .string (str X.v.s)] (0, 0) _ q7 Tryd.underlying43 rfl (infoV _ _ _) ?_))
            refine (AW.out _ hS).mono ?_
            rintro e y3 ⟨rfl, g⟩
            have hS := chain hS g
            clear g
            go_wp2_with fail
            go_ret
            exact ⟨rfl, chain BW.out hS⟩
theorem storegets_row (cs : Array Value) (s : St) (k0 t0 : List UInt8) (w : World) (h : RdS w cs s) (hsz : SzT s.lv) (hwf : WfT s.lv) (hk0 : k0.length ≤ maxLen) (ht0 : t0.length ≤ maxLen) (tab : TabAt w) :
    Calls Tryd.prog 4 #[.agg cs, .string (str k0), .string (str t0)] w fun e w' => e = .returned (.bool true) ∧ Below w.heap.size w w' := storegets_any cs s k0 t0 w tab h hsz hwf hk0 ht0
end Go.Proofs.YtbdfcgffkonbiaaDoor
