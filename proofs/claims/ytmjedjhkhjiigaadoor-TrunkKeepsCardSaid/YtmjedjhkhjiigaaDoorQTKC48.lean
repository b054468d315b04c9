/- Trunks: the law TrunkKeeps. Written by wip/tools/gen10y.py. -/
import Derived.Test.YtmjedjhkhjiigaaDoorQTKC47
import Derived.Test.YtmjedjhkhjiigaaDoorQTKC36
import Derived.Test.YtmjedjhkhjiigaaDoorQTKC40
namespace Go.Proofs.YtmjedjhkhjiigaaDoor
open Go Go.RowKit
set_option linter.unusedVariables false
set_option linter.unusedSimpArgs false
set_option maxRecDepth 100000 in
set_option maxHeartbeats 8000000 in
theorem keeps_no (cs : Array Value) (lv : Nat → List It) (vs : Nat → Int) (vl : Value) (l : List It) (k : List UInt8) (w : World) (tab : TabAt w) (h : RdT w cs lv vs) (hsz : SzT lv) (hl : RdI w vl l) (hszl : SzI l) (hk : k.length ≤ maxLen)
    (hm : mayTs (fun b => fewL (lv b)) vs 16 = false) :
    Calls Tryd.prog 6 #[.agg cs, vl, .string (str k)] w fun e w' => e = .returned (.bool true) ∧ Below w.heap.size w w' := by
  have TAB := Lib.hid tab
  have hs0 := infoTc h.size
  have z0 := zeroT_run
  have z1 := zT_ne
  obtain ⟨ks, hks⟩ : ∃ ks, ks = k.take 60 := ⟨_, rfl⟩
  have SH := fun W => short10_any k W hk
  have kk : ks.length ≤ maxLen := by rw [hks]; exact Nat.le_trans (List.length_take_le _ _) (by decide)
  rw [← hks] at SH
  have SHH := Lib.hid SH
  obtain ⟨lF, hlF⟩ : ∃ lF, lF = fun b => fewL (lv b) := ⟨_, rfl⟩
  have szF : SzT lF := by rw [hlF]; exact fewT_sz lv
  obtain ⟨aL, cL, rfl, -, -, -⟩ := RdK.open hl
  obtain ⟨L, hL⟩ : ∃ L, L = fewL l := ⟨_, rfl⟩
  have szL : SzI L := by rw [hL]; exact fewL_sz l
  have q3 := heap_alloc_new w (.cells cs 26)
  have bel := (Below.refl w.heap.size w).alloc (Nat.le_refl _) (.cells cs 26)
  have FW0 := few10_any cs lv vs _ (h.below bel (Nat.le_refl _)) hsz
  unfold FewP at FW0
  rw [← hlF] at FW0 hm
  have FW := Lib.hid FW0
  have hsz0 := h.size
  have IT0 := fun W (g : Below w.heap.size w W) => items10_any (.slice aL l.length cL) l W (hl.below g (Nat.le_refl _)) hszl
  rw [← hL] at IT0
  have IT := Lib.hid IT0
  have HM := Lib.hid hm
  clear h hsz tab hl hszl hlF hL FW0 SH hks IT0 hm
  go_enter Tryd.func6, Tryd.ntmps6
  go_wp2_with ((with_reducible refine wpList_load_row (o := ⟨some 21, _, _, _, _, _⟩) rfl 26 (.tmp 3) rfl _ rfl _ cs (0, 0) _ q3 Tryd.underlying26 rfl hs0 ?_))
  refine FW.out.mono ?_
  rintro e v1 ⟨CF, rfl, own, g⟩
  have hl0 : w.heap.size + 1 = (w.alloc (.cells cs 26)).heap.size := by simp
  rw [← hl0] at own
  have q3 := (g.block _ (lt_of_block q3)).trans q3
  have bel := chain bel g
  clear g hl0
  go_wp2_with fail
  refine (SHH.out _).mono ?_
  rintro e w' ⟨rfl, rfl⟩
  have hsF := infoTc own.size
  have hcF : cs.size = CF.size := by rw [own.size]; exact hsz0
  have hoF := own.rd.one
  go_wp2_with ((with_reducible refine wpList_store_row (o := ⟨none, _, _, _, _, _⟩) rfl 26 (.tmp 3) (.tmp 22) rfl _ CF rfl rfl _ cs q3 hsF hcF hoF ?_); (obtain ⟨W1, hW1⟩ : ∃ W, W = World.setRow v1 w.heap.size CF := ⟨_, rfl⟩); rw [← hW1]; (have q3 : W1.heap[w.heap.size]? = some (.cells CF 26 (0, 0)) := by rw [hW1]; exact setRow_heap _ _ _ CF _ _ q3); (have bel : Below w.heap.size w W1 := by rw [hW1]; exact below_row bel (Nat.le_refl _) CF); (have own : OwnT (w.heap.size + 1) W1 CF lF vs := by rw [hW1]; exact own.moved (fun k hk _ => by rw [setRow_other _ _ _ _ (by omega)])); clear hW1)
  refine (IT.out _ bel).mono ?_
  rintro e WS ⟨vI, rfl, oI, g⟩
  have RI := OwnI.rd (w := w) oI
  obtain ⟨ai, ci, rfl, hc1, hc2, RI1⟩ := RdK.open RI
  have HI := Lib.hid (show RdI WS (.slice ai L.length ci) L from RI1)
  have q3 := (g.block _ (lt_of_block q3)).trans q3
  have bel := chain bel g
  have own := own.below g
  clear g RI RI1 oI
  have OW := Lib.hid own
  have HT := Lib.hid own.rd
  have Q3 := Lib.hid q3
  have BW := Lib.hid bel
  have TS0 := Lib.hid (TAB.out.below bel)
  have hS := Below.refl WS.heap.size WS
  clear q3 bel own hcF
  have MY0 := fun W (g : Below WS.heap.size WS W) => tmay_any CF lF vs W (TS0.out.below g) (HT.out.below g (Nat.le_refl _)) szF
  rw [HM.out] at MY0
  have MY := Lib.hid MY0
  have AW := Lib.hid (fun W (g : Below WS.heap.size WS W) => awake10_any W (TS0.out.below g))
  clear MY0
  have q3 := Q3.out
  go_wp2_with ((with_reducible refine wpList_load_row (o := ⟨some 27, _, _, _, _, _⟩) rfl 26 (.tmp 3) rfl _ rfl _ CF (0, 0) _ q3 Tryd.underlying26 rfl hsF ?_))
  refine (MY.out _ hS).mono ?_
  rintro e v2 ⟨rfl, g⟩
  have hS := chain hS g
  clear g q3
  go_wp2_with fail
  refine (AW.out _ hS).mono ?_
  rintro e vz ⟨rfl, g⟩
  have hS := chain hS g
  go_wp2_with fail
  go_ret
  exact ⟨rfl, chain BW.out hS⟩
set_option maxRecDepth 100000 in
set_option maxHeartbeats 8000000 in
theorem keeps_yes (cs : Array Value) (lv : Nat → List It) (vs : Nat → Int) (vl : Value) (l : List It) (k : List UInt8) (w : World) (tab : TabAt w) (h : RdT w cs lv vs) (hsz : SzT lv) (hl : RdI w vl l) (hszl : SzI l) (hk : k.length ≤ maxLen)
    (hm : mayTs (fun b => fewL (lv b)) vs 16 = true) :
    Calls Tryd.prog 6 #[.agg cs, vl, .string (str k)] w fun e w' => e = .returned (.bool true) ∧ Below w.heap.size w w' := by
  have TAB := Lib.hid tab
  have hs0 := infoTc h.size
  have z0 := zeroT_run
  have z1 := zT_ne
  obtain ⟨ks, hks⟩ : ∃ ks, ks = k.take 60 := ⟨_, rfl⟩
  have SH := fun W => short10_any k W hk
  have kk : ks.length ≤ maxLen := by rw [hks]; exact Nat.le_trans (List.length_take_le _ _) (by decide)
  rw [← hks] at SH
  have SHH := Lib.hid SH
  obtain ⟨lF, hlF⟩ : ∃ lF, lF = fun b => fewL (lv b) := ⟨_, rfl⟩
  have szF : SzT lF := by rw [hlF]; exact fewT_sz lv
  obtain ⟨aL, cL, rfl, -, -, -⟩ := RdK.open hl
  obtain ⟨L, hL⟩ : ∃ L, L = fewL l := ⟨_, rfl⟩
  have szL : SzI L := by rw [hL]; exact fewL_sz l
  have q3 := heap_alloc_new w (.cells cs 26)
  have bel := (Below.refl w.heap.size w).alloc (Nat.le_refl _) (.cells cs 26)
  have FW0 := few10_any cs lv vs _ (h.below bel (Nat.le_refl _)) hsz
  unfold FewP at FW0
  rw [← hlF] at FW0 hm
  have FW := Lib.hid FW0
  have hsz0 := h.size
  have IT0 := fun W (g : Below w.heap.size w W) => items10_any (.slice aL l.length cL) l W (hl.below g (Nat.le_refl _)) hszl
  rw [← hL] at IT0
  have IT := Lib.hid IT0
  have HM := Lib.hid hm
  clear h hsz tab hl hszl hlF hL FW0 SH hks IT0 hm
  go_enter Tryd.func6, Tryd.ntmps6
  go_wp2_with ((with_reducible refine wpList_load_row (o := ⟨some 21, _, _, _, _, _⟩) rfl 26 (.tmp 3) rfl _ rfl _ cs (0, 0) _ q3 Tryd.underlying26 rfl hs0 ?_))
  refine FW.out.mono ?_
  rintro e v1 ⟨CF, rfl, own, g⟩
  have hl0 : w.heap.size + 1 = (w.alloc (.cells cs 26)).heap.size := by simp
  rw [← hl0] at own
  have q3 := (g.block _ (lt_of_block q3)).trans q3
  have bel := chain bel g
  clear g hl0
  go_wp2_with fail
  refine (SHH.out _).mono ?_
  rintro e w' ⟨rfl, rfl⟩
  have hsF := infoTc own.size
  have hcF : cs.size = CF.size := by rw [own.size]; exact hsz0
  have hoF := own.rd.one
  go_wp2_with ((with_reducible refine wpList_store_row (o := ⟨none, _, _, _, _, _⟩) rfl 26 (.tmp 3) (.tmp 22) rfl _ CF rfl rfl _ cs q3 hsF hcF hoF ?_); (obtain ⟨W1, hW1⟩ : ∃ W, W = World.setRow v1 w.heap.size CF := ⟨_, rfl⟩); rw [← hW1]; (have q3 : W1.heap[w.heap.size]? = some (.cells CF 26 (0, 0)) := by rw [hW1]; exact setRow_heap _ _ _ CF _ _ q3); (have bel : Below w.heap.size w W1 := by rw [hW1]; exact below_row bel (Nat.le_refl _) CF); (have own : OwnT (w.heap.size + 1) W1 CF lF vs := by rw [hW1]; exact own.moved (fun k hk _ => by rw [setRow_other _ _ _ _ (by omega)])); clear hW1)
  refine (IT.out _ bel).mono ?_
  rintro e WS ⟨vI, rfl, oI, g⟩
  have RI := OwnI.rd (w := w) oI
  obtain ⟨ai, ci, rfl, hc1, hc2, RI1⟩ := RdK.open RI
  have HI := Lib.hid (show RdI WS (.slice ai L.length ci) L from RI1)
  have q3 := (g.block _ (lt_of_block q3)).trans q3
  have bel := chain bel g
  have own := own.below g
  clear g RI RI1 oI
  have OW := Lib.hid own
  have HT := Lib.hid own.rd
  have Q3 := Lib.hid q3
  have BW := Lib.hid bel
  have TS0 := Lib.hid (TAB.out.below bel)
  have hS := Below.refl WS.heap.size WS
  clear q3 bel own hcF
  have MY0 := fun W (g : Below WS.heap.size WS W) => tmay_any CF lF vs W (TS0.out.below g) (HT.out.below g (Nat.le_refl _)) szF
  rw [HM.out] at MY0
  have MY := Lib.hid MY0
  have AW := Lib.hid (fun W (g : Below WS.heap.size WS W) => awake10_any W (TS0.out.below g))
  clear MY0
  have q3 := Q3.out
  go_wp2_with ((with_reducible refine wpList_load_row (o := ⟨some 27, _, _, _, _, _⟩) rfl 26 (.tmp 3) rfl _ rfl _ CF (0, 0) _ q3 Tryd.underlying26 rfl hsF ?_))
  refine (MY.out _ hS).mono ?_
  rintro e v2 ⟨rfl, g⟩
  have hS := chain hS g
  clear g q3
  obtain ⟨X, hX⟩ : ∃ X, X = gTI lF ks := ⟨_, rfl⟩
  obtain ⟨Y, hY⟩ : ∃ Y, Y = gTB lF ks := ⟨_, rfl⟩
  have GT0 := fun W (g : Below WS.heap.size WS W) => tget_any CF lF vs ks W (TS0.out.below g) (HT.out.below g (Nat.le_refl _)) szF kk
  rw [show tGet lF vs ks = .tuple #[itV X, .bool Y] by unfold tGet tI tB; rw [HM.out, hX, hY]; simp] at GT0
  unfold itV at GT0
  have GT := Lib.hid GT0
  have HX := Lib.hid hX
  have HY := Lib.hid hY
  clear GT0 hX hY
  have q3 := (hS.block _ (lt_of_block Q3.out)).trans Q3.out
  go_wp2_with ((with_reducible refine wpList_load_row (o := ⟨some 32, _, _, _, _, _⟩) rfl 26 (.tmp 3) rfl _ rfl _ CF (0, 0) _ q3 Tryd.underlying26 rfl hsF ?_))
  clear q3
  refine (GT.out _ hS).mono ?_
  rintro e v3 ⟨rfl, g⟩
  have hS := chain hS g
  clear g
  obtain ⟨-, qd, -, -⟩ := two_allocs v3 (.cells #[.string (str X.key), .int .i64 X.v.k, .int .i64 X.v.i, .string (str X.v.s), .int .i64 X.ver] 32 ) (.cells zT 26)
  obtain ⟨q7, -, -, -⟩ := two_allocs v3 (.cells #[.string (str X.key), .int .i64 X.v.k, .int .i64 X.v.i, .string (str X.v.s), .int .i64 X.ver] 32 ) (.cells zT 26)
  have b3 := ((Below.refl v3.heap.size v3).alloc (Nat.le_refl _) (.cells #[.string (str X.key), .int .i64 X.v.k, .int .i64 X.v.i, .string (str X.v.s), .int .i64 X.ver] 32 )).alloc (by simp) (.cells zT 26)
  have q3 := (hS.block _ (lt_of_block Q3.out)).trans Q3.out
  have q3 : (v3.alloc (.cells #[.string (str X.key), .int .i64 X.v.k, .int .i64 X.v.i, .string (str X.v.s), .int .i64 X.ver] 32 )).heap[w.heap.size]? = some (.cells CF 26 (0, 0)) := by rw [heap_alloc_old _ _ (lt_of_block q3)]; exact q3
  have hzF : zT.size = CF.size := by have h := HT.out.size; rw [h]; rfl
  go_wp2_with (first | ((with_reducible refine wpList_load_row (o := ⟨some 37, _, _, _, _, _⟩) rfl 26 (.tmp 3) rfl _ rfl _ CF (0, 0) _ q3 Tryd.underlying26 rfl hsF ?_)) | ((with_reducible refine wpList_store_row (o := ⟨none, _, _, _, _, _⟩) rfl 26 (.tmp 9) (.tmp 37) rfl _ CF rfl rfl _ zT qd hsF hzF hoF ?_); (obtain ⟨W8, hW8⟩ : ∃ W, W = World.setRow ((v3.alloc (.cells #[.string (str X.key), .int .i64 X.v.k, .int .i64 X.v.i, .string (str X.v.s), .int .i64 X.ver] 32 )).alloc (.cells zT 26)) (v3.heap.size + 1) CF := ⟨_, rfl⟩); rw [← hW8]; (have Q9 := Lib.hid (show W8.heap[v3.heap.size + 1]? = some (.cells CF 26 (0, 0)) by rw [hW8]; exact setRow_heap _ _ _ CF _ _ qd)); (have Q7 := Lib.hid (show W8.heap[v3.heap.size]? = some (.cells #[.string (str X.key), .int .i64 X.v.k, .int .i64 X.v.i, .string (str X.v.s), .int .i64 X.ver] 32  (0, 0)) by rw [hW8, setRow_other _ _ _ _ (by omega)]; exact q7)); (have b3 : Below v3.heap.size v3 W8 := by rw [hW8]; exact below_row b3 (by omega) CF); clear hW8))
  clear qd q7 q3
  have hWg : WS.heap.size ≤ v3.heap.size := hS.size
  have hS := chain hS b3
  clear b3
  obtain ⟨g7, hg7⟩ : ∃ g, g = v3.heap.size := ⟨_, rfl⟩
  rw [← hg7] at Q7 Q9 hWg ⊢
  clear hg7
  obtain ⟨g9, hg9⟩ : ∃ g, g = g7 + 1 := ⟨_, rfl⟩
  rw [← hg9] at Q9 ⊢
  have hg79 : g7 < g9 := by omega
  clear hg9
  have SF0 := Lib.hid ((OW.out.safe (g := g9) (.inr (by omega))).below hS)
  have BS := Lib.hid hS
  have VE := fun W => it_eq_same X W
  unfold itV at VE
  clear hS
  go_loopw [10] (fun i wr => ∃ (j : Nat) (CX : Array Value) (lx : Nat → List It) (vx : Nat → Int), j ≤ L.length ∧ i = .int .i64 (j : Int) ∧ Below g9 W8 wr ∧ Hid (wr.heap[g9]? = some (.cells CX 26 (0, 0))) ∧ Hid (SafeT g9 wr CX lx vx) ∧ SzT lx ∧ Hid (mayTs lx vx 16 = true)) (fun i _ => 200 - (intOf i).toNat)
  case atStart => exact ⟨0, CF, lF, vs, Nat.zero_le _, rfl, Below.refl _ _, Q9, SF0, szF, HM⟩
  case round =>
    obtain ⟨j, CX, lx, vx, hj, rfl, hB, Q9r, SX, szx, HMx⟩ := hrel
    have hS := BS.out.trans (hB.mono (by omega : WS.heap.size ≤ g9))
    by_cases hgo : j < L.length ∧ j < 12
    · have hlti : (j : Int) < (L.length : Int) := by omega
      have hlt2 : (j : Int) < 12 := by omega
      have d1 : decide ((j : Int) < 12) = true := decide_eq_true hlt2
      have d2 : decide (j < 12) = true := decide_eq_true hgo.2
      have q9 := Q9r.out
      have hsX := infoTc SX.out.rd.size
      skip
      obtain ⟨x, hx⟩ : ∃ x, x = L[j]'hgo.1 := ⟨_, rfl⟩
      obtain ⟨bI, off, rfl, hbI, c0, c1, c2, c3, c4⟩ := rdi_cells (HI.out.below hS (Nat.le_refl _)) j hgo.1
      rw [← hx] at c0 c1 c2 c3 c4
      have hxz := szL x (by rw [hx]; exact List.getElem_mem _)
      have CI := Lib.hid (show ∀ W, Below wr.heap.size wr W → W.cell? ⟨bI, off + j * 5, none⟩ = some (.string (str x.key)) ∧ W.cell? ⟨bI, off + j * 5 + 1, none⟩ = some (.int .i64 x.v.k) ∧ W.cell? ⟨bI, off + j * 5 + 2, none⟩ = some (.int .i64 x.v.i) ∧ W.cell? ⟨bI, off + j * 5 + 3, none⟩ = some (.string (str x.v.s)) ∧ W.cell? ⟨bI, off + j * 5 + 4, none⟩ = some (.int .i64 x.ver) from fun W g => ⟨(g.cell (p := ⟨bI, off + j * 5, none⟩) hbI).trans c0, (g.cell (p := ⟨bI, off + j * 5 + 1, none⟩) hbI).trans c1, (g.cell (p := ⟨bI, off + j * 5 + 2, none⟩) hbI).trans c2, (g.cell (p := ⟨bI, off + j * 5 + 3, none⟩) hbI).trans c3, (g.cell (p := ⟨bI, off + j * 5 + 4, none⟩) hbI).trans c4⟩)
      have TR := Lib.hid (TS0.out.below hS)
      obtain ⟨X1, hX1⟩ : ∃ X, X = gTI lx ks := ⟨_, rfl⟩
      obtain ⟨Y1, hY1⟩ : ∃ Y, Y = gTB lx ks := ⟨_, rfl⟩
      have GX0 := tget_any CX lx vx ks wr TR.out SX.out.rd szx kk
      rw [show tGet lx vx ks = .tuple #[itV X1, .bool Y1] by unfold tGet tI tB; rw [HMx.out, hX1, hY1]; simp] at GX0
      unfold itV at GX0
      have HX1 := Lib.hid hX1
      have HY1 := Lib.hid hY1
      have GX := Lib.hid GX0
      have hg9 : g9 < wr.heap.size := lt_of_block q9
      have hj1 : j + 1 ≤ L.length := hgo.1
      clear hX1 hY1 GX0 hx c0 c1 c2 c3 c4 hgo
      go_wp2_with ((with_reducible refine wpList_load_row (o := ⟨some 49, _, _, _, _, _⟩) rfl 26 (.tmp 9) rfl _ rfl _ CX (0, 0) _ q9 Tryd.underlying26 rfl hsX ?_))
      refine GX.out.mono ?_
      rintro e v5 ⟨rfl, g⟩
      have h9 := g
      clear g q9
      have q11 := heap_alloc_new v5 (.cells #[.string (str X1.key), .int .i64 X1.v.k, .int .i64 X1.v.i, .string (str X1.v.s), .int .i64 X1.ver] 32 )
      have h9 := h9.alloc h9.size (.cells #[.string (str X1.key), .int .i64 X1.v.k, .int .i64 X1.v.i, .string (str X1.v.s), .int .i64 X1.ver] 32 )
      go_wp2_with fail
      obtain ⟨WU, hWU⟩ : ∃ W, W = v5.alloc (.cells #[.string (str X1.key), .int .i64 X1.v.k, .int .i64 X1.v.i, .string (str X1.v.s), .int .i64 X1.ver] 32 ) := ⟨_, rfl⟩
      rw [← hWU] at q11 h9 ⊢
      clear hWU
      have Q11 := Lib.hid q11
      have H9 := Lib.hid h9
      have Q9u := Lib.hid (show ∀ W, Below WU.heap.size WU W → W.heap[g9]? = some (.cells CX 26 (0, 0)) from fun W g => ((chain H9.out g).block _ hg9).trans Q9r.out)
      clear q11 h9
      have hR := Below.drew (Below.refl WU.heap.size WU)
      have hg9le := Nat.le_of_lt hg9
      by_cases hv3 : (x.ver.tmod 3 == 0) = true
      · obtain ⟨pe, hpe⟩ : ∃ n, n = putTE lx vx x := ⟨_, rfl⟩
        have PU : Hid (∀ W, Below wr.heap.size wr W → Calls Tryd.prog 23 #[.agg CX, .agg #[.string (str x.key), .int .i64 x.v.k, .int .i64 x.v.i, .string (str x.v.s), .int .i64 x.ver]] W fun e w' => ∃ CP, e = .returned (.tuple #[.agg CP, .int .i64 (pe : Int)]) ∧ CP.size = 32 ∧ CP.all (·.oneCell') = true ∧ Below W.heap.size W w') := Lib.hid (fun W g => by
          have h := (tput_any CX lx vx x W (TR.out.below g) (SX.out.rd.below g (Nat.le_refl _)) szx hxz.1 hxz.2).mono (fun e w' h => TrA.mk (cs := CX) (put_TrA SX.out.rd g h))
          unfold itV at h
          rw [← hpe] at h
          refine h.mono ?_
          rintro e w' ⟨cs, h1, h2, h3, _, h5⟩
          exact ⟨cs, h1, h2, h3, h5⟩)
        clear hpe
        have hv1 := verB_iff.1 (mayT_ver (mayTs_at HMx.out (b := 1) (by decide)))
        obtain ⟨V, hV⟩ : ∃ V, V = vx 1 := ⟨_, rfl⟩
        have h17 := SX.out.rd.ver 1 (by decide)
        rw [← hV] at hv1 h17
        have E1 := Lib.hid (show IntKind.i64.wrap (V + 1) = V + 1 by rw [IntKind.wrap_i64]; omega)
        have C17 := Lib.hid (show ∀ W, Below wr.heap.size wr W → W.cell? ⟨g9, 17, none⟩ = some (.int .i64 V) from fun W g => (block_cell ((g.block _ hg9).trans Q9r.out) 17).trans h17)
        clear hv1 h17
        by_cases hp : delTE lx vx x.key (V + 1) = 0
        · skip
          obtain ⟨kb, ll, vv, hCH, DE⟩ : ∃ (kb : Nat) (ll : List It) (vv : Int), Chg lx vx x.key kb ll vv ∧ Hid (∀ W, Below wr.heap.size wr W → Calls Tryd.prog 24 #[.agg CX, .string (str x.key), .int .i64 (V + 1)] W (TrO W CX kb ll vv)) := ⟨_, _, _, del_chg HMx.out szx hp, Lib.hid (fun W g => by
            have h := tdel_any CX lx vx x.key (V + 1) W (TR.out.below g) (SX.out.rd.below g (Nat.le_refl _)) szx hxz.1
            unfold DelP at h; rw [if_pos hp] at h; exact h)⟩
          clear hV
          have HUN := unl_le lx vx kb ll vv
          obtain ⟨ly, hly⟩ : ∃ f, f = upd lx kb ll := ⟨_, rfl⟩
          obtain ⟨vy, hvy⟩ : ∃ f, f = upd vx kb vv := ⟨_, rfl⟩
          rw [← hly, ← hvy] at HUN
          have CHm := Lib.hid (show mayTs ly vy 16 = true by rw [hly, hvy]; exact hCH.may)
          have CHs : SzT ly := by rw [hly]; exact hCH.sz
          have CHo := Lib.hid (show ∀ k, k ≠ x.key → gTI ly k = gTI lx k ∧ gTB ly k = gTB lx k by rw [hly]; exact hCH.other)
          have hkb := hCH.lt
          have HLY := Lib.hid hly
          have HVY := Lib.hid hvy
          clear hly hvy hCH hp
          refine gs_start (S := (fun w' => Below WU.heap.size WU w')) (by kernel_rfl) ?_
          refine gs_take (i := 0) (d := (some 55)) (v := ?_) rfl rfl (by kernel_rfl) (fun _ _ _ h => h) (by rfl) hR (fun w' hb' => ?_) ?_
          rotate_left
          · (refine load_row_op _ _ (.tmp 9) ?_ ?_ (Q9u.out _ hb') Tryd.underlying26 ?_ hsX <;> rfl); (try go_simp); (try with_reducible rfl)
          try simp only [Act.put, List.setIfInBounds_toArray, List.set_cons_zero, List.set_cons_succ]
          refine gs_take (i := 1) (d := (some 56)) (v := ?_) rfl rfl (by kernel_rfl) (fun _ _ _ h => h) (by rfl) hR (fun w' hb' => ?_) ?_
          rotate_left
          · (try go_simp); (try with_reducible rfl)
          try simp only [Act.put, List.setIfInBounds_toArray, List.set_cons_zero, List.set_cons_succ]
          refine gs_take (i := 2) (d := (some 57)) (v := ?_) rfl rfl (by kernel_rfl) (fun _ _ _ h => h) (by rfl) hR (fun w' hb' => ?_) ?_
          rotate_left
          · (try go_simp); (try with_reducible rfl)
          try simp only [Act.put, List.setIfInBounds_toArray, List.set_cons_zero, List.set_cons_succ]
          refine gs_take (i := 3) (d := (some 58)) (v := ?_) rfl rfl (by kernel_rfl) (fun _ _ _ h => h) (by rfl) hR (fun w' hb' => ?_) ?_
          rotate_left
          · have hlt2 := hlti; (try go_simp); (try with_reducible rfl)
          try simp only [Act.put, List.setIfInBounds_toArray, List.set_cons_zero, List.set_cons_succ]
          refine gs_take (i := 4) (d := (some 59)) (v := ?_) rfl rfl (by kernel_rfl) (fun _ _ _ h => h) (by rfl) hR (fun w' hb' => ?_) ?_
          rotate_left
          · obtain ⟨c0, c1, c2, c3, c4⟩ := CI.out _ (chain H9.out hb'); (try go_simp); (try with_reducible rfl)
          try simp only [Act.put, List.setIfInBounds_toArray, List.set_cons_zero, List.set_cons_succ]
          refine gs_run2 (i := 5) (k := 9) rfl rfl (by kernel_rfl) (by rfl) (by rfl) (fun K hK => ?_) (fun K hK => ?_)
          · skip
            go_simp
            refine (PU.out _ (chain H9.out hR)).mono ?_
            rintro e y1 ⟨CP, rfl, hP1, hP2, g⟩
            have hsP := infoTc hP1
            have hzP : zT.size = CP.size := by rw [hP1]; rfl
            have hoP := hP2
            have hR := chain hR g
            have hP := Below.refl y1.heap.size y1
            refine hK _ _ ⟨hR, ?_⟩
            clear hK K g
            try simp only [Act.put, List.setIfInBounds_toArray, List.set_cons_zero, List.set_cons_succ]
            refine gs_take (i := 6) (d := (some 54)) (v := ?_) rfl rfl (by kernel_rfl) (fun _ _ _ h => h) (by rfl) hR (fun w' hb' => ?_) ?_
            rotate_left
            · (try go_simp); (try with_reducible rfl)
            try simp only [Act.put, List.setIfInBounds_toArray, List.set_cons_zero, List.set_cons_succ]
            refine gs_take (i := 7) (d := (some 61)) (v := ?_) rfl rfl (by kernel_rfl) (fun _ _ _ h => h) (by rfl) hR (fun w' hb' => ?_) ?_
            rotate_left
            · (try go_simp); (try with_reducible rfl)
            try simp only [Act.put, List.setIfInBounds_toArray, List.set_cons_zero, List.set_cons_succ]
            refine gs_take (i := 8) (d := (some 62)) (v := ?_) rfl rfl (by kernel_rfl) (fun _ _ _ h => h) (by rfl) hR (fun w' hb' => ?_) ?_
            rotate_left
            · (try go_simp); (try with_reducible rfl)
            try simp only [Act.put, List.setIfInBounds_toArray, List.set_cons_zero, List.set_cons_succ]
            refine gs_run (i := 9) rfl (by kernel_rfl) (by rfl) (fun K hK => ?_)
            go_simp
            have qz : (World.alloc y1 (.cells zT 26)).heap[y1.heap.size]? = some (.cells zT 26 (0, 0)) := heap_alloc_new y1 (.cells zT 26)
            have GA0 : WU.heap.size ≤ y1.heap.size := hR.size
            have GAP : y1.heap.size ≤ y1.heap.size := hP.size
            have hP := hP.alloc hP.size (.cells zT 26)
            have hR : Below WU.heap.size WU (World.alloc y1 (.cells zT 26)) := hR.alloc hR.size (.cells zT 26)
            refine hK _ _ ⟨hR, ?_⟩
            clear hK K
            obtain ⟨y2, hy⟩ : ∃ W, W = World.alloc y1 (.cells zT 26) := ⟨_, rfl⟩
            rw [← hy] at qz hR hP ⊢
            clear hy
            try simp only [Act.put, List.setIfInBounds_toArray, List.set_cons_zero, List.set_cons_succ]
            refine gs_run (i := 10) rfl (by kernel_rfl) (by rfl) (fun K hK => ?_)
            refine wp_store_row 26 (.tmp 13) (.tmp 61) rfl _ CP rfl rfl _ zT qz hsP hzP hoP ?_
            have qn := setRow_heap _ _ _ CP _ _ qz
            have hR := below_row hR GA0 CP
            refine hK _ _ ⟨hR, ?_⟩
            clear hK K
            obtain ⟨WP, hWP⟩ : ∃ W, W = World.setRow y2 y1.heap.size CP := ⟨_, rfl⟩
            rw [← hWP] at qn hR ⊢
            clear hWP qz hP GAP
            try simp only [Act.put, List.setIfInBounds_toArray, List.set_cons_zero, List.set_cons_succ]
            refine gs_take (i := 11) (d := (some 14)) (v := ?_) rfl rfl (by kernel_rfl) (fun _ _ _ h => h) (by rfl) hR (fun w' hb' => ?_) ?_
            rotate_left
            · (try go_simp); (try with_reducible rfl)
            try simp only [Act.put, List.setIfInBounds_toArray, List.set_cons_zero, List.set_cons_succ]
            refine gs_done (by kernel_rfl) ?_
            obtain ⟨gy, hgy⟩ : ∃ g, g = y1.heap.size := ⟨_, rfl⟩
            have hgyr : wr.heap.size ≤ y1.heap.size := Nat.le_trans H9.out.size GA0
            have gyU : WU.heap.size ≤ gy := by rw [hgy]; exact GA0
            rw [← hgy] at qn hgyr ⊢
            clear hgy GA0
            have QY := Lib.hid qn
            have hX := chain H9.out hR
            have HR := Lib.hid hR
            clear qn hR
            obtain ⟨c0, c1, c2, c3, c4⟩ := CI.out _ hX
            clear c0 c1 c2 c3
            go_wp2_with fail
            have hZ := Below.drew hX
            have hQ := Below.drew (Below.refl WP.heap.size WP)
            refine gs_start (S := (fun w' => Below wr.heap.size wr w')) (by kernel_rfl) ?_
            refine gs_take (i := 0) (d := (some 71)) (v := ?_) rfl rfl (by kernel_rfl) (fun _ _ _ h => h) (by rfl) hZ (fun w' hb' => ?_) ?_
            rotate_left
            · (refine load_row_op _ _ (.tmp 9) ?_ ?_ ((hb'.block _ hg9).trans Q9r.out) Tryd.underlying26 ?_ hsX <;> rfl); (try go_simp); (try with_reducible rfl)
            try simp only [Act.put, List.setIfInBounds_toArray, List.set_cons_zero, List.set_cons_succ]
            refine gs_take (i := 1) (d := (some 72)) (v := ?_) rfl rfl (by kernel_rfl) (fun _ _ _ h => h) (by rfl) hZ (fun w' hb' => ?_) ?_
            rotate_left
            · (try go_simp); (try with_reducible rfl)
            try simp only [Act.put, List.setIfInBounds_toArray, List.set_cons_zero, List.set_cons_succ]
            refine gs_take (i := 2) (d := (some 73)) (v := ?_) rfl rfl (by kernel_rfl) (fun _ _ _ h => h) (by rfl) hZ (fun w' hb' => ?_) ?_
            rotate_left
            · (try go_simp); (try with_reducible rfl)
            try simp only [Act.put, List.setIfInBounds_toArray, List.set_cons_zero, List.set_cons_succ]
            refine gs_take (i := 3) (d := (some 74)) (v := ?_) rfl rfl (by kernel_rfl) (fun _ _ _ h => h) (by rfl) hZ (fun w' hb' => ?_) ?_
            rotate_left
            · have hlt2 := hlti; (try go_simp); (try with_reducible rfl)
            try simp only [Act.put, List.setIfInBounds_toArray, List.set_cons_zero, List.set_cons_succ]
            refine gs_take (i := 4) (d := (some 75)) (v := ?_) rfl rfl (by kernel_rfl) (fun _ _ _ h => h) (by rfl) hZ (fun w' hb' => ?_) ?_
            rotate_left
            · (try go_simp); (try with_reducible rfl)
            try simp only [Act.put, List.setIfInBounds_toArray, List.set_cons_zero, List.set_cons_succ]
            refine gs_take (i := 5) (d := (some 76)) (v := ?_) rfl rfl (by kernel_rfl) (fun _ _ _ h => h) (by rfl) hZ (fun w' hb' => ?_) ?_
            rotate_left
            · obtain ⟨c0, c1, c2, c3, c4⟩ := CI.out _ hb'; (try go_simp); (try with_reducible rfl)
            try simp only [Act.put, List.setIfInBounds_toArray, List.set_cons_zero, List.set_cons_succ]
            refine gs_take (i := 6) (d := (some 77)) (v := ?_) rfl rfl (by kernel_rfl) (fun _ _ _ h => h) (by rfl) hZ (fun w' hb' => ?_) ?_
            rotate_left
            · (try go_simp); (try with_reducible rfl)
            try simp only [Act.put, List.setIfInBounds_toArray, List.set_cons_zero, List.set_cons_succ]
            refine gs_take (i := 7) (d := (some 78)) (v := ?_) rfl rfl (by kernel_rfl) (fun _ _ _ h => h) (by rfl) hZ (fun w' hb' => ?_) ?_
            rotate_left
            · (try go_simp); (try with_reducible rfl)
            try simp only [Act.put, List.setIfInBounds_toArray, List.set_cons_zero, List.set_cons_succ]
            refine gs_take (i := 8) (d := (some 79)) (v := ?_) rfl rfl (by kernel_rfl) (fun _ _ _ h => h) (by rfl) hZ (fun w' hb' => ?_) ?_
            rotate_left
            · have c17 := C17.out _ hb'; (try go_simp); (try with_reducible rfl)
            try simp only [Act.put, List.setIfInBounds_toArray, List.set_cons_zero, List.set_cons_succ]
            refine gs_take (i := 9) (d := (some 80)) (v := ?_) rfl rfl (by kernel_rfl) (fun _ _ _ h => h) (by rfl) hZ (fun w' hb' => ?_) ?_
            rotate_left
            · have e1 := E1.out; (try go_simp); (try with_reducible rfl)
            try simp only [Act.put, List.setIfInBounds_toArray, List.set_cons_zero, List.set_cons_succ]
            refine gs_run (i := 10) rfl (by kernel_rfl) (by rfl) (fun K hK => ?_)
            go_simp
            refine (DE.out _ hZ).mono ?_
            rintro e WD ⟨u, rfl, ou, g⟩
            have bs := hZ.size
            have bg : gy < WP.drew.heap.size := lt_of_block QY.out
            have hxn := chain hZ g
            obtain ⟨CY, hCY⟩ : ∃ C, C = (CX.setIfInBounds kb u).setIfInBounds (16 + kb) (.int .i64 vv) := ⟨_, rfl⟩
            rw [← hCY]
            have RY := (SX.out.rd.below hxn (Nat.le_refl _)).put hkb (v := vv) (own_rdk itC_len ou)
            rw [← hCY] at RY
            have hsP := infoTc RY.size
            have hzc : CP.size = CY.size := by rw [← hzP, RY.size]; rfl
            have hXY : CX.size = CY.size := by rw [RY.size]; exact SX.out.rd.size
            have hoP := RY.one
            have HCY := Lib.hid hCY
            have OU := Lib.hid ou
            clear RY hCY ou hxn
            have hZ := chain hZ g
            have hQ := chain hQ g
            have qy := (hQ.block _ (lt_of_block QY.out)).trans QY.out
            refine hK _ _ ⟨hZ, ?_⟩
            clear hK K g
            try simp only [Act.put, List.setIfInBounds_toArray, List.set_cons_zero, List.set_cons_succ]
            refine gs_take (i := 11) (d := (some 70)) (v := ?_) rfl rfl (by kernel_rfl) (fun _ _ _ h => h) (by rfl) hZ (fun w' hb' => ?_) ?_
            rotate_left
            · (try go_simp); (try with_reducible rfl)
            try simp only [Act.put, List.setIfInBounds_toArray, List.set_cons_zero, List.set_cons_succ]
            refine gs_take (i := 12) (d := (some 82)) (v := ?_) rfl rfl (by kernel_rfl) (fun _ _ _ h => h) (by rfl) hZ (fun w' hb' => ?_) ?_
            rotate_left
            · (try go_simp); (try with_reducible rfl)
            try simp only [Act.put, List.setIfInBounds_toArray, List.set_cons_zero, List.set_cons_succ]
            refine gs_take (i := 13) (d := (some 83)) (v := ?_) rfl rfl (by kernel_rfl) (fun _ _ _ h => h) (by rfl) hZ (fun w' hb' => ?_) ?_
            rotate_left
            · (try go_simp); (try with_reducible rfl)
            try simp only [Act.put, List.setIfInBounds_toArray, List.set_cons_zero, List.set_cons_succ]
            refine gs_run (i := 14) rfl (by kernel_rfl) (by rfl) (fun K hK => ?_)
            refine wp_store_row 26 (.tmp 13) (.tmp 82) rfl _ CY rfl rfl _ CP qy hsP hzc hoP ?_
            have qn := setRow_heap _ _ _ CY _ _ qy
            have hZ := below_row hZ hgyr CY
            refine hK _ _ ⟨hZ, ?_⟩
            clear hK K qy
            have OWP := Lib.hid (own_moved2 (w' := World.setRow WD gy CY) OU.out (fun k hk _ => by rw [setRow_other _ _ _ _ (by omega)]))
            have hU := below_row (chain HR.out hQ) gyU CY
            obtain ⟨WQ, hWQ⟩ : ∃ W, W = World.setRow WD gy CY := ⟨_, rfl⟩
            rw [← hWQ] at OWP qn hZ hU ⊢
            clear hWQ
            try simp only [Act.put, List.setIfInBounds_toArray, List.set_cons_zero, List.set_cons_succ]
            refine gs_take (i := 15) (d := (some 14)) (v := ?_) rfl rfl (by kernel_rfl) (fun _ _ _ h => h) (by rfl) hZ (fun w' hb' => ?_) ?_
            rotate_left
            · (try go_simp); (try with_reducible rfl)
            try simp only [Act.put, List.setIfInBounds_toArray, List.set_cons_zero, List.set_cons_succ]
            refine gs_done (by kernel_rfl) ?_
            have QY2 := Lib.hid qn
            clear qn
            have SY := Lib.hid (show SafeT g9 WQ CY ly vy by rw [HLY.out, HVY.out, HCY.out]; exact (SX.out.below hZ).put hkb OWP.out (by omega))
            clear OWP HLY HVY HCY
            have TY := Lib.hid (TR.out.below hZ)
            have HXP := Lib.hid hZ
            have Q9P := Lib.hid ((hZ.block _ hg9).trans Q9r.out)
            have Q11P := Lib.hid ((hU.block _ (lt_of_block Q11.out)).trans Q11.out)
            have UN := Lib.hid (unlike_any CX CY lx ly vx vy WQ TY.out (SX.out.rd.below hZ (Nat.le_refl _)) SY.out.rd szx CHs HMx.out CHm.out)
            obtain ⟨X2, hX2⟩ : ∃ X, X = gTI ly ks := ⟨_, rfl⟩
            obtain ⟨Y2, hY2⟩ : ∃ Y, Y = gTB ly ks := ⟨_, rfl⟩
            have GY0 := fun W (g : Below WQ.heap.size WQ W) => tget_any CY ly vy ks W (TY.out.below g) (SY.out.rd.below g (Nat.le_refl _)) CHs kk
            rw [show tGet ly vy ks = .tuple #[itV X2, .bool Y2] by unfold tGet tI tB; rw [CHm.out, hX2, hY2]; simp] at GY0
            unfold itV at GY0
            have GY := Lib.hid GY0
            have MY0 := fun W (g : Below WQ.heap.size WQ W) => tmay_any CY ly vy W (TY.out.below g) (SY.out.rd.below g (Nat.le_refl _)) CHs
            rw [CHm.out] at MY0
            have MYY := Lib.hid MY0
            have KEY := Lib.hid (show ks ≠ x.key → X2 = X1 ∧ Y2 = Y1 from fun q => by rw [hX2, hY2, HX1.out, HY1.out]; exact CHo.out ks q)
            clear GY0 MY0 hX2 hY2
            have hW := Below.refl WQ.heap.size WQ
            obtain ⟨c0, c1, c2, c3, c4⟩ := CI.out _ hZ
            clear c0 c1 c2 c3
            have q9 := Q9P.out
            have qy := QY2.out
            go_wp2_with (first | ((with_reducible refine wpList_load_row (o := ⟨some 87, _, _, _, _, _⟩) rfl 26 (.tmp 9) rfl _ rfl _ CX (0, 0) _ q9 Tryd.underlying26 rfl hsX ?_)) | ((with_reducible refine wpList_load_row (o := ⟨some 88, _, _, _, _, _⟩) rfl 26 (.tmp 13) rfl _ rfl _ CY (0, 0) _ qy Tryd.underlying26 rfl hsP ?_)))
            refine UN.out.mono ?_
            rintro e v6 ⟨vu, rfl, ownu, g⟩
            obtain ⟨au, cu, rfl⟩ := own_slice_n ownu
            have hW := chain hW g
            clear g ownu q9 qy c4 hZ
            obtain ⟨N, hN⟩ : ∃ N, N = (unlL lx ly vx vy 16).length := ⟨_, rfl⟩
            rw [← hN] at HUN ⊢
            clear hN
            have dn : decide (1 < (N : Int)) = false := decide_eq_false (by omega)
            have dn2 : decide (1 < N) = false := decide_eq_false (by omega)
            have qy := (hW.block _ (lt_of_block QY2.out)).trans QY2.out
            go_wp2_with ((with_reducible refine wpList_load_row (o := ⟨some 93, _, _, _, _, _⟩) rfl 26 (.tmp 13) rfl _ rfl _ CY (0, 0) _ qy Tryd.underlying26 rfl hsP ?_))
            clear qy
            refine (GY.out _ hW).mono ?_
            rintro e v7 ⟨rfl, g⟩
            have hW := chain hW g
            clear g
            have qb := heap_alloc_new v7 (.cells #[.string (str X2.key), .int .i64 X2.v.k, .int .i64 X2.v.i, .string (str X2.v.s), .int .i64 X2.ver] 32 )
            have hW := hW.alloc hW.size (.cells #[.string (str X2.key), .int .i64 X2.v.k, .int .i64 X2.v.i, .string (str X2.v.s), .int .i64 X2.ver] 32 )
            have qy := (hW.block _ (lt_of_block QY2.out)).trans QY2.out
            go_wp2_with ((with_reducible refine wpList_load_row_g (o := ⟨some 106, _, _, _, _, _⟩) ?_ 26 (.tmp 13) rfl _ rfl _ CY (0, 0) _ qy Tryd.underlying26 rfl hsP ?_); rfl)
            clear qy
            refine (MYY.out _ hW).mono ?_
            rintro e v8 ⟨rfl, g⟩
            have hW := chain hW g
            have qb := (g.block _ (lt_of_block qb)).trans qb
            clear g
            have qy := (hW.block _ (lt_of_block QY2.out)).trans QY2.out
            have q9 := (hW.block _ (lt_of_block Q9P.out)).trans Q9P.out
            have q11 := (hW.block _ (lt_of_block Q11P.out)).trans Q11P.out
            obtain ⟨c0, c1, c2, c3, c4⟩ := CI.out _ (chain HXP.out hW)
            clear c1 c2 c3 c4
            have hXW := chain HXP.out hW
            by_cases hkk : ks = x.key
            · have hbk : ((str ks).toList != (str x.key).toList) = false := by rw [ne_str]; simp [hkk]
              have hbl : (str ks).toList = (str x.key).toList := by rw [hkk]
              clear hkk
              go_wp2_with (first | ((with_reducible refine wpList_load_row (o := ⟨some 129, _, _, _, _, _⟩) rfl 26 (.tmp 13) rfl _ rfl _ CY (0, 0) _ qy Tryd.underlying26 rfl hsP ?_)) | (with_reducible refine wpList_store_row (o := ⟨none, _, _, _, _, _⟩) rfl 26 (.tmp 9) (.tmp 129) rfl _ CY rfl rfl _ CX q9 hsP hXY hoP ?_))
              exact ⟨⟨j + 1, CY, ly, vy, hj1, by push_cast; rfl, below_row (hB.trans (hXW.mono hg9le)) (Nat.le_refl _) CY, Lib.hid (setRow_heap _ _ _ CY _ _ q9), Lib.hid ((SY.out.below hW).setRow CY), CHs, CHm⟩, by simp [intOf]; omega⟩
            · have hbk : ((str ks).toList != (str x.key).toList) = true := by rw [ne_str]; simp [hkk]
              have hbl : ¬ (str ks).toList = (str x.key).toList := by rw [str_tl, str_tl]; exact hkk
              obtain ⟨e1, e2⟩ := KEY.out hkk
              subst e1
              subst e2
              clear hkk
              have NE := fun W => it_ne_same X2 W
              unfold itV at NE
              obtain ⟨k0, k1, k2, k3, k4, -⟩ := block_cells5 qb
              obtain ⟨m0, m1, m2, m3, m4, -⟩ := block_cells5 q11
              go_wp2_with (first | ((with_reducible refine wpList_load_row (o := ⟨some 129, _, _, _, _, _⟩) rfl 26 (.tmp 13) rfl _ rfl _ CY (0, 0) _ qy Tryd.underlying26 rfl hsP ?_)) | (with_reducible refine wpList_store_row (o := ⟨none, _, _, _, _, _⟩) rfl 26 (.tmp 9) (.tmp 129) rfl _ CY rfl rfl _ CX q9 hsP hXY hoP ?_))
              exact ⟨⟨j + 1, CY, ly, vy, hj1, by push_cast; rfl, below_row (hB.trans (hXW.mono hg9le)) (Nat.le_refl _) CY, Lib.hid (setRow_heap _ _ _ CY _ _ q9), Lib.hid ((SY.out.below hW).setRow CY), CHs, CHm⟩, by simp [intOf]; omega⟩
          · skip
            go_simp
            have qz : ((World.alloc WU (.cells zT 26)).drew).heap[WU.heap.size]? = some (.cells zT 26 (0, 0)) := heap_alloc_new WU (.cells zT 26)
            have GA0 : WU.heap.size ≤ WU.heap.size := hR.size
            have hR : Below WU.heap.size WU ((World.alloc WU (.cells zT 26)).drew) := Below.drew ((Below.refl WU.heap.size WU).alloc (Nat.le_refl _) _)
            refine hK _ _ ⟨hR, ?_⟩
            clear hK K
            obtain ⟨y1, hy⟩ : ∃ W, W = (World.alloc WU (.cells zT 26)).drew := ⟨_, rfl⟩
            rw [← hy] at qz hR ⊢
            clear hy
            try simp only [Act.put, List.setIfInBounds_toArray, List.set_cons_zero, List.set_cons_succ]
            refine gs_run (i := 5) rfl (by kernel_rfl) (by rfl) (fun K hK => ?_)
            go_simp
            have bP := lt_of_block qz
            refine (PU.out _ (chain H9.out hR)).mono ?_
            rintro e y2 ⟨CP, rfl, hP1, hP2, g⟩
            have hsP := infoTc hP1
            have hzP : zT.size = CP.size := by rw [hP1]; rfl
            have hoP := hP2
            have hR := chain hR g
            have qz := (g.block _ (lt_of_block qz)).trans qz
            have hP := Below.refl y2.heap.size y2
            refine hK _ _ ⟨hR, ?_⟩
            clear hK K g
            try simp only [Act.put, List.setIfInBounds_toArray, List.set_cons_zero, List.set_cons_succ]
            refine gs_take (i := 6) (d := (some 54)) (v := ?_) rfl rfl (by kernel_rfl) (fun _ _ _ h => h) (by rfl) hR (fun w' hb' => ?_) ?_
            rotate_left
            · (try go_simp); (try with_reducible rfl)
            try simp only [Act.put, List.setIfInBounds_toArray, List.set_cons_zero, List.set_cons_succ]
            refine gs_take (i := 7) (d := (some 61)) (v := ?_) rfl rfl (by kernel_rfl) (fun _ _ _ h => h) (by rfl) hR (fun w' hb' => ?_) ?_
            rotate_left
            · (try go_simp); (try with_reducible rfl)
            try simp only [Act.put, List.setIfInBounds_toArray, List.set_cons_zero, List.set_cons_succ]
            refine gs_take (i := 8) (d := (some 62)) (v := ?_) rfl rfl (by kernel_rfl) (fun _ _ _ h => h) (by rfl) hR (fun w' hb' => ?_) ?_
            rotate_left
            · (try go_simp); (try with_reducible rfl)
            try simp only [Act.put, List.setIfInBounds_toArray, List.set_cons_zero, List.set_cons_succ]
            refine gs_run (i := 10) rfl (by kernel_rfl) (by rfl) (fun K hK => ?_)
            refine wp_store_row 26 (.tmp 13) (.tmp 61) rfl _ CP rfl rfl _ zT qz hsP hzP hoP ?_
            have qn := setRow_heap _ _ _ CP _ _ qz
            have hR := below_row hR GA0 CP
            refine hK _ _ ⟨hR, ?_⟩
            clear hK K
            obtain ⟨WP, hWP⟩ : ∃ W, W = World.setRow y2 WU.heap.size CP := ⟨_, rfl⟩
            rw [← hWP] at qn hR ⊢
            clear hWP qz hP bP
            try simp only [Act.put, List.setIfInBounds_toArray, List.set_cons_zero, List.set_cons_succ]
            refine gs_take (i := 11) (d := (some 14)) (v := ?_) rfl rfl (by kernel_rfl) (fun _ _ _ h => h) (by rfl) hR (fun w' hb' => ?_) ?_
            rotate_left
            · (try go_simp); (try with_reducible rfl)
            try simp only [Act.put, List.setIfInBounds_toArray, List.set_cons_zero, List.set_cons_succ]
            refine gs_done (by kernel_rfl) ?_
            obtain ⟨gy, hgy⟩ : ∃ g, g = WU.heap.size := ⟨_, rfl⟩
            have hgyr : wr.heap.size ≤ WU.heap.size := Nat.le_trans H9.out.size GA0
            have gyU : WU.heap.size ≤ gy := by rw [hgy]; exact GA0
            rw [← hgy] at qn hgyr ⊢
            clear hgy GA0
            have QY := Lib.hid qn
            have hX := chain H9.out hR
            have HR := Lib.hid hR
            clear qn hR
            obtain ⟨c0, c1, c2, c3, c4⟩ := CI.out _ hX
            clear c0 c1 c2 c3
            go_wp2_with fail
            have hZ := Below.drew hX
            have hQ := Below.drew (Below.refl WP.heap.size WP)
            refine gs_start (S := (fun w' => Below wr.heap.size wr w')) (by kernel_rfl) ?_
            refine gs_take (i := 0) (d := (some 71)) (v := ?_) rfl rfl (by kernel_rfl) (fun _ _ _ h => h) (by rfl) hZ (fun w' hb' => ?_) ?_
            rotate_left
            · (refine load_row_op _ _ (.tmp 9) ?_ ?_ ((hb'.block _ hg9).trans Q9r.out) Tryd.underlying26 ?_ hsX <;> rfl); (try go_simp); (try with_reducible rfl)
            try simp only [Act.put, List.setIfInBounds_toArray, List.set_cons_zero, List.set_cons_succ]
            refine gs_take (i := 1) (d := (some 72)) (v := ?_) rfl rfl (by kernel_rfl) (fun _ _ _ h => h) (by rfl) hZ (fun w' hb' => ?_) ?_
            rotate_left
            · (try go_simp); (try with_reducible rfl)
            try simp only [Act.put, List.setIfInBounds_toArray, List.set_cons_zero, List.set_cons_succ]
            refine gs_take (i := 2) (d := (some 73)) (v := ?_) rfl rfl (by kernel_rfl) (fun _ _ _ h => h) (by rfl) hZ (fun w' hb' => ?_) ?_
            rotate_left
            · (try go_simp); (try with_reducible rfl)
            try simp only [Act.put, List.setIfInBounds_toArray, List.set_cons_zero, List.set_cons_succ]
            refine gs_take (i := 3) (d := (some 74)) (v := ?_) rfl rfl (by kernel_rfl) (fun _ _ _ h => h) (by rfl) hZ (fun w' hb' => ?_) ?_
            rotate_left
            · have hlt2 := hlti; (try go_simp); (try with_reducible rfl)
            try simp only [Act.put, List.setIfInBounds_toArray, List.set_cons_zero, List.set_cons_succ]
            refine gs_take (i := 4) (d := (some 75)) (v := ?_) rfl rfl (by kernel_rfl) (fun _ _ _ h => h) (by rfl) hZ (fun w' hb' => ?_) ?_
            rotate_left
            · (try go_simp); (try with_reducible rfl)
            try simp only [Act.put, List.setIfInBounds_toArray, List.set_cons_zero, List.set_cons_succ]
            refine gs_take (i := 5) (d := (some 76)) (v := ?_) rfl rfl (by kernel_rfl) (fun _ _ _ h => h) (by rfl) hZ (fun w' hb' => ?_) ?_
            rotate_left
            · obtain ⟨c0, c1, c2, c3, c4⟩ := CI.out _ hb'; (try go_simp); (try with_reducible rfl)
            try simp only [Act.put, List.setIfInBounds_toArray, List.set_cons_zero, List.set_cons_succ]
            refine gs_take (i := 6) (d := (some 77)) (v := ?_) rfl rfl (by kernel_rfl) (fun _ _ _ h => h) (by rfl) hZ (fun w' hb' => ?_) ?_
            rotate_left
            · (try go_simp); (try with_reducible rfl)
            try simp only [Act.put, List.setIfInBounds_toArray, List.set_cons_zero, List.set_cons_succ]
            refine gs_take (i := 7) (d := (some 78)) (v := ?_) rfl rfl (by kernel_rfl) (fun _ _ _ h => h) (by rfl) hZ (fun w' hb' => ?_) ?_
            rotate_left
            · (try go_simp); (try with_reducible rfl)
            try simp only [Act.put, List.setIfInBounds_toArray, List.set_cons_zero, List.set_cons_succ]
            refine gs_take (i := 8) (d := (some 79)) (v := ?_) rfl rfl (by kernel_rfl) (fun _ _ _ h => h) (by rfl) hZ (fun w' hb' => ?_) ?_
            rotate_left
            · have c17 := C17.out _ hb'; (try go_simp); (try with_reducible rfl)
            try simp only [Act.put, List.setIfInBounds_toArray, List.set_cons_zero, List.set_cons_succ]
            refine gs_take (i := 9) (d := (some 80)) (v := ?_) rfl rfl (by kernel_rfl) (fun _ _ _ h => h) (by rfl) hZ (fun w' hb' => ?_) ?_
            rotate_left
            · have e1 := E1.out; (try go_simp); (try with_reducible rfl)
            try simp only [Act.put, List.setIfInBounds_toArray, List.set_cons_zero, List.set_cons_succ]
            refine gs_run (i := 10) rfl (by kernel_rfl) (by rfl) (fun K hK => ?_)
            go_simp
            refine (DE.out _ hZ).mono ?_
            rintro e WD ⟨u, rfl, ou, g⟩
            have bs := hZ.size
            have bg : gy < WP.drew.heap.size := lt_of_block QY.out
            have hxn := chain hZ g
            obtain ⟨CY, hCY⟩ : ∃ C, C = (CX.setIfInBounds kb u).setIfInBounds (16 + kb) (.int .i64 vv) := ⟨_, rfl⟩
            rw [← hCY]
            have RY := (SX.out.rd.below hxn (Nat.le_refl _)).put hkb (v := vv) (own_rdk itC_len ou)
            rw [← hCY] at RY
            have hsP := infoTc RY.size
            have hzc : CP.size = CY.size := by rw [← hzP, RY.size]; rfl
            have hXY : CX.size = CY.size := by rw [RY.size]; exact SX.out.rd.size
            have hoP := RY.one
            have HCY := Lib.hid hCY
            have OU := Lib.hid ou
            clear RY hCY ou hxn
            have hZ := chain hZ g
            have hQ := chain hQ g
            have qy := (hQ.block _ (lt_of_block QY.out)).trans QY.out
            refine hK _ _ ⟨hZ, ?_⟩
            clear hK K g
            try simp only [Act.put, List.setIfInBounds_toArray, List.set_cons_zero, List.set_cons_succ]
            refine gs_take (i := 11) (d := (some 70)) (v := ?_) rfl rfl (by kernel_rfl) (fun _ _ _ h => h) (by rfl) hZ (fun w' hb' => ?_) ?_
            rotate_left
            · (try go_simp); (try with_reducible rfl)
            try simp only [Act.put, List.setIfInBounds_toArray, List.set_cons_zero, List.set_cons_succ]
            refine gs_take (i := 12) (d := (some 82)) (v := ?_) rfl rfl (by kernel_rfl) (fun _ _ _ h => h) (by rfl) hZ (fun w' hb' => ?_) ?_
            rotate_left
            · (try go_simp); (try with_reducible rfl)
            try simp only [Act.put, List.setIfInBounds_toArray, List.set_cons_zero, List.set_cons_succ]
            refine gs_take (i := 13) (d := (some 83)) (v := ?_) rfl rfl (by kernel_rfl) (fun _ _ _ h => h) (by rfl) hZ (fun w' hb' => ?_) ?_
            rotate_left
            · (try go_simp); (try with_reducible rfl)
            try simp only [Act.put, List.setIfInBounds_toArray, List.set_cons_zero, List.set_cons_succ]
            refine gs_run (i := 14) rfl (by kernel_rfl) (by rfl) (fun K hK => ?_)
            refine wp_store_row 26 (.tmp 13) (.tmp 82) rfl _ CY rfl rfl _ CP qy hsP hzc hoP ?_
            have qn := setRow_heap _ _ _ CY _ _ qy
            have hZ := below_row hZ hgyr CY
            refine hK _ _ ⟨hZ, ?_⟩
            clear hK K qy
            have OWP := Lib.hid (own_moved2 (w' := World.setRow WD gy CY) OU.out (fun k hk _ => by rw [setRow_other _ _ _ _ (by omega)]))
            have hU := below_row (chain HR.out hQ) gyU CY
            obtain ⟨WQ, hWQ⟩ : ∃ W, W = World.setRow WD gy CY := ⟨_, rfl⟩
            rw [← hWQ] at OWP qn hZ hU ⊢
            clear hWQ
            try simp only [Act.put, List.setIfInBounds_toArray, List.set_cons_zero, List.set_cons_succ]
            refine gs_take (i := 15) (d := (some 14)) (v := ?_) rfl rfl (by kernel_rfl) (fun _ _ _ h => h) (by rfl) hZ (fun w' hb' => ?_) ?_
            rotate_left
            · (try go_simp); (try with_reducible rfl)
            try simp only [Act.put, List.setIfInBounds_toArray, List.set_cons_zero, List.set_cons_succ]
            refine gs_done (by kernel_rfl) ?_
            have QY2 := Lib.hid qn
            clear qn
            have SY := Lib.hid (show SafeT g9 WQ CY ly vy by rw [HLY.out, HVY.out, HCY.out]; exact (SX.out.below hZ).put hkb OWP.out (by omega))
            clear OWP HLY HVY HCY
            have TY := Lib.hid (TR.out.below hZ)
            have HXP := Lib.hid hZ
            have Q9P := Lib.hid ((hZ.block _ hg9).trans Q9r.out)
            have Q11P := Lib.hid ((hU.block _ (lt_of_block Q11.out)).trans Q11.out)
            have UN := Lib.hid (unlike_any CX CY lx ly vx vy WQ TY.out (SX.out.rd.below hZ (Nat.le_refl _)) SY.out.rd szx CHs HMx.out CHm.out)
            obtain ⟨X2, hX2⟩ : ∃ X, X = gTI ly ks := ⟨_, rfl⟩
            obtain ⟨Y2, hY2⟩ : ∃ Y, Y = gTB ly ks := ⟨_, rfl⟩
            have GY0 := fun W (g : Below WQ.heap.size WQ W) => tget_any CY ly vy ks W (TY.out.below g) (SY.out.rd.below g (Nat.le_refl _)) CHs kk
            rw [show tGet ly vy ks = .tuple #[itV X2, .bool Y2] by unfold tGet tI tB; rw [CHm.out, hX2, hY2]; simp] at GY0
            unfold itV at GY0
            have GY := Lib.hid GY0
            have MY0 := fun W (g : Below WQ.heap.size WQ W) => tmay_any CY ly vy W (TY.out.below g) (SY.out.rd.below g (Nat.le_refl _)) CHs
            rw [CHm.out] at MY0
            have MYY := Lib.hid MY0
            have KEY := Lib.hid (show ks ≠ x.key → X2 = X1 ∧ Y2 = Y1 from fun q => by rw [hX2, hY2, HX1.out, HY1.out]; exact CHo.out ks q)
            clear GY0 MY0 hX2 hY2
            have hW := Below.refl WQ.heap.size WQ
            obtain ⟨c0, c1, c2, c3, c4⟩ := CI.out _ hZ
            clear c0 c1 c2 c3
            have q9 := Q9P.out
            have qy := QY2.out
            go_wp2_with (first | ((with_reducible refine wpList_load_row (o := ⟨some 87, _, _, _, _, _⟩) rfl 26 (.tmp 9) rfl _ rfl _ CX (0, 0) _ q9 Tryd.underlying26 rfl hsX ?_)) | ((with_reducible refine wpList_load_row (o := ⟨some 88, _, _, _, _, _⟩) rfl 26 (.tmp 13) rfl _ rfl _ CY (0, 0) _ qy Tryd.underlying26 rfl hsP ?_)))
            refine UN.out.mono ?_
            rintro e v6 ⟨vu, rfl, ownu, g⟩
            obtain ⟨au, cu, rfl⟩ := own_slice_n ownu
            have hW := chain hW g
            clear g ownu q9 qy c4 hZ
            obtain ⟨N, hN⟩ : ∃ N, N = (unlL lx ly vx vy 16).length := ⟨_, rfl⟩
            rw [← hN] at HUN ⊢
            clear hN
            have dn : decide (1 < (N : Int)) = false := decide_eq_false (by omega)
            have dn2 : decide (1 < N) = false := decide_eq_false (by omega)
            have qy := (hW.block _ (lt_of_block QY2.out)).trans QY2.out
            go_wp2_with ((with_reducible refine wpList_load_row (o := ⟨some 93, _, _, _, _, _⟩) rfl 26 (.tmp 13) rfl _ rfl _ CY (0, 0) _ qy Tryd.underlying26 rfl hsP ?_))
            clear qy
            refine (GY.out _ hW).mono ?_
            rintro e v7 ⟨rfl, g⟩
            have hW := chain hW g
            clear g
            have qb := heap_alloc_new v7 (.cells #[.string (str X2.key), .int .i64 X2.v.k, .int .i64 X2.v.i, .string (str X2.v.s), .int .i64 X2.ver] 32 )
            have hW := hW.alloc hW.size (.cells #[.string (str X2.key), .int .i64 X2.v.k, .int .i64 X2.v.i, .string (str X2.v.s), .int .i64 X2.ver] 32 )
            have qy := (hW.block _ (lt_of_block QY2.out)).trans QY2.out
            go_wp2_with ((with_reducible refine wpList_load_row_g (o := ⟨some 106, _, _, _, _, _⟩) ?_ 26 (.tmp 13) rfl _ rfl _ CY (0, 0) _ qy Tryd.underlying26 rfl hsP ?_); rfl)
            clear qy
            refine (MYY.out _ hW).mono ?_
            rintro e v8 ⟨rfl, g⟩
            have hW := chain hW g
            have qb := (g.block _ (lt_of_block qb)).trans qb
            clear g
            have qy := (hW.block _ (lt_of_block QY2.out)).trans QY2.out
            have q9 := (hW.block _ (lt_of_block Q9P.out)).trans Q9P.out
            have q11 := (hW.block _ (lt_of_block Q11P.out)).trans Q11P.out
            obtain ⟨c0, c1, c2, c3, c4⟩ := CI.out _ (chain HXP.out hW)
            clear c1 c2 c3 c4
            have hXW := chain HXP.out hW
            by_cases hkk : ks = x.key
            · have hbk : ((str ks).toList != (str x.key).toList) = false := by rw [ne_str]; simp [hkk]
              have hbl : (str ks).toList = (str x.key).toList := by rw [hkk]
              clear hkk
              go_wp2_with (first | ((with_reducible refine wpList_load_row (o := ⟨some 129, _, _, _, _, _⟩) rfl 26 (.tmp 13) rfl _ rfl _ CY (0, 0) _ qy Tryd.underlying26 rfl hsP ?_)) | (with_reducible refine wpList_store_row (o := ⟨none, _, _, _, _, _⟩) rfl 26 (.tmp 9) (.tmp 129) rfl _ CY rfl rfl _ CX q9 hsP hXY hoP ?_))
              exact ⟨⟨j + 1, CY, ly, vy, hj1, by push_cast; rfl, below_row (hB.trans (hXW.mono hg9le)) (Nat.le_refl _) CY, Lib.hid (setRow_heap _ _ _ CY _ _ q9), Lib.hid ((SY.out.below hW).setRow CY), CHs, CHm⟩, by simp [intOf]; omega⟩
            · have hbk : ((str ks).toList != (str x.key).toList) = true := by rw [ne_str]; simp [hkk]
              have hbl : ¬ (str ks).toList = (str x.key).toList := by rw [str_tl, str_tl]; exact hkk
              obtain ⟨e1, e2⟩ := KEY.out hkk
              subst e1
              subst e2
              clear hkk
              have NE := fun W => it_ne_same X2 W
              unfold itV at NE
              obtain ⟨k0, k1, k2, k3, k4, -⟩ := block_cells5 qb
              obtain ⟨m0, m1, m2, m3, m4, -⟩ := block_cells5 q11
              go_wp2_with (first | ((with_reducible refine wpList_load_row (o := ⟨some 129, _, _, _, _, _⟩) rfl 26 (.tmp 13) rfl _ rfl _ CY (0, 0) _ qy Tryd.underlying26 rfl hsP ?_)) | (with_reducible refine wpList_store_row (o := ⟨none, _, _, _, _, _⟩) rfl 26 (.tmp 9) (.tmp 129) rfl _ CY rfl rfl _ CX q9 hsP hXY hoP ?_))
              exact ⟨⟨j + 1, CY, ly, vy, hj1, by push_cast; rfl, below_row (hB.trans (hXW.mono hg9le)) (Nat.le_refl _) CY, Lib.hid (setRow_heap _ _ _ CY _ _ q9), Lib.hid ((SY.out.below hW).setRow CY), CHs, CHm⟩, by simp [intOf]; omega⟩
        · obtain ⟨de, hde⟩ : ∃ n, n = delTE lx vx x.key (V + 1) := ⟨_, rfl⟩
          have hne : ((de : Int) != 0) = true := by rw [bne_iff_ne]; omega
          have DE : Hid (∀ W, Below wr.heap.size wr W → Calls Tryd.prog 24 #[.agg CX, .string (str x.key), .int .i64 (V + 1)] W (TrZ W de)) := Lib.hid (fun W g => by
            have h := tdel_any CX lx vx x.key (V + 1) W (TR.out.below g) (SX.out.rd.below g (Nat.le_refl _)) szx hxz.1
            unfold DelP at h; rw [if_neg hp, ← hde] at h; exact h)
          clear hp hde hV
          refine gs_start (S := (fun w' => Below WU.heap.size WU w')) (by kernel_rfl) ?_
          refine gs_take (i := 0) (d := (some 55)) (v := ?_) rfl rfl (by kernel_rfl) (fun _ _ _ h => h) (by rfl) hR (fun w' hb' => ?_) ?_
          rotate_left
          · (refine load_row_op _ _ (.tmp 9) ?_ ?_ (Q9u.out _ hb') Tryd.underlying26 ?_ hsX <;> rfl); (try go_simp); (try with_reducible rfl)
          try simp only [Act.put, List.setIfInBounds_toArray, List.set_cons_zero, List.set_cons_succ]
          refine gs_take (i := 1) (d := (some 56)) (v := ?_) rfl rfl (by kernel_rfl) (fun _ _ _ h => h) (by rfl) hR (fun w' hb' => ?_) ?_
          rotate_left
          · (try go_simp); (try with_reducible rfl)
          try simp only [Act.put, List.setIfInBounds_toArray, List.set_cons_zero, List.set_cons_succ]
          refine gs_take (i := 2) (d := (some 57)) (v := ?_) rfl rfl (by kernel_rfl) (fun _ _ _ h => h) (by rfl) hR (fun w' hb' => ?_) ?_
          rotate_left
          · (try go_simp); (try with_reducible rfl)
          try simp only [Act.put, List.setIfInBounds_toArray, List.set_cons_zero, List.set_cons_succ]
          refine gs_take (i := 3) (d := (some 58)) (v := ?_) rfl rfl (by kernel_rfl) (fun _ _ _ h => h) (by rfl) hR (fun w' hb' => ?_) ?_
          rotate_left
          · have hlt2 := hlti; (try go_simp); (try with_reducible rfl)
          try simp only [Act.put, List.setIfInBounds_toArray, List.set_cons_zero, List.set_cons_succ]
          refine gs_take (i := 4) (d := (some 59)) (v := ?_) rfl rfl (by kernel_rfl) (fun _ _ _ h => h) (by rfl) hR (fun w' hb' => ?_) ?_
          rotate_left
          · obtain ⟨c0, c1, c2, c3, c4⟩ := CI.out _ (chain H9.out hb'); (try go_simp); (try with_reducible rfl)
          try simp only [Act.put, List.setIfInBounds_toArray, List.set_cons_zero, List.set_cons_succ]
          refine gs_run2 (i := 5) (k := 9) rfl rfl (by kernel_rfl) (by rfl) (by rfl) (fun K hK => ?_) (fun K hK => ?_)
          · skip
            go_simp
            refine (PU.out _ (chain H9.out hR)).mono ?_
            rintro e y1 ⟨CP, rfl, hP1, hP2, g⟩
            have hsP := infoTc hP1
            have hzP : zT.size = CP.size := by rw [hP1]; rfl
            have hoP := hP2
            have hR := chain hR g
            have hP := Below.refl y1.heap.size y1
            refine hK _ _ ⟨hR, ?_⟩
            clear hK K g
            try simp only [Act.put, List.setIfInBounds_toArray, List.set_cons_zero, List.set_cons_succ]
            refine gs_take (i := 6) (d := (some 54)) (v := ?_) rfl rfl (by kernel_rfl) (fun _ _ _ h => h) (by rfl) hR (fun w' hb' => ?_) ?_
            rotate_left
            · (try go_simp); (try with_reducible rfl)
            try simp only [Act.put, List.setIfInBounds_toArray, List.set_cons_zero, List.set_cons_succ]
            refine gs_take (i := 7) (d := (some 61)) (v := ?_) rfl rfl (by kernel_rfl) (fun _ _ _ h => h) (by rfl) hR (fun w' hb' => ?_) ?_
            rotate_left
            · (try go_simp); (try with_reducible rfl)
            try simp only [Act.put, List.setIfInBounds_toArray, List.set_cons_zero, List.set_cons_succ]
            refine gs_take (i := 8) (d := (some 62)) (v := ?_) rfl rfl (by kernel_rfl) (fun _ _ _ h => h) (by rfl) hR (fun w' hb' => ?_) ?_
            rotate_left
            · (try go_simp); (try with_reducible rfl)
            try simp only [Act.put, List.setIfInBounds_toArray, List.set_cons_zero, List.set_cons_succ]
            refine gs_run (i := 9) rfl (by kernel_rfl) (by rfl) (fun K hK => ?_)
            go_simp
            have qz : (World.alloc y1 (.cells zT 26)).heap[y1.heap.size]? = some (.cells zT 26 (0, 0)) := heap_alloc_new y1 (.cells zT 26)
            have GA0 : WU.heap.size ≤ y1.heap.size := hR.size
            have GAP : y1.heap.size ≤ y1.heap.size := hP.size
            have hP := hP.alloc hP.size (.cells zT 26)
            have hR : Below WU.heap.size WU (World.alloc y1 (.cells zT 26)) := hR.alloc hR.size (.cells zT 26)
            refine hK _ _ ⟨hR, ?_⟩
            clear hK K
            obtain ⟨y2, hy⟩ : ∃ W, W = World.alloc y1 (.cells zT 26) := ⟨_, rfl⟩
            rw [← hy] at qz hR hP ⊢
            clear hy
            try simp only [Act.put, List.setIfInBounds_toArray, List.set_cons_zero, List.set_cons_succ]
            refine gs_run (i := 10) rfl (by kernel_rfl) (by rfl) (fun K hK => ?_)
            refine wp_store_row 26 (.tmp 13) (.tmp 61) rfl _ CP rfl rfl _ zT qz hsP hzP hoP ?_
            have qn := setRow_heap _ _ _ CP _ _ qz
            have hR := below_row hR GA0 CP
            refine hK _ _ ⟨hR, ?_⟩
            clear hK K
            obtain ⟨WP, hWP⟩ : ∃ W, W = World.setRow y2 y1.heap.size CP := ⟨_, rfl⟩
            rw [← hWP] at qn hR ⊢
            clear hWP qz hP GAP
            try simp only [Act.put, List.setIfInBounds_toArray, List.set_cons_zero, List.set_cons_succ]
            refine gs_take (i := 11) (d := (some 14)) (v := ?_) rfl rfl (by kernel_rfl) (fun _ _ _ h => h) (by rfl) hR (fun w' hb' => ?_) ?_
            rotate_left
            · (try go_simp); (try with_reducible rfl)
            try simp only [Act.put, List.setIfInBounds_toArray, List.set_cons_zero, List.set_cons_succ]
            refine gs_done (by kernel_rfl) ?_
            obtain ⟨gy, hgy⟩ : ∃ g, g = y1.heap.size := ⟨_, rfl⟩
            have hgyr : wr.heap.size ≤ y1.heap.size := Nat.le_trans H9.out.size GA0
            have gyU : WU.heap.size ≤ gy := by rw [hgy]; exact GA0
            rw [← hgy] at qn hgyr ⊢
            clear hgy GA0
            have QY := Lib.hid qn
            have hX := chain H9.out hR
            have HR := Lib.hid hR
            clear qn hR
            obtain ⟨c0, c1, c2, c3, c4⟩ := CI.out _ hX
            clear c0 c1 c2 c3
            go_wp2_with fail
            have hZ := Below.drew hX
            have hQ := Below.drew (Below.refl WP.heap.size WP)
            refine gs_start (S := (fun w' => Below wr.heap.size wr w')) (by kernel_rfl) ?_
            refine gs_take (i := 0) (d := (some 71)) (v := ?_) rfl rfl (by kernel_rfl) (fun _ _ _ h => h) (by rfl) hZ (fun w' hb' => ?_) ?_
            rotate_left
            · (refine load_row_op _ _ (.tmp 9) ?_ ?_ ((hb'.block _ hg9).trans Q9r.out) Tryd.underlying26 ?_ hsX <;> rfl); (try go_simp); (try with_reducible rfl)
            try simp only [Act.put, List.setIfInBounds_toArray, List.set_cons_zero, List.set_cons_succ]
            refine gs_take (i := 1) (d := (some 72)) (v := ?_) rfl rfl (by kernel_rfl) (fun _ _ _ h => h) (by rfl) hZ (fun w' hb' => ?_) ?_
            rotate_left
            · (try go_simp); (try with_reducible rfl)
            try simp only [Act.put, List.setIfInBounds_toArray, List.set_cons_zero, List.set_cons_succ]
            refine gs_take (i := 2) (d := (some 73)) (v := ?_) rfl rfl (by kernel_rfl) (fun _ _ _ h => h) (by rfl) hZ (fun w' hb' => ?_) ?_
            rotate_left
            · (try go_simp); (try with_reducible rfl)
            try simp only [Act.put, List.setIfInBounds_toArray, List.set_cons_zero, List.set_cons_succ]
            refine gs_take (i := 3) (d := (some 74)) (v := ?_) rfl rfl (by kernel_rfl) (fun _ _ _ h => h) (by rfl) hZ (fun w' hb' => ?_) ?_
            rotate_left
            · have hlt2 := hlti; (try go_simp); (try with_reducible rfl)
            try simp only [Act.put, List.setIfInBounds_toArray, List.set_cons_zero, List.set_cons_succ]
            refine gs_take (i := 4) (d := (some 75)) (v := ?_) rfl rfl (by kernel_rfl) (fun _ _ _ h => h) (by rfl) hZ (fun w' hb' => ?_) ?_
            rotate_left
            · (try go_simp); (try with_reducible rfl)
            try simp only [Act.put, List.setIfInBounds_toArray, List.set_cons_zero, List.set_cons_succ]
            refine gs_take (i := 5) (d := (some 76)) (v := ?_) rfl rfl (by kernel_rfl) (fun _ _ _ h => h) (by rfl) hZ (fun w' hb' => ?_) ?_
            rotate_left
            · obtain ⟨c0, c1, c2, c3, c4⟩ := CI.out _ hb'; (try go_simp); (try with_reducible rfl)
            try simp only [Act.put, List.setIfInBounds_toArray, List.set_cons_zero, List.set_cons_succ]
            refine gs_take (i := 6) (d := (some 77)) (v := ?_) rfl rfl (by kernel_rfl) (fun _ _ _ h => h) (by rfl) hZ (fun w' hb' => ?_) ?_
            rotate_left
            · (try go_simp); (try with_reducible rfl)
            try simp only [Act.put, List.setIfInBounds_toArray, List.set_cons_zero, List.set_cons_succ]
            refine gs_take (i := 7) (d := (some 78)) (v := ?_) rfl rfl (by kernel_rfl) (fun _ _ _ h => h) (by rfl) hZ (fun w' hb' => ?_) ?_
            rotate_left
            · (try go_simp); (try with_reducible rfl)
            try simp only [Act.put, List.setIfInBounds_toArray, List.set_cons_zero, List.set_cons_succ]
            refine gs_take (i := 8) (d := (some 79)) (v := ?_) rfl rfl (by kernel_rfl) (fun _ _ _ h => h) (by rfl) hZ (fun w' hb' => ?_) ?_
            rotate_left
            · have c17 := C17.out _ hb'; (try go_simp); (try with_reducible rfl)
            try simp only [Act.put, List.setIfInBounds_toArray, List.set_cons_zero, List.set_cons_succ]
            refine gs_take (i := 9) (d := (some 80)) (v := ?_) rfl rfl (by kernel_rfl) (fun _ _ _ h => h) (by rfl) hZ (fun w' hb' => ?_) ?_
            rotate_left
            · have e1 := E1.out; (try go_simp); (try with_reducible rfl)
            try simp only [Act.put, List.setIfInBounds_toArray, List.set_cons_zero, List.set_cons_succ]
            refine gs_run (i := 10) rfl (by kernel_rfl) (by rfl) (fun K hK => ?_)
            go_simp
            refine (DE.out _ hZ).mono ?_
            rintro e WD ⟨rfl, g⟩
            have hZ := chain hZ g
            have hQ := chain hQ g
            have qy := (hQ.block _ (lt_of_block QY.out)).trans QY.out
            refine hK _ _ ⟨hZ, ?_⟩
            clear hK K g
            try simp only [Act.put, List.setIfInBounds_toArray, List.set_cons_zero, List.set_cons_succ]
            refine gs_take (i := 11) (d := (some 70)) (v := ?_) rfl rfl (by kernel_rfl) (fun _ _ _ h => h) (by rfl) hZ (fun w' hb' => ?_) ?_
            rotate_left
            · (try go_simp); (try with_reducible rfl)
            try simp only [Act.put, List.setIfInBounds_toArray, List.set_cons_zero, List.set_cons_succ]
            refine gs_take (i := 12) (d := (some 82)) (v := ?_) rfl rfl (by kernel_rfl) (fun _ _ _ h => h) (by rfl) hZ (fun w' hb' => ?_) ?_
            rotate_left
            · (try go_simp); (try with_reducible rfl)
            try simp only [Act.put, List.setIfInBounds_toArray, List.set_cons_zero, List.set_cons_succ]
            refine gs_take (i := 13) (d := (some 83)) (v := ?_) rfl rfl (by kernel_rfl) (fun _ _ _ h => h) (by rfl) hZ (fun w' hb' => ?_) ?_
            rotate_left
            · (try go_simp); (try with_reducible rfl)
            try simp only [Act.put, List.setIfInBounds_toArray, List.set_cons_zero, List.set_cons_succ]
            refine gs_run (i := 14) rfl (by kernel_rfl) (by rfl) (fun K hK => ?_)
            refine wp_store_row 26 (.tmp 13) (.tmp 82) rfl _ zT rfl rfl _ CP qy (infoTc zT_size) hzP.symm zT_one ?_
            have qn := setRow_heap _ _ _ zT _ _ qy
            have hZ := below_row hZ hgyr zT
            refine hK _ _ ⟨hZ, ?_⟩
            clear hK K qy
            try simp only [Act.put, List.setIfInBounds_toArray, List.set_cons_zero, List.set_cons_succ]
            refine gs_take (i := 15) (d := (some 14)) (v := ?_) rfl rfl (by kernel_rfl) (fun _ _ _ h => h) (by rfl) hZ (fun w' hb' => ?_) ?_
            rotate_left
            · (try go_simp); (try with_reducible rfl)
            try simp only [Act.put, List.setIfInBounds_toArray, List.set_cons_zero, List.set_cons_succ]
            refine gs_done (by kernel_rfl) ?_
            obtain ⟨c0, c1, c2, c3, c4⟩ := CI.out _ hZ
            clear c0 c1 c2 c3
            go_wp2_with fail
            exact ⟨⟨j + 1, CX, lx, vx, hj1, by push_cast; rfl, hB.trans (hZ.mono hg9le), Lib.hid ((hZ.block _ hg9).trans Q9r.out), Lib.hid (SX.out.below hZ), szx, HMx⟩, by simp [intOf]; omega⟩
          · skip
            go_simp
            have qz : ((World.alloc WU (.cells zT 26)).drew).heap[WU.heap.size]? = some (.cells zT 26 (0, 0)) := heap_alloc_new WU (.cells zT 26)
            have GA0 : WU.heap.size ≤ WU.heap.size := hR.size
            have hR : Below WU.heap.size WU ((World.alloc WU (.cells zT 26)).drew) := Below.drew ((Below.refl WU.heap.size WU).alloc (Nat.le_refl _) _)
            refine hK _ _ ⟨hR, ?_⟩
            clear hK K
            obtain ⟨y1, hy⟩ : ∃ W, W = (World.alloc WU (.cells zT 26)).drew := ⟨_, rfl⟩
            rw [← hy] at qz hR ⊢
            clear hy
            try simp only [Act.put, List.setIfInBounds_toArray, List.set_cons_zero, List.set_cons_succ]
            refine gs_run (i := 5) rfl (by kernel_rfl) (by rfl) (fun K hK => ?_)
            go_simp
            have bP := lt_of_block qz
            refine (PU.out _ (chain H9.out hR)).mono ?_
            rintro e y2 ⟨CP, rfl, hP1, hP2, g⟩
            have hsP := infoTc hP1
            have hzP : zT.size = CP.size := by rw [hP1]; rfl
            have hoP := hP2
            have hR := chain hR g
            have qz := (g.block _ (lt_of_block qz)).trans qz
            have hP := Below.refl y2.heap.size y2
            refine hK _ _ ⟨hR, ?_⟩
            clear hK K g
            try simp only [Act.put, List.setIfInBounds_toArray, List.set_cons_zero, List.set_cons_succ]
            refine gs_take (i := 6) (d := (some 54)) (v := ?_) rfl rfl (by kernel_rfl) (fun _ _ _ h => h) (by rfl) hR (fun w' hb' => ?_) ?_
            rotate_left
            · (try go_simp); (try with_reducible rfl)
            try simp only [Act.put, List.setIfInBounds_toArray, List.set_cons_zero, List.set_cons_succ]
            refine gs_take (i := 7) (d := (some 61)) (v := ?_) rfl rfl (by kernel_rfl) (fun _ _ _ h => h) (by rfl) hR (fun w' hb' => ?_) ?_
            rotate_left
            · (try go_simp); (try with_reducible rfl)
            try simp only [Act.put, List.setIfInBounds_toArray, List.set_cons_zero, List.set_cons_succ]
            refine gs_take (i := 8) (d := (some 62)) (v := ?_) rfl rfl (by kernel_rfl) (fun _ _ _ h => h) (by rfl) hR (fun w' hb' => ?_) ?_
            rotate_left
            · (try go_simp); (try with_reducible rfl)
            try simp only [Act.put, List.setIfInBounds_toArray, List.set_cons_zero, List.set_cons_succ]
            refine gs_run (i := 10) rfl (by kernel_rfl) (by rfl) (fun K hK => ?_)
            refine wp_store_row 26 (.tmp 13) (.tmp 61) rfl _ CP rfl rfl _ zT qz hsP hzP hoP ?_
            have qn := setRow_heap _ _ _ CP _ _ qz
            have hR := below_row hR GA0 CP
            refine hK _ _ ⟨hR, ?_⟩
            clear hK K
            obtain ⟨WP, hWP⟩ : ∃ W, W = World.setRow y2 WU.heap.size CP := ⟨_, rfl⟩
            rw [← hWP] at qn hR ⊢
            clear hWP qz hP bP
            try simp only [Act.put, List.setIfInBounds_toArray, List.set_cons_zero, List.set_cons_succ]
            refine gs_take (i := 11) (d := (some 14)) (v := ?_) rfl rfl (by kernel_rfl) (fun _ _ _ h => h) (by rfl) hR (fun w' hb' => ?_) ?_
            rotate_left
            · (try go_simp); (try with_reducible rfl)
            try simp only [Act.put, List.setIfInBounds_toArray, List.set_cons_zero, List.set_cons_succ]
            refine gs_done (by kernel_rfl) ?_
            obtain ⟨gy, hgy⟩ : ∃ g, g = WU.heap.size := ⟨_, rfl⟩
            have hgyr : wr.heap.size ≤ WU.heap.size := Nat.le_trans H9.out.size GA0
            have gyU : WU.heap.size ≤ gy := by rw [hgy]; exact GA0
            rw [← hgy] at qn hgyr ⊢
            clear hgy GA0
            have QY := Lib.hid qn
            have hX := chain H9.out hR
            have HR := Lib.hid hR
            clear qn hR
            obtain ⟨c0, c1, c2, c3, c4⟩ := CI.out _ hX
            clear c0 c1 c2 c3
            go_wp2_with fail
            have hZ := Below.drew hX
            have hQ := Below.drew (Below.refl WP.heap.size WP)
            refine gs_start (S := (fun w' => Below wr.heap.size wr w')) (by kernel_rfl) ?_
            refine gs_take (i := 0) (d := (some 71)) (v := ?_) rfl rfl (by kernel_rfl) (fun _ _ _ h => h) (by rfl) hZ (fun w' hb' => ?_) ?_
            rotate_left
            · (refine load_row_op _ _ (.tmp 9) ?_ ?_ ((hb'.block _ hg9).trans Q9r.out) Tryd.underlying26 ?_ hsX <;> rfl); (try go_simp); (try with_reducible rfl)
            try simp only [Act.put, List.setIfInBounds_toArray, List.set_cons_zero, List.set_cons_succ]
            refine gs_take (i := 1) (d := (some 72)) (v := ?_) rfl rfl (by kernel_rfl) (fun _ _ _ h => h) (by rfl) hZ (fun w' hb' => ?_) ?_
            rotate_left
            · (try go_simp); (try with_reducible rfl)
            try simp only [Act.put, List.setIfInBounds_toArray, List.set_cons_zero, List.set_cons_succ]
            refine gs_take (i := 2) (d := (some 73)) (v := ?_) rfl rfl (by kernel_rfl) (fun _ _ _ h => h) (by rfl) hZ (fun w' hb' => ?_) ?_
            rotate_left
            · (try go_simp); (try with_reducible rfl)
            try simp only [Act.put, List.setIfInBounds_toArray, List.set_cons_zero, List.set_cons_succ]
            refine gs_take (i := 3) (d := (some 74)) (v := ?_) rfl rfl (by kernel_rfl) (fun _ _ _ h => h) (by rfl) hZ (fun w' hb' => ?_) ?_
            rotate_left
            · have hlt2 := hlti; (try go_simp); (try with_reducible rfl)
            try simp only [Act.put, List.setIfInBounds_toArray, List.set_cons_zero, List.set_cons_succ]
            refine gs_take (i := 4) (d := (some 75)) (v := ?_) rfl rfl (by kernel_rfl) (fun _ _ _ h => h) (by rfl) hZ (fun w' hb' => ?_) ?_
            rotate_left
            · (try go_simp); (try with_reducible rfl)
            try simp only [Act.put, List.setIfInBounds_toArray, List.set_cons_zero, List.set_cons_succ]
            refine gs_take (i := 5) (d := (some 76)) (v := ?_) rfl rfl (by kernel_rfl) (fun _ _ _ h => h) (by rfl) hZ (fun w' hb' => ?_) ?_
            rotate_left
            · obtain ⟨c0, c1, c2, c3, c4⟩ := CI.out _ hb'; (try go_simp); (try with_reducible rfl)
            try simp only [Act.put, List.setIfInBounds_toArray, List.set_cons_zero, List.set_cons_succ]
            refine gs_take (i := 6) (d := (some 77)) (v := ?_) rfl rfl (by kernel_rfl) (fun _ _ _ h => h) (by rfl) hZ (fun w' hb' => ?_) ?_
            rotate_left
            · (try go_simp); (try with_reducible rfl)
            try simp only [Act.put, List.setIfInBounds_toArray, List.set_cons_zero, List.set_cons_succ]
            refine gs_take (i := 7) (d := (some 78)) (v := ?_) rfl rfl (by kernel_rfl) (fun _ _ _ h => h) (by rfl) hZ (fun w' hb' => ?_) ?_
            rotate_left
            · (try go_simp); (try with_reducible rfl)
            try simp only [Act.put, List.setIfInBounds_toArray, List.set_cons_zero, List.set_cons_succ]
            refine gs_take (i := 8) (d := (some 79)) (v := ?_) rfl rfl (by kernel_rfl) (fun _ _ _ h => h) (by rfl) hZ (fun w' hb' => ?_) ?_
            rotate_left
            · have c17 := C17.out _ hb'; (try go_simp); (try with_reducible rfl)
            try simp only [Act.put, List.setIfInBounds_toArray, List.set_cons_zero, List.set_cons_succ]
            refine gs_take (i := 9) (d := (some 80)) (v := ?_) rfl rfl (by kernel_rfl) (fun _ _ _ h => h) (by rfl) hZ (fun w' hb' => ?_) ?_
            rotate_left
            · have e1 := E1.out; (try go_simp); (try with_reducible rfl)
            try simp only [Act.put, List.setIfInBounds_toArray, List.set_cons_zero, List.set_cons_succ]
            refine gs_run (i := 10) rfl (by kernel_rfl) (by rfl) (fun K hK => ?_)
            go_simp
            refine (DE.out _ hZ).mono ?_
            rintro e WD ⟨rfl, g⟩
            have hZ := chain hZ g
            have hQ := chain hQ g
            have qy := (hQ.block _ (lt_of_block QY.out)).trans QY.out
            refine hK _ _ ⟨hZ, ?_⟩
            clear hK K g
            try simp only [Act.put, List.setIfInBounds_toArray, List.set_cons_zero, List.set_cons_succ]
            refine gs_take (i := 11) (d := (some 70)) (v := ?_) rfl rfl (by kernel_rfl) (fun _ _ _ h => h) (by rfl) hZ (fun w' hb' => ?_) ?_
            rotate_left
            · (try go_simp); (try with_reducible rfl)
            try simp only [Act.put, List.setIfInBounds_toArray, List.set_cons_zero, List.set_cons_succ]
            refine gs_take (i := 12) (d := (some 82)) (v := ?_) rfl rfl (by kernel_rfl) (fun _ _ _ h => h) (by rfl) hZ (fun w' hb' => ?_) ?_
            rotate_left
            · (try go_simp); (try with_reducible rfl)
            try simp only [Act.put, List.setIfInBounds_toArray, List.set_cons_zero, List.set_cons_succ]
            refine gs_take (i := 13) (d := (some 83)) (v := ?_) rfl rfl (by kernel_rfl) (fun _ _ _ h => h) (by rfl) hZ (fun w' hb' => ?_) ?_
            rotate_left
            · (try go_simp); (try with_reducible rfl)
            try simp only [Act.put, List.setIfInBounds_toArray, List.set_cons_zero, List.set_cons_succ]
            refine gs_run (i := 14) rfl (by kernel_rfl) (by rfl) (fun K hK => ?_)
            refine wp_store_row 26 (.tmp 13) (.tmp 82) rfl _ zT rfl rfl _ CP qy (infoTc zT_size) hzP.symm zT_one ?_
            have qn := setRow_heap _ _ _ zT _ _ qy
            have hZ := below_row hZ hgyr zT
            refine hK _ _ ⟨hZ, ?_⟩
            clear hK K qy
            try simp only [Act.put, List.setIfInBounds_toArray, List.set_cons_zero, List.set_cons_succ]
            refine gs_take (i := 15) (d := (some 14)) (v := ?_) rfl rfl (by kernel_rfl) (fun _ _ _ h => h) (by rfl) hZ (fun w' hb' => ?_) ?_
            rotate_left
            · (try go_simp); (try with_reducible rfl)
            try simp only [Act.put, List.setIfInBounds_toArray, List.set_cons_zero, List.set_cons_succ]
            refine gs_done (by kernel_rfl) ?_
            obtain ⟨c0, c1, c2, c3, c4⟩ := CI.out _ hZ
            clear c0 c1 c2 c3
            go_wp2_with fail
            exact ⟨⟨j + 1, CX, lx, vx, hj1, by push_cast; rfl, hB.trans (hZ.mono hg9le), Lib.hid ((hZ.block _ hg9).trans Q9r.out), Lib.hid (SX.out.below hZ), szx, HMx⟩, by simp [intOf]; omega⟩
      · have hv3 : (x.ver.tmod 3 == 0) = false := by simpa using hv3
        by_cases hp : putTE lx vx x = 0
        · skip
          obtain ⟨kb, ll, vv, hCH, PU⟩ : ∃ (kb : Nat) (ll : List It) (vv : Int), Chg lx vx x.key kb ll vv ∧ Hid (∀ W, Below wr.heap.size wr W → Calls Tryd.prog 23 #[.agg CX, .agg #[.string (str x.key), .int .i64 x.v.k, .int .i64 x.v.i, .string (str x.v.s), .int .i64 x.ver]] W (TrO W CX kb ll vv)) := ⟨_, _, _, put_chg HMx.out szx hxz.1 hxz.2 hp, Lib.hid (fun W g => by
            have h := tput_any CX lx vx x W (TR.out.below g) (SX.out.rd.below g (Nat.le_refl _)) szx hxz.1 hxz.2
            unfold PutP at h; rw [if_pos hp] at h; unfold itV at h; exact h)⟩
          have HUN := unl_le lx vx kb ll vv
          obtain ⟨ly, hly⟩ : ∃ f, f = upd lx kb ll := ⟨_, rfl⟩
          obtain ⟨vy, hvy⟩ : ∃ f, f = upd vx kb vv := ⟨_, rfl⟩
          rw [← hly, ← hvy] at HUN
          have CHm := Lib.hid (show mayTs ly vy 16 = true by rw [hly, hvy]; exact hCH.may)
          have CHs : SzT ly := by rw [hly]; exact hCH.sz
          have CHo := Lib.hid (show ∀ k, k ≠ x.key → gTI ly k = gTI lx k ∧ gTB ly k = gTB lx k by rw [hly]; exact hCH.other)
          have hkb := hCH.lt
          have HLY := Lib.hid hly
          have HVY := Lib.hid hvy
          clear hly hvy hCH hp
          refine gs_start (S := (fun w' => Below WU.heap.size WU w')) (by kernel_rfl) ?_
          refine gs_take (i := 0) (d := (some 55)) (v := ?_) rfl rfl (by kernel_rfl) (fun _ _ _ h => h) (by rfl) hR (fun w' hb' => ?_) ?_
          rotate_left
          · (refine load_row_op _ _ (.tmp 9) ?_ ?_ (Q9u.out _ hb') Tryd.underlying26 ?_ hsX <;> rfl); (try go_simp); (try with_reducible rfl)
          try simp only [Act.put, List.setIfInBounds_toArray, List.set_cons_zero, List.set_cons_succ]
          refine gs_take (i := 1) (d := (some 56)) (v := ?_) rfl rfl (by kernel_rfl) (fun _ _ _ h => h) (by rfl) hR (fun w' hb' => ?_) ?_
          rotate_left
          · (try go_simp); (try with_reducible rfl)
          try simp only [Act.put, List.setIfInBounds_toArray, List.set_cons_zero, List.set_cons_succ]
          refine gs_take (i := 2) (d := (some 57)) (v := ?_) rfl rfl (by kernel_rfl) (fun _ _ _ h => h) (by rfl) hR (fun w' hb' => ?_) ?_
          rotate_left
          · (try go_simp); (try with_reducible rfl)
          try simp only [Act.put, List.setIfInBounds_toArray, List.set_cons_zero, List.set_cons_succ]
          refine gs_take (i := 3) (d := (some 58)) (v := ?_) rfl rfl (by kernel_rfl) (fun _ _ _ h => h) (by rfl) hR (fun w' hb' => ?_) ?_
          rotate_left
          · have hlt2 := hlti; (try go_simp); (try with_reducible rfl)
          try simp only [Act.put, List.setIfInBounds_toArray, List.set_cons_zero, List.set_cons_succ]
          refine gs_take (i := 4) (d := (some 59)) (v := ?_) rfl rfl (by kernel_rfl) (fun _ _ _ h => h) (by rfl) hR (fun w' hb' => ?_) ?_
          rotate_left
          · obtain ⟨c0, c1, c2, c3, c4⟩ := CI.out _ (chain H9.out hb'); (try go_simp); (try with_reducible rfl)
          try simp only [Act.put, List.setIfInBounds_toArray, List.set_cons_zero, List.set_cons_succ]
          refine gs_run2 (i := 5) (k := 9) rfl rfl (by kernel_rfl) (by rfl) (by rfl) (fun K hK => ?_) (fun K hK => ?_)
          · skip
            go_simp
            refine (PU.out _ (chain H9.out hR)).mono ?_
            rintro e y1 ⟨u, rfl, ou, g⟩
            have bs := (chain H9.out hR).size
            have hxn := chain (chain H9.out hR) g
            obtain ⟨CY, hCY⟩ : ∃ C, C = (CX.setIfInBounds kb u).setIfInBounds (16 + kb) (.int .i64 vv) := ⟨_, rfl⟩
            rw [← hCY]
            have RY := (SX.out.rd.below hxn (Nat.le_refl _)).put hkb (v := vv) (own_rdk itC_len ou)
            rw [← hCY] at RY
            have hsP := infoTc RY.size
            have hzP : zT.size = CY.size := by rw [RY.size]; rfl
            have hXY : CX.size = CY.size := by rw [RY.size]; exact SX.out.rd.size
            have hoP := RY.one
            have HCY := Lib.hid hCY
            have OU := Lib.hid ou
            clear RY hCY ou hxn
            have hR := chain hR g
            have hP := Below.refl y1.heap.size y1
            refine hK _ _ ⟨hR, ?_⟩
            clear hK K g
            try simp only [Act.put, List.setIfInBounds_toArray, List.set_cons_zero, List.set_cons_succ]
            refine gs_take (i := 6) (d := (some 54)) (v := ?_) rfl rfl (by kernel_rfl) (fun _ _ _ h => h) (by rfl) hR (fun w' hb' => ?_) ?_
            rotate_left
            · (try go_simp); (try with_reducible rfl)
            try simp only [Act.put, List.setIfInBounds_toArray, List.set_cons_zero, List.set_cons_succ]
            refine gs_take (i := 7) (d := (some 61)) (v := ?_) rfl rfl (by kernel_rfl) (fun _ _ _ h => h) (by rfl) hR (fun w' hb' => ?_) ?_
            rotate_left
            · (try go_simp); (try with_reducible rfl)
            try simp only [Act.put, List.setIfInBounds_toArray, List.set_cons_zero, List.set_cons_succ]
            refine gs_take (i := 8) (d := (some 62)) (v := ?_) rfl rfl (by kernel_rfl) (fun _ _ _ h => h) (by rfl) hR (fun w' hb' => ?_) ?_
            rotate_left
            · (try go_simp); (try with_reducible rfl)
            try simp only [Act.put, List.setIfInBounds_toArray, List.set_cons_zero, List.set_cons_succ]
            refine gs_run (i := 9) rfl (by kernel_rfl) (by rfl) (fun K hK => ?_)
            go_simp
            have qz : (World.alloc y1 (.cells zT 26)).heap[y1.heap.size]? = some (.cells zT 26 (0, 0)) := heap_alloc_new y1 (.cells zT 26)
            have GA0 : WU.heap.size ≤ y1.heap.size := hR.size
            have GAP : y1.heap.size ≤ y1.heap.size := hP.size
            have hP := hP.alloc hP.size (.cells zT 26)
            have hR : Below WU.heap.size WU (World.alloc y1 (.cells zT 26)) := hR.alloc hR.size (.cells zT 26)
            refine hK _ _ ⟨hR, ?_⟩
            clear hK K
            obtain ⟨y2, hy⟩ : ∃ W, W = World.alloc y1 (.cells zT 26) := ⟨_, rfl⟩
            rw [← hy] at qz hR hP ⊢
            clear hy
            try simp only [Act.put, List.setIfInBounds_toArray, List.set_cons_zero, List.set_cons_succ]
            refine gs_run (i := 10) rfl (by kernel_rfl) (by rfl) (fun K hK => ?_)
            refine wp_store_row 26 (.tmp 13) (.tmp 61) rfl _ CY rfl rfl _ zT qz hsP hzP hoP ?_
            have qn := setRow_heap _ _ _ CY _ _ qz
            have hR := below_row hR GA0 CY
            refine hK _ _ ⟨hR, ?_⟩
            clear hK K
            have OWP := Lib.hid (own_moved2 (w' := World.setRow y2 y1.heap.size CY) OU.out (fun k _ hk => (below_row hP GAP CY).block k hk))
            obtain ⟨WP, hWP⟩ : ∃ W, W = World.setRow y2 y1.heap.size CY := ⟨_, rfl⟩
            rw [← hWP] at qn hR OWP ⊢
            clear hWP qz hP GAP
            try simp only [Act.put, List.setIfInBounds_toArray, List.set_cons_zero, List.set_cons_succ]
            refine gs_take (i := 11) (d := (some 14)) (v := ?_) rfl rfl (by kernel_rfl) (fun _ _ _ h => h) (by rfl) hR (fun w' hb' => ?_) ?_
            rotate_left
            · (try go_simp); (try with_reducible rfl)
            try simp only [Act.put, List.setIfInBounds_toArray, List.set_cons_zero, List.set_cons_succ]
            refine gs_done (by kernel_rfl) ?_
            obtain ⟨gy, hgy⟩ : ∃ g, g = y1.heap.size := ⟨_, rfl⟩
            have hgyr : wr.heap.size ≤ y1.heap.size := Nat.le_trans H9.out.size GA0
            have gyU : WU.heap.size ≤ gy := by rw [hgy]; exact GA0
            rw [← hgy] at qn hgyr ⊢
            clear hgy GA0
            have QY := Lib.hid qn
            have hX := chain H9.out hR
            have HR := Lib.hid hR
            clear qn hR
            have SY := Lib.hid (show SafeT g9 WP CY ly vy by rw [HLY.out, HVY.out, HCY.out]; exact (SX.out.below hX).put hkb OWP.out (by omega))
            clear OWP HLY HVY HCY
            have TY := Lib.hid (TR.out.below hX)
            have HXP := Lib.hid hX
            have Q9P := Lib.hid ((hX.block _ hg9).trans Q9r.out)
            have Q11P := Lib.hid ((HR.out.block _ (lt_of_block Q11.out)).trans Q11.out)
            have UN := Lib.hid (unlike_any CX CY lx ly vx vy WP TY.out (SX.out.rd.below hX (Nat.le_refl _)) SY.out.rd szx CHs HMx.out CHm.out)
            obtain ⟨X2, hX2⟩ : ∃ X, X = gTI ly ks := ⟨_, rfl⟩
            obtain ⟨Y2, hY2⟩ : ∃ Y, Y = gTB ly ks := ⟨_, rfl⟩
            have GY0 := fun W (g : Below WP.heap.size WP W) => tget_any CY ly vy ks W (TY.out.below g) (SY.out.rd.below g (Nat.le_refl _)) CHs kk
            rw [show tGet ly vy ks = .tuple #[itV X2, .bool Y2] by unfold tGet tI tB; rw [CHm.out, hX2, hY2]; simp] at GY0
            unfold itV at GY0
            have GY := Lib.hid GY0
            have MY0 := fun W (g : Below WP.heap.size WP W) => tmay_any CY ly vy W (TY.out.below g) (SY.out.rd.below g (Nat.le_refl _)) CHs
            rw [CHm.out] at MY0
            have MYY := Lib.hid MY0
            have KEY := Lib.hid (show ks ≠ x.key → X2 = X1 ∧ Y2 = Y1 from fun q => by rw [hX2, hY2, HX1.out, HY1.out]; exact CHo.out ks q)
            clear GY0 MY0 hX2 hY2
            have hW := Below.refl WP.heap.size WP
            obtain ⟨c0, c1, c2, c3, c4⟩ := CI.out _ hX
            clear c0 c1 c2 c3
            have q9 := Q9P.out
            have qy := QY.out
            go_wp2_with (first | ((with_reducible refine wpList_load_row (o := ⟨some 87, _, _, _, _, _⟩) rfl 26 (.tmp 9) rfl _ rfl _ CX (0, 0) _ q9 Tryd.underlying26 rfl hsX ?_)) | ((with_reducible refine wpList_load_row (o := ⟨some 88, _, _, _, _, _⟩) rfl 26 (.tmp 13) rfl _ rfl _ CY (0, 0) _ qy Tryd.underlying26 rfl hsP ?_)))
            refine UN.out.mono ?_
            rintro e v6 ⟨vu, rfl, ownu, g⟩
            obtain ⟨au, cu, rfl⟩ := own_slice_n ownu
            have hW := chain hW g
            clear g ownu q9 qy c4 hX
            obtain ⟨N, hN⟩ : ∃ N, N = (unlL lx ly vx vy 16).length := ⟨_, rfl⟩
            rw [← hN] at HUN ⊢
            clear hN
            have dn : decide (1 < (N : Int)) = false := decide_eq_false (by omega)
            have dn2 : decide (1 < N) = false := decide_eq_false (by omega)
            have qy := (hW.block _ (lt_of_block QY.out)).trans QY.out
            go_wp2_with ((with_reducible refine wpList_load_row (o := ⟨some 93, _, _, _, _, _⟩) rfl 26 (.tmp 13) rfl _ rfl _ CY (0, 0) _ qy Tryd.underlying26 rfl hsP ?_))
            clear qy
            refine (GY.out _ hW).mono ?_
            rintro e v7 ⟨rfl, g⟩
            have hW := chain hW g
            clear g
            have qb := heap_alloc_new v7 (.cells #[.string (str X2.key), .int .i64 X2.v.k, .int .i64 X2.v.i, .string (str X2.v.s), .int .i64 X2.ver] 32 )
            have hW := hW.alloc hW.size (.cells #[.string (str X2.key), .int .i64 X2.v.k, .int .i64 X2.v.i, .string (str X2.v.s), .int .i64 X2.ver] 32 )
            have qy := (hW.block _ (lt_of_block QY.out)).trans QY.out
            go_wp2_with ((with_reducible refine wpList_load_row_g (o := ⟨some 106, _, _, _, _, _⟩) ?_ 26 (.tmp 13) rfl _ rfl _ CY (0, 0) _ qy Tryd.underlying26 rfl hsP ?_); rfl)
            clear qy
            refine (MYY.out _ hW).mono ?_
            rintro e v8 ⟨rfl, g⟩
            have hW := chain hW g
            have qb := (g.block _ (lt_of_block qb)).trans qb
            clear g
            have qy := (hW.block _ (lt_of_block QY.out)).trans QY.out
            have q9 := (hW.block _ (lt_of_block Q9P.out)).trans Q9P.out
            have q11 := (hW.block _ (lt_of_block Q11P.out)).trans Q11P.out
            obtain ⟨c0, c1, c2, c3, c4⟩ := CI.out _ (chain HXP.out hW)
            clear c1 c2 c3 c4
            have hXW := chain HXP.out hW
            by_cases hkk : ks = x.key
            · have hbk : ((str ks).toList != (str x.key).toList) = false := by rw [ne_str]; simp [hkk]
              have hbl : (str ks).toList = (str x.key).toList := by rw [hkk]
              clear hkk
              go_wp2_with (first | ((with_reducible refine wpList_load_row (o := ⟨some 129, _, _, _, _, _⟩) rfl 26 (.tmp 13) rfl _ rfl _ CY (0, 0) _ qy Tryd.underlying26 rfl hsP ?_)) | (with_reducible refine wpList_store_row (o := ⟨none, _, _, _, _, _⟩) rfl 26 (.tmp 9) (.tmp 129) rfl _ CY rfl rfl _ CX q9 hsP hXY hoP ?_))
              exact ⟨⟨j + 1, CY, ly, vy, hj1, by push_cast; rfl, below_row (hB.trans (hXW.mono hg9le)) (Nat.le_refl _) CY, Lib.hid (setRow_heap _ _ _ CY _ _ q9), Lib.hid ((SY.out.below hW).setRow CY), CHs, CHm⟩, by simp [intOf]; omega⟩
            · have hbk : ((str ks).toList != (str x.key).toList) = true := by rw [ne_str]; simp [hkk]
              have hbl : ¬ (str ks).toList = (str x.key).toList := by rw [str_tl, str_tl]; exact hkk
              obtain ⟨e1, e2⟩ := KEY.out hkk
              subst e1
              subst e2
              clear hkk
              have NE := fun W => it_ne_same X2 W
              unfold itV at NE
              obtain ⟨k0, k1, k2, k3, k4, -⟩ := block_cells5 qb
              obtain ⟨m0, m1, m2, m3, m4, -⟩ := block_cells5 q11
              go_wp2_with (first | ((with_reducible refine wpList_load_row (o := ⟨some 129, _, _, _, _, _⟩) rfl 26 (.tmp 13) rfl _ rfl _ CY (0, 0) _ qy Tryd.underlying26 rfl hsP ?_)) | (with_reducible refine wpList_store_row (o := ⟨none, _, _, _, _, _⟩) rfl 26 (.tmp 9) (.tmp 129) rfl _ CY rfl rfl _ CX q9 hsP hXY hoP ?_))
              exact ⟨⟨j + 1, CY, ly, vy, hj1, by push_cast; rfl, below_row (hB.trans (hXW.mono hg9le)) (Nat.le_refl _) CY, Lib.hid (setRow_heap _ _ _ CY _ _ q9), Lib.hid ((SY.out.below hW).setRow CY), CHs, CHm⟩, by simp [intOf]; omega⟩
          · skip
            go_simp
            have qz : ((World.alloc WU (.cells zT 26)).drew).heap[WU.heap.size]? = some (.cells zT 26 (0, 0)) := heap_alloc_new WU (.cells zT 26)
            have GA0 : WU.heap.size ≤ WU.heap.size := hR.size
            have hR : Below WU.heap.size WU ((World.alloc WU (.cells zT 26)).drew) := Below.drew ((Below.refl WU.heap.size WU).alloc (Nat.le_refl _) _)
            refine hK _ _ ⟨hR, ?_⟩
            clear hK K
            obtain ⟨y1, hy⟩ : ∃ W, W = (World.alloc WU (.cells zT 26)).drew := ⟨_, rfl⟩
            rw [← hy] at qz hR ⊢
            clear hy
            try simp only [Act.put, List.setIfInBounds_toArray, List.set_cons_zero, List.set_cons_succ]
            refine gs_run (i := 5) rfl (by kernel_rfl) (by rfl) (fun K hK => ?_)
            go_simp
            have bP := lt_of_block qz
            refine (PU.out _ (chain H9.out hR)).mono ?_
            rintro e y2 ⟨u, rfl, ou, g⟩
            have bs := (chain H9.out hR).size
            have hxn := chain (chain H9.out hR) g
            obtain ⟨CY, hCY⟩ : ∃ C, C = (CX.setIfInBounds kb u).setIfInBounds (16 + kb) (.int .i64 vv) := ⟨_, rfl⟩
            rw [← hCY]
            have RY := (SX.out.rd.below hxn (Nat.le_refl _)).put hkb (v := vv) (own_rdk itC_len ou)
            rw [← hCY] at RY
            have hsP := infoTc RY.size
            have hzP : zT.size = CY.size := by rw [RY.size]; rfl
            have hXY : CX.size = CY.size := by rw [RY.size]; exact SX.out.rd.size
            have hoP := RY.one
            have HCY := Lib.hid hCY
            have OU := Lib.hid ou
            clear RY hCY ou hxn
            have hR := chain hR g
            have qz := (g.block _ (lt_of_block qz)).trans qz
            have hP := Below.refl y2.heap.size y2
            refine hK _ _ ⟨hR, ?_⟩
            clear hK K g
            try simp only [Act.put, List.setIfInBounds_toArray, List.set_cons_zero, List.set_cons_succ]
            refine gs_take (i := 6) (d := (some 54)) (v := ?_) rfl rfl (by kernel_rfl) (fun _ _ _ h => h) (by rfl) hR (fun w' hb' => ?_) ?_
            rotate_left
            · (try go_simp); (try with_reducible rfl)
            try simp only [Act.put, List.setIfInBounds_toArray, List.set_cons_zero, List.set_cons_succ]
            refine gs_take (i := 7) (d := (some 61)) (v := ?_) rfl rfl (by kernel_rfl) (fun _ _ _ h => h) (by rfl) hR (fun w' hb' => ?_) ?_
            rotate_left
            · (try go_simp); (try with_reducible rfl)
            try simp only [Act.put, List.setIfInBounds_toArray, List.set_cons_zero, List.set_cons_succ]
            refine gs_take (i := 8) (d := (some 62)) (v := ?_) rfl rfl (by kernel_rfl) (fun _ _ _ h => h) (by rfl) hR (fun w' hb' => ?_) ?_
            rotate_left
            · (try go_simp); (try with_reducible rfl)
            try simp only [Act.put, List.setIfInBounds_toArray, List.set_cons_zero, List.set_cons_succ]
            refine gs_run (i := 10) rfl (by kernel_rfl) (by rfl) (fun K hK => ?_)
            refine wp_store_row 26 (.tmp 13) (.tmp 61) rfl _ CY rfl rfl _ zT qz hsP hzP hoP ?_
            have qn := setRow_heap _ _ _ CY _ _ qz
            have hR := below_row hR GA0 CY
            refine hK _ _ ⟨hR, ?_⟩
            clear hK K
            have OWP := Lib.hid (own_moved2 (w' := World.setRow y2 WU.heap.size CY) OU.out (fun k hk _ => by rw [setRow_other _ _ _ _ (by omega)]))
            obtain ⟨WP, hWP⟩ : ∃ W, W = World.setRow y2 WU.heap.size CY := ⟨_, rfl⟩
            rw [← hWP] at qn hR OWP ⊢
            clear hWP qz hP bP
            try simp only [Act.put, List.setIfInBounds_toArray, List.set_cons_zero, List.set_cons_succ]
            refine gs_take (i := 11) (d := (some 14)) (v := ?_) rfl rfl (by kernel_rfl) (fun _ _ _ h => h) (by rfl) hR (fun w' hb' => ?_) ?_
            rotate_left
            · (try go_simp); (try with_reducible rfl)
            try simp only [Act.put, List.setIfInBounds_toArray, List.set_cons_zero, List.set_cons_succ]
            refine gs_done (by kernel_rfl) ?_
            obtain ⟨gy, hgy⟩ : ∃ g, g = WU.heap.size := ⟨_, rfl⟩
            have hgyr : wr.heap.size ≤ WU.heap.size := Nat.le_trans H9.out.size GA0
            have gyU : WU.heap.size ≤ gy := by rw [hgy]; exact GA0
            rw [← hgy] at qn hgyr ⊢
            clear hgy GA0
            have QY := Lib.hid qn
            have hX := chain H9.out hR
            have HR := Lib.hid hR
            clear qn hR
            have SY := Lib.hid (show SafeT g9 WP CY ly vy by rw [HLY.out, HVY.out, HCY.out]; exact (SX.out.below hX).put hkb OWP.out (by omega))
            clear OWP HLY HVY HCY
            have TY := Lib.hid (TR.out.below hX)
            have HXP := Lib.hid hX
            have Q9P := Lib.hid ((hX.block _ hg9).trans Q9r.out)
            have Q11P := Lib.hid ((HR.out.block _ (lt_of_block Q11.out)).trans Q11.out)
            have UN := Lib.hid (unlike_any CX CY lx ly vx vy WP TY.out (SX.out.rd.below hX (Nat.le_refl _)) SY.out.rd szx CHs HMx.out CHm.out)
            obtain ⟨X2, hX2⟩ : ∃ X, X = gTI ly ks := ⟨_, rfl⟩
            obtain ⟨Y2, hY2⟩ : ∃ Y, Y = gTB ly ks := ⟨_, rfl⟩
            have GY0 := fun W (g : Below WP.heap.size WP W) => tget_any CY ly vy ks W (TY.out.below g) (SY.out.rd.below g (Nat.le_refl _)) CHs kk
            rw [show tGet ly vy ks = .tuple #[itV X2, .bool Y2] by unfold tGet tI tB; rw [CHm.out, hX2, hY2]; simp] at GY0
            unfold itV at GY0
            have GY := Lib.hid GY0
            have MY0 := fun W (g : Below WP.heap.size WP W) => tmay_any CY ly vy W (TY.out.below g) (SY.out.rd.below g (Nat.le_refl _)) CHs
            rw [CHm.out] at MY0
            have MYY := Lib.hid MY0
            have KEY := Lib.hid (show ks ≠ x.key → X2 = X1 ∧ Y2 = Y1 from fun q => by rw [hX2, hY2, HX1.out, HY1.out]; exact CHo.out ks q)
            clear GY0 MY0 hX2 hY2
            have hW := Below.refl WP.heap.size WP
            obtain ⟨c0, c1, c2, c3, c4⟩ := CI.out _ hX
            clear c0 c1 c2 c3
            have q9 := Q9P.out
            have qy := QY.out
            go_wp2_with (first | ((with_reducible refine wpList_load_row (o := ⟨some 87, _, _, _, _, _⟩) rfl 26 (.tmp 9) rfl _ rfl _ CX (0, 0) _ q9 Tryd.underlying26 rfl hsX ?_)) | ((with_reducible refine wpList_load_row (o := ⟨some 88, _, _, _, _, _⟩) rfl 26 (.tmp 13) rfl _ rfl _ CY (0, 0) _ qy Tryd.underlying26 rfl hsP ?_)))
            refine UN.out.mono ?_
            rintro e v6 ⟨vu, rfl, ownu, g⟩
            obtain ⟨au, cu, rfl⟩ := own_slice_n ownu
            have hW := chain hW g
            clear g ownu q9 qy c4 hX
            obtain ⟨N, hN⟩ : ∃ N, N = (unlL lx ly vx vy 16).length := ⟨_, rfl⟩
            rw [← hN] at HUN ⊢
            clear hN
            have dn : decide (1 < (N : Int)) = false := decide_eq_false (by omega)
            have dn2 : decide (1 < N) = false := decide_eq_false (by omega)
            have qy := (hW.block _ (lt_of_block QY.out)).trans QY.out
            go_wp2_with ((with_reducible refine wpList_load_row (o := ⟨some 93, _, _, _, _, _⟩) rfl 26 (.tmp 13) rfl _ rfl _ CY (0, 0) _ qy Tryd.underlying26 rfl hsP ?_))
            clear qy
            refine (GY.out _ hW).mono ?_
            rintro e v7 ⟨rfl, g⟩
            have hW := chain hW g
            clear g
            have qb := heap_alloc_new v7 (.cells #[.string (str X2.key), .int .i64 X2.v.k, .int .i64 X2.v.i, .string (str X2.v.s), .int .i64 X2.ver] 32 )
            have hW := hW.alloc hW.size (.cells #[.string (str X2.key), .int .i64 X2.v.k, .int .i64 X2.v.i, .string (str X2.v.s), .int .i64 X2.ver] 32 )
            have qy := (hW.block _ (lt_of_block QY.out)).trans QY.out
            go_wp2_with ((with_reducible refine wpList_load_row_g (o := ⟨some 106, _, _, _, _, _⟩) ?_ 26 (.tmp 13) rfl _ rfl _ CY (0, 0) _ qy Tryd.underlying26 rfl hsP ?_); rfl)
            clear qy
            refine (MYY.out _ hW).mono ?_
            rintro e v8 ⟨rfl, g⟩
            have hW := chain hW g
            have qb := (g.block _ (lt_of_block qb)).trans qb
            clear g
            have qy := (hW.block _ (lt_of_block QY.out)).trans QY.out
            have q9 := (hW.block _ (lt_of_block Q9P.out)).trans Q9P.out
            have q11 := (hW.block _ (lt_of_block Q11P.out)).trans Q11P.out
            obtain ⟨c0, c1, c2, c3, c4⟩ := CI.out _ (chain HXP.out hW)
            clear c1 c2 c3 c4
            have hXW := chain HXP.out hW
            by_cases hkk : ks = x.key
            · have hbk : ((str ks).toList != (str x.key).toList) = false := by rw [ne_str]; simp [hkk]
              have hbl : (str ks).toList = (str x.key).toList := by rw [hkk]
              clear hkk
              go_wp2_with (first | ((with_reducible refine wpList_load_row (o := ⟨some 129, _, _, _, _, _⟩) rfl 26 (.tmp 13) rfl _ rfl _ CY (0, 0) _ qy Tryd.underlying26 rfl hsP ?_)) | (with_reducible refine wpList_store_row (o := ⟨none, _, _, _, _, _⟩) rfl 26 (.tmp 9) (.tmp 129) rfl _ CY rfl rfl _ CX q9 hsP hXY hoP ?_))
              exact ⟨⟨j + 1, CY, ly, vy, hj1, by push_cast; rfl, below_row (hB.trans (hXW.mono hg9le)) (Nat.le_refl _) CY, Lib.hid (setRow_heap _ _ _ CY _ _ q9), Lib.hid ((SY.out.below hW).setRow CY), CHs, CHm⟩, by simp [intOf]; omega⟩
            · have hbk : ((str ks).toList != (str x.key).toList) = true := by rw [ne_str]; simp [hkk]
              have hbl : ¬ (str ks).toList = (str x.key).toList := by rw [str_tl, str_tl]; exact hkk
              obtain ⟨e1, e2⟩ := KEY.out hkk
              subst e1
              subst e2
              clear hkk
              have NE := fun W => it_ne_same X2 W
              unfold itV at NE
              obtain ⟨k0, k1, k2, k3, k4, -⟩ := block_cells5 qb
              obtain ⟨m0, m1, m2, m3, m4, -⟩ := block_cells5 q11
              go_wp2_with (first | ((with_reducible refine wpList_load_row (o := ⟨some 129, _, _, _, _, _⟩) rfl 26 (.tmp 13) rfl _ rfl _ CY (0, 0) _ qy Tryd.underlying26 rfl hsP ?_)) | (with_reducible refine wpList_store_row (o := ⟨none, _, _, _, _, _⟩) rfl 26 (.tmp 9) (.tmp 129) rfl _ CY rfl rfl _ CX q9 hsP hXY hoP ?_))
              exact ⟨⟨j + 1, CY, ly, vy, hj1, by push_cast; rfl, below_row (hB.trans (hXW.mono hg9le)) (Nat.le_refl _) CY, Lib.hid (setRow_heap _ _ _ CY _ _ q9), Lib.hid ((SY.out.below hW).setRow CY), CHs, CHm⟩, by simp [intOf]; omega⟩
        · obtain ⟨pe, hpe⟩ : ∃ n, n = putTE lx vx x := ⟨_, rfl⟩
          have hne : ((pe : Int) != 0) = true := by rw [bne_iff_ne]; omega
          have PU : Hid (∀ W, Below wr.heap.size wr W → Calls Tryd.prog 23 #[.agg CX, .agg #[.string (str x.key), .int .i64 x.v.k, .int .i64 x.v.i, .string (str x.v.s), .int .i64 x.ver]] W (TrZ W pe)) := Lib.hid (fun W g => by
            have h := tput_any CX lx vx x W (TR.out.below g) (SX.out.rd.below g (Nat.le_refl _)) szx hxz.1 hxz.2
            unfold PutP at h; rw [if_neg hp, ← hpe] at h; unfold itV at h; exact h)
          clear hp hpe
          have hsP := infoTc zT_size
          have hzP : zT.size = zT.size := rfl
          have hoP := zT_one
          refine gs_start (S := (fun w' => Below WU.heap.size WU w')) (by kernel_rfl) ?_
          refine gs_take (i := 0) (d := (some 55)) (v := ?_) rfl rfl (by kernel_rfl) (fun _ _ _ h => h) (by rfl) hR (fun w' hb' => ?_) ?_
          rotate_left
          · (refine load_row_op _ _ (.tmp 9) ?_ ?_ (Q9u.out _ hb') Tryd.underlying26 ?_ hsX <;> rfl); (try go_simp); (try with_reducible rfl)
          try simp only [Act.put, List.setIfInBounds_toArray, List.set_cons_zero, List.set_cons_succ]
          refine gs_take (i := 1) (d := (some 56)) (v := ?_) rfl rfl (by kernel_rfl) (fun _ _ _ h => h) (by rfl) hR (fun w' hb' => ?_) ?_
          rotate_left
          · (try go_simp); (try with_reducible rfl)
          try simp only [Act.put, List.setIfInBounds_toArray, List.set_cons_zero, List.set_cons_succ]
          refine gs_take (i := 2) (d := (some 57)) (v := ?_) rfl rfl (by kernel_rfl) (fun _ _ _ h => h) (by rfl) hR (fun w' hb' => ?_) ?_
          rotate_left
          · (try go_simp); (try with_reducible rfl)
          try simp only [Act.put, List.setIfInBounds_toArray, List.set_cons_zero, List.set_cons_succ]
          refine gs_take (i := 3) (d := (some 58)) (v := ?_) rfl rfl (by kernel_rfl) (fun _ _ _ h => h) (by rfl) hR (fun w' hb' => ?_) ?_
          rotate_left
          · have hlt2 := hlti; (try go_simp); (try with_reducible rfl)
          try simp only [Act.put, List.setIfInBounds_toArray, List.set_cons_zero, List.set_cons_succ]
          refine gs_take (i := 4) (d := (some 59)) (v := ?_) rfl rfl (by kernel_rfl) (fun _ _ _ h => h) (by rfl) hR (fun w' hb' => ?_) ?_
          rotate_left
          · obtain ⟨c0, c1, c2, c3, c4⟩ := CI.out _ (chain H9.out hb'); (try go_simp); (try with_reducible rfl)
          try simp only [Act.put, List.setIfInBounds_toArray, List.set_cons_zero, List.set_cons_succ]
          refine gs_run2 (i := 5) (k := 9) rfl rfl (by kernel_rfl) (by rfl) (by rfl) (fun K hK => ?_) (fun K hK => ?_)
          · skip
            go_simp
            refine (PU.out _ (chain H9.out hR)).mono ?_
            rintro e y1 ⟨rfl, g⟩
            have hR := chain hR g
            have hP := Below.refl y1.heap.size y1
            refine hK _ _ ⟨hR, ?_⟩
            clear hK K g
            try simp only [Act.put, List.setIfInBounds_toArray, List.set_cons_zero, List.set_cons_succ]
            refine gs_take (i := 6) (d := (some 54)) (v := ?_) rfl rfl (by kernel_rfl) (fun _ _ _ h => h) (by rfl) hR (fun w' hb' => ?_) ?_
            rotate_left
            · (try go_simp); (try with_reducible rfl)
            try simp only [Act.put, List.setIfInBounds_toArray, List.set_cons_zero, List.set_cons_succ]
            refine gs_take (i := 7) (d := (some 61)) (v := ?_) rfl rfl (by kernel_rfl) (fun _ _ _ h => h) (by rfl) hR (fun w' hb' => ?_) ?_
            rotate_left
            · (try go_simp); (try with_reducible rfl)
            try simp only [Act.put, List.setIfInBounds_toArray, List.set_cons_zero, List.set_cons_succ]
            refine gs_take (i := 8) (d := (some 62)) (v := ?_) rfl rfl (by kernel_rfl) (fun _ _ _ h => h) (by rfl) hR (fun w' hb' => ?_) ?_
            rotate_left
            · (try go_simp); (try with_reducible rfl)
            try simp only [Act.put, List.setIfInBounds_toArray, List.set_cons_zero, List.set_cons_succ]
            refine gs_run (i := 9) rfl (by kernel_rfl) (by rfl) (fun K hK => ?_)
            go_simp
            have qz : (World.alloc y1 (.cells zT 26)).heap[y1.heap.size]? = some (.cells zT 26 (0, 0)) := heap_alloc_new y1 (.cells zT 26)
            have GA0 : WU.heap.size ≤ y1.heap.size := hR.size
            have GAP : y1.heap.size ≤ y1.heap.size := hP.size
            have hP := hP.alloc hP.size (.cells zT 26)
            have hR : Below WU.heap.size WU (World.alloc y1 (.cells zT 26)) := hR.alloc hR.size (.cells zT 26)
            refine hK _ _ ⟨hR, ?_⟩
            clear hK K
            obtain ⟨y2, hy⟩ : ∃ W, W = World.alloc y1 (.cells zT 26) := ⟨_, rfl⟩
            rw [← hy] at qz hR hP ⊢
            clear hy
            try simp only [Act.put, List.setIfInBounds_toArray, List.set_cons_zero, List.set_cons_succ]
            refine gs_run (i := 10) rfl (by kernel_rfl) (by rfl) (fun K hK => ?_)
            refine wp_store_row 26 (.tmp 13) (.tmp 61) rfl _ zT rfl rfl _ zT qz hsP hzP hoP ?_
            have qn := setRow_heap _ _ _ zT _ _ qz
            have hR := below_row hR GA0 zT
            refine hK _ _ ⟨hR, ?_⟩
            clear hK K
            obtain ⟨WP, hWP⟩ : ∃ W, W = World.setRow y2 y1.heap.size zT := ⟨_, rfl⟩
            rw [← hWP] at qn hR ⊢
            clear hWP qz hP GAP
            try simp only [Act.put, List.setIfInBounds_toArray, List.set_cons_zero, List.set_cons_succ]
            refine gs_take (i := 11) (d := (some 14)) (v := ?_) rfl rfl (by kernel_rfl) (fun _ _ _ h => h) (by rfl) hR (fun w' hb' => ?_) ?_
            rotate_left
            · (try go_simp); (try with_reducible rfl)
            try simp only [Act.put, List.setIfInBounds_toArray, List.set_cons_zero, List.set_cons_succ]
            refine gs_done (by kernel_rfl) ?_
            obtain ⟨gy, hgy⟩ : ∃ g, g = y1.heap.size := ⟨_, rfl⟩
            have hgyr : wr.heap.size ≤ y1.heap.size := Nat.le_trans H9.out.size GA0
            have gyU : WU.heap.size ≤ gy := by rw [hgy]; exact GA0
            rw [← hgy] at qn hgyr ⊢
            clear hgy GA0
            have QY := Lib.hid qn
            have hX := chain H9.out hR
            have HR := Lib.hid hR
            clear qn hR
            obtain ⟨c0, c1, c2, c3, c4⟩ := CI.out _ hX
            clear c0 c1 c2 c3
            go_wp2_with fail
            exact ⟨⟨j + 1, CX, lx, vx, hj1, by push_cast; rfl, hB.trans (hX.mono hg9le), Lib.hid ((hX.block _ hg9).trans Q9r.out), Lib.hid (SX.out.below hX), szx, HMx⟩, by simp [intOf]; omega⟩
          · skip
            go_simp
            have qz : ((World.alloc WU (.cells zT 26)).drew).heap[WU.heap.size]? = some (.cells zT 26 (0, 0)) := heap_alloc_new WU (.cells zT 26)
            have GA0 : WU.heap.size ≤ WU.heap.size := hR.size
            have hR : Below WU.heap.size WU ((World.alloc WU (.cells zT 26)).drew) := Below.drew ((Below.refl WU.heap.size WU).alloc (Nat.le_refl _) _)
            refine hK _ _ ⟨hR, ?_⟩
            clear hK K
            obtain ⟨y1, hy⟩ : ∃ W, W = (World.alloc WU (.cells zT 26)).drew := ⟨_, rfl⟩
            rw [← hy] at qz hR ⊢
            clear hy
            try simp only [Act.put, List.setIfInBounds_toArray, List.set_cons_zero, List.set_cons_succ]
            refine gs_run (i := 5) rfl (by kernel_rfl) (by rfl) (fun K hK => ?_)
            go_simp
            have bP := lt_of_block qz
            refine (PU.out _ (chain H9.out hR)).mono ?_
            rintro e y2 ⟨rfl, g⟩
            have hR := chain hR g
            have qz := (g.block _ (lt_of_block qz)).trans qz
            have hP := Below.refl y2.heap.size y2
            refine hK _ _ ⟨hR, ?_⟩
            clear hK K g
            try simp only [Act.put, List.setIfInBounds_toArray, List.set_cons_zero, List.set_cons_succ]
            refine gs_take (i := 6) (d := (some 54)) (v := ?_) rfl rfl (by kernel_rfl) (fun _ _ _ h => h) (by rfl) hR (fun w' hb' => ?_) ?_
            rotate_left
            · (try go_simp); (try with_reducible rfl)
            try simp only [Act.put, List.setIfInBounds_toArray, List.set_cons_zero, List.set_cons_succ]
            refine gs_take (i := 7) (d := (some 61)) (v := ?_) rfl rfl (by kernel_rfl) (fun _ _ _ h => h) (by rfl) hR (fun w' hb' => ?_) ?_
            rotate_left
            · (try go_simp); (try with_reducible rfl)
            try simp only [Act.put, List.setIfInBounds_toArray, List.set_cons_zero, List.set_cons_succ]
            refine gs_take (i := 8) (d := (some 62)) (v := ?_) rfl rfl (by kernel_rfl) (fun _ _ _ h => h) (by rfl) hR (fun w' hb' => ?_) ?_
            rotate_left
            · (try go_simp); (try with_reducible rfl)
            try simp only [Act.put, List.setIfInBounds_toArray, List.set_cons_zero, List.set_cons_succ]
            refine gs_run (i := 10) rfl (by kernel_rfl) (by rfl) (fun K hK => ?_)
            refine wp_store_row 26 (.tmp 13) (.tmp 61) rfl _ zT rfl rfl _ zT qz hsP hzP hoP ?_
            have qn := setRow_heap _ _ _ zT _ _ qz
            have hR := below_row hR GA0 zT
            refine hK _ _ ⟨hR, ?_⟩
            clear hK K
            obtain ⟨WP, hWP⟩ : ∃ W, W = World.setRow y2 WU.heap.size zT := ⟨_, rfl⟩
            rw [← hWP] at qn hR ⊢
            clear hWP qz hP bP
            try simp only [Act.put, List.setIfInBounds_toArray, List.set_cons_zero, List.set_cons_succ]
            refine gs_take (i := 11) (d := (some 14)) (v := ?_) rfl rfl (by kernel_rfl) (fun _ _ _ h => h) (by rfl) hR (fun w' hb' => ?_) ?_
            rotate_left
            · (try go_simp); (try with_reducible rfl)
            try simp only [Act.put, List.setIfInBounds_toArray, List.set_cons_zero, List.set_cons_succ]
            refine gs_done (by kernel_rfl) ?_
            obtain ⟨gy, hgy⟩ : ∃ g, g = WU.heap.size := ⟨_, rfl⟩
            have hgyr : wr.heap.size ≤ WU.heap.size := Nat.le_trans H9.out.size GA0
            have gyU : WU.heap.size ≤ gy := by rw [hgy]; exact GA0
            rw [← hgy] at qn hgyr ⊢
            clear hgy GA0
            have QY := Lib.hid qn
            have hX := chain H9.out hR
            have HR := Lib.hid hR
            clear qn hR
            obtain ⟨c0, c1, c2, c3, c4⟩ := CI.out _ hX
            clear c0 c1 c2 c3
            go_wp2_with fail
            exact ⟨⟨j + 1, CX, lx, vx, hj1, by push_cast; rfl, hB.trans (hX.mono hg9le), Lib.hid ((hX.block _ hg9).trans Q9r.out), Lib.hid (SX.out.below hX), szx, HMx⟩, by simp [intOf]; omega⟩
    · have hex : ((decide ((j : Int) < (L.length : Int))) && (decide ((j : Int) < 12))) = false := by
        rw [Bool.and_eq_false_iff]; rcases Nat.lt_or_ge j L.length with q | q
        · right; exact decide_eq_false (by omega)
        · left; exact decide_eq_false (by omega)
      by_cases hlt : j < L.length
      · have hlti : (j : Int) < (L.length : Int) := by omega
        have d1 : decide ((j : Int) < 12) = false := decide_eq_false (by omega)
        have d2 : decide (j < 12) = false := decide_eq_false (by omega)
        clear hex hgo
        have q7 := (hB.block g7 (by omega)).trans Q7.out
        have Q7r := Lib.hid q7
        have h7 := Below.refl wr.heap.size wr
        clear q7
        have q3 := (hS.block _ (lt_of_block Q3.out)).trans Q3.out
        go_wp2_with ((with_reducible refine wpList_load_row (o := ⟨some 131, _, _, _, _, _⟩) rfl 26 (.tmp 3) rfl _ rfl _ CF (0, 0) _ q3 Tryd.underlying26 rfl hsF ?_))
        clear q3
        refine (GT.out _ hS).mono ?_
        rintro e v4 ⟨rfl, g⟩
        have hS := chain hS g
        have h7 := chain h7 g
        clear g
        have qb := heap_alloc_new v4 (.cells #[.string (str X.key), .int .i64 X.v.k, .int .i64 X.v.i, .string (str X.v.s), .int .i64 X.ver] 32 )
        have hS := hS.alloc hS.size (.cells #[.string (str X.key), .int .i64 X.v.k, .int .i64 X.v.i, .string (str X.v.s), .int .i64 X.ver] 32 )
        have h7 := h7.alloc h7.size (.cells #[.string (str X.key), .int .i64 X.v.k, .int .i64 X.v.i, .string (str X.v.s), .int .i64 X.ver] 32 )
        have q7 := (h7.block _ (lt_of_block Q7r.out)).trans Q7r.out
        go_wp2_with (first | ((with_reducible refine wpList_load_row (o := ⟨some 136, _, _, _, _, _⟩) rfl 32 (.tmp 19) rfl _ rfl _ #[.string (str X.key), .int .i64 X.v.k, .int .i64 X.v.i, .string (str X.v.s), .int .i64 X.ver] (0, 0) _ qb Tryd.underlying32 rfl infoI ?_)) | ((with_reducible refine wpList_load_row (o := ⟨some 137, _, _, _, _, _⟩) rfl 32 (.tmp 7) rfl _ rfl _ #[.string (str X.key), .int .i64 X.v.k, .int .i64 X.v.i, .string (str X.v.s), .int .i64 X.ver] (0, 0) _ q7 Tryd.underlying32 rfl infoI ?_)))
        clear qb
        clear q7
        refine (AW.out _ hS).mono ?_
        rintro e vz ⟨rfl, g⟩
        have hS := chain hS g
        have h7 := chain h7 g
        clear g
        go_wp2_with fail
        go_ret
        exact ⟨rfl, chain BW.out hS⟩
      · obtain rfl : j = L.length := by omega
        clear hex hgo
        have q7 := (hB.block g7 (by omega)).trans Q7.out
        have Q7r := Lib.hid q7
        have h7 := Below.refl wr.heap.size wr
        clear q7
        have q3 := (hS.block _ (lt_of_block Q3.out)).trans Q3.out
        go_wp2_with ((with_reducible refine wpList_load_row (o := ⟨some 131, _, _, _, _, _⟩) rfl 26 (.tmp 3) rfl _ rfl _ CF (0, 0) _ q3 Tryd.underlying26 rfl hsF ?_))
        clear q3
        refine (GT.out _ hS).mono ?_
        rintro e v4 ⟨rfl, g⟩
        have hS := chain hS g
        have h7 := chain h7 g
        clear g
        have qb := heap_alloc_new v4 (.cells #[.string (str X.key), .int .i64 X.v.k, .int .i64 X.v.i, .string (str X.v.s), .int .i64 X.ver] 32 )
        have hS := hS.alloc hS.size (.cells #[.string (str X.key), .int .i64 X.v.k, .int .i64 X.v.i, .string (str X.v.s), .int .i64 X.ver] 32 )
        have h7 := h7.alloc h7.size (.cells #[.string (str X.key), .int .i64 X.v.k, .int .i64 X.v.i, .string (str X.v.s), .int .i64 X.ver] 32 )
        have q7 := (h7.block _ (lt_of_block Q7r.out)).trans Q7r.out
        go_wp2_with (first | ((with_reducible refine wpList_load_row (o := ⟨some 136, _, _, _, _, _⟩) rfl 32 (.tmp 19) rfl _ rfl _ #[.string (str X.key), .int .i64 X.v.k, .int .i64 X.v.i, .string (str X.v.s), .int .i64 X.ver] (0, 0) _ qb Tryd.underlying32 rfl infoI ?_)) | ((with_reducible refine wpList_load_row (o := ⟨some 137, _, _, _, _, _⟩) rfl 32 (.tmp 7) rfl _ rfl _ #[.string (str X.key), .int .i64 X.v.k, .int .i64 X.v.i, .string (str X.v.s), .int .i64 X.ver] (0, 0) _ q7 Tryd.underlying32 rfl infoI ?_)))
        clear qb
        clear q7
        refine (AW.out _ hS).mono ?_
        rintro e vz ⟨rfl, g⟩
        have hS := chain hS g
        have h7 := chain h7 g
        clear g
        go_wp2_with fail
        go_ret
        exact ⟨rfl, chain BW.out hS⟩
end Go.Proofs.YtmjedjhkhjiigaaDoor
