/- Trunks: the law TrunkTells. Written by wip/tools/gen10t.py. -/
import Derived.Test.YtmjedjhkhjiigaaDoorQTTC47
namespace Go.Proofs.YtmjedjhkhjiigaaDoor
open Go Go.RowKit
set_option linter.unusedVariables false
set_option linter.unusedSimpArgs false
set_option maxRecDepth 100000 in
set_option maxHeartbeats 1000000 in
theorem tells_no (cs : Array Value) (lv : Nat → List It) (vs : Nat → Int) (k : List UInt8) (w : World) (tab : TabAt w) (h : RdT w cs lv vs) (hsz : SzT lv) (hwf : WfT lv) (hk : k.length ≤ maxLen)
    (hm : mayTs (fun b => fewL (lv b)) vs 16 = false) :
    Calls Tryd.prog 3 #[.agg cs, .string (str k)] w fun e w' => e = .returned (.bool true) ∧ Below w.heap.size w w' := by
  have TAB := Lib.hid tab
  have hs0 := infoTc h.size
  have z0 := zeroT_run
  have z1 := zT_ne
  obtain ⟨ks, hks⟩ : ∃ ks, ks = k.take 60 := ⟨_, rfl⟩
  have SH := fun W => short10_any k W hk
  have kk : ks.length ≤ maxLen := by rw [hks]; exact Nat.le_trans (List.length_take_le _ _) (by decide)
  rw [← hks] at SH
  have SHH := Lib.hid SH
  obtain ⟨lF, hlF⟩ : ∃ lF, lF = fun b => fewL (lv b) := ⟨_, rfl⟩
  have szF : SzT lF := by rw [hlF]; exact fewT_sz lv
  have wfF : WfT lF := by rw [hlF]; exact fewT_wf hwf
  have lenF : ∀ b, b < 16 → (lF b).length ≤ 100 := by rw [hlF]; exact fewT_len lv
  have q2 := heap_alloc_new w (.cells cs 26)
  have bel := (Below.refl w.heap.size w).alloc (Nat.le_refl _) (.cells cs 26)
  have FW0 := few10_any cs lv vs _ (h.below bel (Nat.le_refl _)) hsz
  unfold FewP at FW0
  rw [← hlF] at FW0 hm
  have FW := Lib.hid FW0
  have hsz0 := h.size
  clear h hsz tab hlF FW0 SH hks hwf
  go_enter Tryd.func3, Tryd.ntmps3
  go_wp2_with ((with_reducible refine wpList_load_row (o := ⟨some 12, _, _, _, _, _⟩) rfl 26 (.tmp 2) rfl _ rfl _ cs (0, 0) _ q2 Tryd.underlying26 rfl hs0 ?_))
  refine FW.out.mono ?_
  rintro e v1 ⟨CF, rfl, own, g⟩
  have hl0 : w.heap.size + 1 = (w.alloc (.cells cs 26)).heap.size := by simp
  rw [← hl0] at own
  have q2 := (g.block _ (lt_of_block q2)).trans q2
  have bel := chain bel g
  clear g hl0
  go_wp2_with fail
  refine (SHH.out _).mono ?_
  rintro e w' ⟨rfl, rfl⟩
  have hsF := infoTc own.size
  have hcF : cs.size = CF.size := by rw [own.size]; exact hsz0
  have hoF := own.rd.one
  go_wp2_with (first | ((with_reducible refine wpList_load_row (o := ⟨some 17, _, _, _, _, _⟩) rfl 26 (.tmp 2) rfl _ rfl _ CF (0, 0) _ q2 Tryd.underlying26 rfl hsF ?_)) | ((with_reducible refine wpList_store_row (o := ⟨none, _, _, _, _, _⟩) rfl 26 (.tmp 2) (.tmp 13) rfl _ CF rfl rfl _ cs q2 hsF hcF hoF ?_); (obtain ⟨WS, hWS⟩ : ∃ W, W = World.setRow v1 w.heap.size CF := ⟨_, rfl⟩); rw [← hWS]; (have q2 : WS.heap[w.heap.size]? = some (.cells CF 26 (0, 0)) := by rw [hWS]; exact setRow_heap _ _ _ CF _ _ q2); (have bel : Below w.heap.size w WS := by rw [hWS]; exact below_row bel (Nat.le_refl _) CF); (have own : OwnT (w.heap.size + 1) WS CF lF vs := by rw [hWS]; exact own.moved (fun k hk _ => by rw [setRow_other _ _ _ _ (by omega)])); clear hWS))
  have HT := Lib.hid own.rd
  have Q2 := Lib.hid q2
  have BW := Lib.hid bel
  have TS0 := Lib.hid (TAB.out.below bel)
  have hS := Below.refl WS.heap.size WS
  clear q2 bel own hcF
  have MY0 := fun W (g : Below WS.heap.size WS W) => tmay_any CF lF vs W (TS0.out.below g) (HT.out.below g (Nat.le_refl _)) szF
  have RM0 := fun W (g : Below WS.heap.size WS W) => refTmay_any CF lF vs W (TS0.out.below g) (HT.out.below g (Nat.le_refl _)) szF lenF
  rw [hm] at MY0 RM0
  have MY := Lib.hid MY0
  have RM := Lib.hid RM0
  have AW := Lib.hid (fun W (g : Below WS.heap.size WS W) => awake10_any W (TS0.out.below g))
  have CT0 := fun W (g : Below WS.heap.size WS W) => count_any CF lF vs W (TS0.out.below g) (HT.out.below g (Nat.le_refl _)) szF lenF
  have WT0 := fun W (g : Below WS.heap.size WS W) => tweight_any CF lF vs W (TS0.out.below g) (HT.out.below g (Nat.le_refl _)) szF wfF
  have GT0 := fun W (g : Below WS.heap.size WS W) => tget_any CF lF vs ks W (TS0.out.below g) (HT.out.below g (Nat.le_refl _)) szF kk
  rw [show tGet lF vs ks = .tuple #[.agg #[.string (str []), .int .i64 0, .int .i64 0, .string (str []), .int .i64 0], .bool false] from tGet_no hm] at GT0
  rw [show sumT List.length lF vs = 0 by unfold sumT; rw [hm]; rfl] at CT0
  rw [show sumT weightL lF vs = 0 by unfold sumT; rw [hm]; rfl] at WT0
  have GT := Lib.hid GT0
  have CT := Lib.hid CT0
  have WT := Lib.hid WT0
  have VE : ∀ w, (binOp .eql 32 (.agg #[.string (str []), .int .i64 0, .int .i64 0, .string (str []), .int .i64 0]) (.agg #[.string (ByteArray.mk #[]), .int .i64 0, .int .i64 0, .string (ByteArray.mk #[]), .int .i64 0])).run Tryd.prog w = .ok (.bool true) w := fun w => it_eq_same zI w
  clear MY0 RM0 CT0 WT0 GT0 lenF
  refine (GT.out _ hS).mono ?_
  rintro e v2 ⟨rfl, g⟩
  have hS := chain hS g
  clear g
  have q5 := heap_alloc_new v2 (.cells #[.string (str []), .int .i64 0, .int .i64 0, .string (str []), .int .i64 0] 32 )
  have hS := hS.alloc hS.size (.cells #[.string (str []), .int .i64 0, .int .i64 0, .string (str []), .int .i64 0] 32 )
  go_wp2_with fail
  obtain ⟨W5, hW5⟩ : ∃ W, W = v2.alloc (.cells #[.string (str []), .int .i64 0, .int .i64 0, .string (str []), .int .i64 0] 32 ) := ⟨_, rfl⟩
  rw [← hW5] at q5 hS ⊢
  clear hW5
  have Q5 := Lib.hid q5
  have h5 := Below.refl W5.heap.size W5
  have q2 := (hS.block _ (lt_of_block Q2.out)).trans Q2.out
  clear q5
  refine g_start (by kernel_rfl) ?_
  refine g_take (i := 0) (d := (some 22)) (v := ?_) rfl rfl (by kernel_rfl) (fun _ _ _ h => h) (by rfl) (fun w' hb' => ?_) ?_
  rotate_left
  · (refine load_row_op _ _ (.tmp 2) ?_ ?_ ((hb'.block _ (lt_of_block q2)).trans q2) Tryd.underlying26 ?_ hsF <;> rfl); (try go_simp); (try with_reducible rfl)
  try simp only [Act.put, List.setIfInBounds_toArray, List.set_cons_zero, List.set_cons_succ]
  refine g_take (i := 2) (d := (some 24)) (v := ?_) rfl rfl (by kernel_rfl) (fun _ _ _ h => h) (by rfl) (fun w' hb' => ?_) ?_
  rotate_left
  · (refine load_row_op _ _ (.tmp 2) ?_ ?_ ((hb'.block _ (lt_of_block q2)).trans q2) Tryd.underlying26 ?_ hsF <;> rfl); (try go_simp); (try with_reducible rfl)
  try simp only [Act.put, List.setIfInBounds_toArray, List.set_cons_zero, List.set_cons_succ]
  refine g_run (i := 1) rfl (by kernel_rfl) (by rfl) (fun K hK => ?_)
  go_simp; refine (MY.out _ (Below.drew hS)).mono ?_; rintro e u1 ⟨rfl, gg⟩; have hS := chain (Below.drew hS) gg; have h5 := chain (Below.drew h5) gg; have q2 := (gg.block _ (lt_of_block q2)).trans q2; refine hK _ _ ⟨gg, ?_⟩; clear hK K gg
  try simp only [Act.put, List.setIfInBounds_toArray, List.set_cons_zero, List.set_cons_succ]
  refine g_run (i := 3) rfl (by kernel_rfl) (by rfl) (fun K hK => ?_)
  go_simp; refine (RM.out _ hS).mono ?_; rintro e u3 ⟨rfl, gg⟩; have hS := chain hS gg; have h5 := chain h5 gg; have q2 := (gg.block _ (lt_of_block q2)).trans q2; refine hK _ _ ⟨gg, ?_⟩; clear hK K gg
  try simp only [Act.put, List.setIfInBounds_toArray, List.set_cons_zero, List.set_cons_succ]
  refine g_take (i := 4) (d := (some 26)) (v := ?_) rfl rfl (by kernel_rfl) (fun _ _ _ h => h) (by rfl) (fun w' hb' => ?_) ?_
  rotate_left
  · (try go_simp); (try with_reducible rfl)
  try simp only [Act.put, List.setIfInBounds_toArray, List.set_cons_zero, List.set_cons_succ]
  refine g_done (by kernel_rfl) ?_
  clear q2
  have q2 := (hS.block _ (lt_of_block Q2.out)).trans Q2.out
  go_wp2_with ((with_reducible refine wpList_load_row (o := ⟨some 27, _, _, _, _, _⟩) rfl 26 (.tmp 2) rfl _ rfl _ CF (0, 0) _ q2 Tryd.underlying26 rfl hsF ?_))
  clear q2
  refine (RM.out _ hS).mono ?_
  rintro e v6 ⟨rfl, g⟩
  have hS := chain hS g
  have h5 := chain h5 g
  clear g
  have q2 := (hS.block _ (lt_of_block Q2.out)).trans Q2.out
  have q5 := (h5.block _ (lt_of_block Q5.out)).trans Q5.out
  go_wp2_with (first | ((with_reducible refine wpList_load_row (o := ⟨some 30, _, _, _, _, _⟩) rfl 32 (.tmp 5) rfl _ rfl _ #[.string (str []), .int .i64 0, .int .i64 0, .string (str []), .int .i64 0] (0, 0) _ q5 Tryd.underlying32 rfl infoI ?_)) | ((with_reducible refine wpList_load_row_g (o := ⟨some 38, _, _, _, _, _⟩) ?_ 26 (.tmp 2) rfl _ rfl _ CF (0, 0) _ q2 Tryd.underlying26 rfl hsF ?_); rfl))
  clear q2 q5
  refine (CT.out _ hS).mono ?_
  rintro e v7 ⟨rfl, g⟩
  have hS := chain hS g
  have h5 := chain h5 g
  clear g
  have q2 := (hS.block _ (lt_of_block Q2.out)).trans Q2.out
  go_wp2_with ((with_reducible refine wpList_load_row_g (o := ⟨some 43, _, _, _, _, _⟩) ?_ 26 (.tmp 2) rfl _ rfl _ CF (0, 0) _ q2 Tryd.underlying26 rfl hsF ?_); rfl)
  clear q2
  refine (WT.out _ hS).mono ?_
  rintro e v8 ⟨rfl, g⟩
  have hS := chain hS g
  have h5 := chain h5 g
  clear g
  go_wp2_with fail
  refine (AW.out _ hS).mono ?_
  rintro e vz ⟨rfl, g⟩
  have hS := chain hS g
  go_wp2_with fail
  go_ret
  exact ⟨rfl, chain BW.out hS⟩
set_option maxRecDepth 100000 in
set_option maxHeartbeats 1000000 in
theorem tells_yes (cs : Array Value) (lv : Nat → List It) (vs : Nat → Int) (k : List UInt8) (w : World) (tab : TabAt w) (h : RdT w cs lv vs) (hsz : SzT lv) (hwf : WfT lv) (hk : k.length ≤ maxLen)
    (hm : mayTs (fun b => fewL (lv b)) vs 16 = true) :
    Calls Tryd.prog 3 #[.agg cs, .string (str k)] w fun e w' => e = .returned (.bool true) ∧ Below w.heap.size w w' := by
  have TAB := Lib.hid tab
  have hs0 := infoTc h.size
  have z0 := zeroT_run
  have z1 := zT_ne
  obtain ⟨ks, hks⟩ : ∃ ks, ks = k.take 60 := ⟨_, rfl⟩
  have SH := fun W => short10_any k W hk
  have kk : ks.length ≤ maxLen := by rw [hks]; exact Nat.le_trans (List.length_take_le _ _) (by decide)
  rw [← hks] at SH
  have SHH := Lib.hid SH
  obtain ⟨lF, hlF⟩ : ∃ lF, lF = fun b => fewL (lv b) := ⟨_, rfl⟩
  have szF : SzT lF := by rw [hlF]; exact fewT_sz lv
  have wfF : WfT lF := by rw [hlF]; exact fewT_wf hwf
  have lenF : ∀ b, b < 16 → (lF b).length ≤ 100 := by rw [hlF]; exact fewT_len lv
  have q2 := heap_alloc_new w (.cells cs 26)
  have bel := (Below.refl w.heap.size w).alloc (Nat.le_refl _) (.cells cs 26)
  have FW0 := few10_any cs lv vs _ (h.below bel (Nat.le_refl _)) hsz
  unfold FewP at FW0
  rw [← hlF] at FW0 hm
  have FW := Lib.hid FW0
  have hsz0 := h.size
  clear h hsz tab hlF FW0 SH hks hwf
  go_enter Tryd.func3, Tryd.ntmps3
  go_wp2_with ((with_reducible refine wpList_load_row (o := ⟨some 12, _, _, _, _, _⟩) rfl 26 (.tmp 2) rfl _ rfl _ cs (0, 0) _ q2 Tryd.underlying26 rfl hs0 ?_))
  refine FW.out.mono ?_
  rintro e v1 ⟨CF, rfl, own, g⟩
  have hl0 : w.heap.size + 1 = (w.alloc (.cells cs 26)).heap.size := by simp
  rw [← hl0] at own
  have q2 := (g.block _ (lt_of_block q2)).trans q2
  have bel := chain bel g
  clear g hl0
  go_wp2_with fail
  refine (SHH.out _).mono ?_
  rintro e w' ⟨rfl, rfl⟩
  have hsF := infoTc own.size
  have hcF : cs.size = CF.size := by rw [own.size]; exact hsz0
  have hoF := own.rd.one
  go_wp2_with (first | ((with_reducible refine wpList_load_row (o := ⟨some 17, _, _, _, _, _⟩) rfl 26 (.tmp 2) rfl _ rfl _ CF (0, 0) _ q2 Tryd.underlying26 rfl hsF ?_)) | ((with_reducible refine wpList_store_row (o := ⟨none, _, _, _, _, _⟩) rfl 26 (.tmp 2) (.tmp 13) rfl _ CF rfl rfl _ cs q2 hsF hcF hoF ?_); (obtain ⟨WS, hWS⟩ : ∃ W, W = World.setRow v1 w.heap.size CF := ⟨_, rfl⟩); rw [← hWS]; (have q2 : WS.heap[w.heap.size]? = some (.cells CF 26 (0, 0)) := by rw [hWS]; exact setRow_heap _ _ _ CF _ _ q2); (have bel : Below w.heap.size w WS := by rw [hWS]; exact below_row bel (Nat.le_refl _) CF); (have own : OwnT (w.heap.size + 1) WS CF lF vs := by rw [hWS]; exact own.moved (fun k hk _ => by rw [setRow_other _ _ _ _ (by omega)])); clear hWS))
  have HT := Lib.hid own.rd
  have Q2 := Lib.hid q2
  have BW := Lib.hid bel
  have TS0 := Lib.hid (TAB.out.below bel)
  have hS := Below.refl WS.heap.size WS
  clear q2 bel own hcF
  have MY0 := fun W (g : Below WS.heap.size WS W) => tmay_any CF lF vs W (TS0.out.below g) (HT.out.below g (Nat.le_refl _)) szF
  have RM0 := fun W (g : Below WS.heap.size WS W) => refTmay_any CF lF vs W (TS0.out.below g) (HT.out.below g (Nat.le_refl _)) szF lenF
  rw [hm] at MY0 RM0
  have MY := Lib.hid MY0
  have RM := Lib.hid RM0
  have AW := Lib.hid (fun W (g : Below WS.heap.size WS W) => awake10_any W (TS0.out.below g))
  have CT0 := fun W (g : Below WS.heap.size WS W) => count_any CF lF vs W (TS0.out.below g) (HT.out.below g (Nat.le_refl _)) szF lenF
  have WT0 := fun W (g : Below WS.heap.size WS W) => tweight_any CF lF vs W (TS0.out.below g) (HT.out.below g (Nat.le_refl _)) szF wfF
  have GT0 := fun W (g : Below WS.heap.size WS W) => tget_any CF lF vs ks W (TS0.out.below g) (HT.out.below g (Nat.le_refl _)) szF kk
  obtain ⟨X, hX⟩ : ∃ X, X = gTI lF ks := ⟨_, rfl⟩
  obtain ⟨Y, hY⟩ : ∃ Y, Y = gTB lF ks := ⟨_, rfl⟩
  rw [show tGet lF vs ks = .tuple #[itV X, .bool Y] by unfold tGet tI tB; rw [hm, hX, hY]; simp] at GT0
  obtain ⟨L, hL⟩ : ∃ L, L = allN lF 16 := ⟨_, rfl⟩
  rw [show sumT List.length lF vs = L.length by unfold sumT; rw [hm, if_pos rfl, sum_len, hL]] at CT0
  rw [show sumT weightL lF vs = wtL L by unfold sumT; rw [hm, if_pos rfl, sum_wt 16 (fun b hb => isT hm hb), hL]] at WT0
  have AL0 := fun W (g : Below WS.heap.size WS W) => all_any CF lF vs W (HT.out.below g (Nat.le_refl _)) lenF
  rw [← hL] at AL0
  have RG0 := fun W (g : Below WS.heap.size WS W) => refGet10_any CF lF vs ks W (HT.out.below g (Nat.le_refl _)) hm
  rw [← hX, ← hY] at RG0
  have L16 : L.length ≤ 1600 := by rw [hL]; exact allN_len 16 lenF
  have HME := Lib.hid (show ∀ x ∈ L, mayI x = true ∧ x.v.s.length ≤ maxLen ∧ I64 x.v.i from fun x hx => by
    rw [hL] at hx
    obtain ⟨b, hb, hx⟩ := mem_allN hx
    exact ⟨isL_may (isT hm hb) x hx, (szF b hb x hx).2, wfF b hb x hx⟩)
  have VE := fun W => it_eq_same X W
  unfold itV at GT0 RG0 VE
  have GT := Lib.hid GT0
  have CT := Lib.hid CT0
  have WT := Lib.hid WT0
  have AL := Lib.hid AL0
  have RG := Lib.hid RG0
  clear MY0 RM0 CT0 WT0 GT0 AL0 RG0 lenF hX hY hL
  refine (GT.out _ hS).mono ?_
  rintro e v2 ⟨rfl, g⟩
  have hS := chain hS g
  clear g
  have q5 := heap_alloc_new v2 (.cells #[.string (str X.key), .int .i64 X.v.k, .int .i64 X.v.i, .string (str X.v.s), .int .i64 X.ver] 32 )
  have hS := hS.alloc hS.size (.cells #[.string (str X.key), .int .i64 X.v.k, .int .i64 X.v.i, .string (str X.v.s), .int .i64 X.ver] 32 )
  go_wp2_with fail
  obtain ⟨W5, hW5⟩ : ∃ W, W = v2.alloc (.cells #[.string (str X.key), .int .i64 X.v.k, .int .i64 X.v.i, .string (str X.v.s), .int .i64 X.ver] 32 ) := ⟨_, rfl⟩
  rw [← hW5] at q5 hS ⊢
  clear hW5
  have Q5 := Lib.hid q5
  have h5 := Below.refl W5.heap.size W5
  have q2 := (hS.block _ (lt_of_block Q2.out)).trans Q2.out
  clear q5
  refine g_start (by kernel_rfl) ?_
  refine g_take (i := 0) (d := (some 22)) (v := ?_) rfl rfl (by kernel_rfl) (fun _ _ _ h => h) (by rfl) (fun w' hb' => ?_) ?_
  rotate_left
  · (refine load_row_op _ _ (.tmp 2) ?_ ?_ ((hb'.block _ (lt_of_block q2)).trans q2) Tryd.underlying26 ?_ hsF <;> rfl); (try go_simp); (try with_reducible rfl)
  try simp only [Act.put, List.setIfInBounds_toArray, List.set_cons_zero, List.set_cons_succ]
  refine g_take (i := 2) (d := (some 24)) (v := ?_) rfl rfl (by kernel_rfl) (fun _ _ _ h => h) (by rfl) (fun w' hb' => ?_) ?_
  rotate_left
  · (refine load_row_op _ _ (.tmp 2) ?_ ?_ ((hb'.block _ (lt_of_block q2)).trans q2) Tryd.underlying26 ?_ hsF <;> rfl); (try go_simp); (try with_reducible rfl)
  try simp only [Act.put, List.setIfInBounds_toArray, List.set_cons_zero, List.set_cons_succ]
  refine g_run (i := 1) rfl (by kernel_rfl) (by rfl) (fun K hK => ?_)
  go_simp; refine (MY.out _ (Below.drew hS)).mono ?_; rintro e u1 ⟨rfl, gg⟩; have hS := chain (Below.drew hS) gg; have h5 := chain (Below.drew h5) gg; have q2 := (gg.block _ (lt_of_block q2)).trans q2; refine hK _ _ ⟨gg, ?_⟩; clear hK K gg
  try simp only [Act.put, List.setIfInBounds_toArray, List.set_cons_zero, List.set_cons_succ]
  refine g_run (i := 3) rfl (by kernel_rfl) (by rfl) (fun K hK => ?_)
  go_simp; refine (RM.out _ hS).mono ?_; rintro e u3 ⟨rfl, gg⟩; have hS := chain hS gg; have h5 := chain h5 gg; have q2 := (gg.block _ (lt_of_block q2)).trans q2; refine hK _ _ ⟨gg, ?_⟩; clear hK K gg
  try simp only [Act.put, List.setIfInBounds_toArray, List.set_cons_zero, List.set_cons_succ]
  refine g_take (i := 4) (d := (some 26)) (v := ?_) rfl rfl (by kernel_rfl) (fun _ _ _ h => h) (by rfl) (fun w' hb' => ?_) ?_
  rotate_left
  · (try go_simp); (try with_reducible rfl)
  try simp only [Act.put, List.setIfInBounds_toArray, List.set_cons_zero, List.set_cons_succ]
  refine g_done (by kernel_rfl) ?_
  clear q2
  have q2 := (hS.block _ (lt_of_block Q2.out)).trans Q2.out
  go_wp2_with ((with_reducible refine wpList_load_row (o := ⟨some 27, _, _, _, _, _⟩) rfl 26 (.tmp 2) rfl _ rfl _ CF (0, 0) _ q2 Tryd.underlying26 rfl hsF ?_))
  clear q2
  refine (RM.out _ hS).mono ?_
  rintro e v6 ⟨rfl, g⟩
  have hS := chain hS g
  have h5 := chain h5 g
  clear g
  have q2 := (hS.block _ (lt_of_block Q2.out)).trans Q2.out
  go_wp2_with ((with_reducible refine wpList_load_row (o := ⟨some 50, _, _, _, _, _⟩) rfl 26 (.tmp 2) rfl _ rfl _ CF (0, 0) _ q2 Tryd.underlying26 rfl hsF ?_))
  clear q2
  refine (AL.out _ hS).mono ?_
  rintro e v7 ⟨vl, rfl, own, g⟩
  have hS := chain hS g
  have h5 := chain h5 g
  clear g
  have RDL0 := OwnI.rd (w := v7) own
  obtain ⟨al, cl, rfl, hc1, hc2, RDL1⟩ := RdK.open RDL0
  have RDL := Lib.hid (show RdI v7 (.slice al L.length cl) L from RDL1)
  clear RDL0 RDL1 own
  go_wp2_with fail
  go_loopw [8, 9] (fun z i wr => ∃ (j s : Nat), j ≤ L.length ∧ i = .int .i64 (j : Int) ∧ z = .int .i64 (s : Int) ∧ s ≤ 300 * j ∧ Hid (s = wtL (L.take j)) ∧ Below v7.heap.size v7 wr) (fun _ i _ => 2000 - (intOf i).toNat)
  case atStart => exact ⟨0, 0, Nat.zero_le _, rfl, rfl, Nat.le_refl _, rfl, Below.refl _ _⟩
  case round =>
    obtain ⟨j, s, hj, rfl, rfl, hs, HACC, bel⟩ := hrel
    by_cases hlt : j < L.length
    · have hr := RDL.out
      have R1 := hr.below bel (Nat.le_refl _)
      obtain ⟨b, off, rfl, hb, c0, c1, c2, c3, c4⟩ := rdi_cells R1 j hlt
      obtain ⟨x, hx⟩ : ∃ x, x = L[j]'hlt := ⟨_, rfl⟩
      rw [← hx] at c0 c1 c2 c3 c4
      obtain ⟨hmx, hxs, hxi⟩ := HME.out x (by rw [hx]; exact List.getElem_mem _)
      have hxk := may_key hmx
      have hmv := may_v hmx
      have hmx2 := encL_max x.v
      obtain ⟨n1, hn1⟩ : ∃ n1, n1 = x.key.length := ⟨_, rfl⟩
      obtain ⟨n2, hn2⟩ : ∃ n2, n2 = (V7.encL x.v).length := ⟨_, rfl⟩
      have z9 : (str x.key).size = n1 := by rw [hn1]; exact str_size _
      have HA2 := Lib.hid (show s + (n1 + n2) = wtL (L.take (j + 1)) by rw [wt_succ hlt, ← HACC.out, ← hx, hn1, hn2]; rfl)
      rw [← hn1] at hxk
      rw [← hn2] at hmx2
      have EN := Lib.hid (show ∀ w, Calls Tryd.prog 20 #[.agg #[.int .i64 x.v.k, .int .i64 x.v.i, .string (str x.v.s)]] w fun e w' => ∃ s9, e = .returned (.string s9) ∧ s9.size = n2 ∧ Below w.heap.size w w' by
        intro w
        refine (V7.refEncode_any x.v.k x.v.i x.v.s w hxs hxi hmv).mono ?_
        rintro e w9 ⟨rfl, b9⟩
        exact ⟨_, rfl, by rw [str_size, hn2], b9⟩)
      have E1 := Lib.hid (show IntKind.i64.wrap ((n1 : Int) + (n2 : Int)) = ((n1 + n2 : Nat) : Int) by rw [IntKind.wrap_i64]; omega)
      have E2 := Lib.hid (show IntKind.i64.wrap ((s : Int) + ((n1 + n2 : Nat) : Int)) = ((s + (n1 + n2) : Nat) : Int) by rw [IntKind.wrap_i64]; omega)
      have hs2 : s + (n1 + n2) ≤ 300 * (j + 1) := by omega
      clear hx hn1 hn2 hr R1 hxs hxi hmx hmv
      go_wp2_with fail
      refine g_start (by kernel_rfl) ?_
      refine g_take (i := 0) (d := (some 58)) (v := ?_) rfl rfl (by kernel_rfl) (fun _ _ _ h => h) (by rfl) (fun w' hb' => ?_) ?_
      rotate_left
      · (try go_simp); (try with_reducible rfl)
      try simp only [Act.put, List.setIfInBounds_toArray, List.set_cons_zero, List.set_cons_succ]
      refine g_take (i := 1) (d := (some 59)) (v := ?_) rfl rfl (by kernel_rfl) (fun _ _ _ h => h) (by rfl) (fun w' hb' => ?_) ?_
      rotate_left
      · (try go_simp); (try with_reducible rfl)
      try simp only [Act.put, List.setIfInBounds_toArray, List.set_cons_zero, List.set_cons_succ]
      refine g_take (i := 2) (d := (some 60)) (v := ?_) rfl rfl (by kernel_rfl) (fun _ _ _ h => h) (by rfl) (fun w' hb' => ?_) ?_
      rotate_left
      · (try go_simp); (try with_reducible rfl)
      try simp only [Act.put, List.setIfInBounds_toArray, List.set_cons_zero, List.set_cons_succ]
      refine g_take (i := 3) (d := (some 61)) (v := ?_) rfl rfl (by kernel_rfl) (fun _ _ _ h => h) (by rfl) (fun w' hb' => ?_) ?_
      rotate_left
      · (try go_simp); (try with_reducible rfl)
      try simp only [Act.put, List.setIfInBounds_toArray, List.set_cons_zero, List.set_cons_succ]
      refine g_take (i := 4) (d := (some 62)) (v := ?_) rfl rfl (by kernel_rfl) (fun _ _ _ h => h) (by rfl) (fun w' hb' => ?_) ?_
      rotate_left
      · (try go_simp); (try with_reducible rfl)
      try simp only [Act.put, List.setIfInBounds_toArray, List.set_cons_zero, List.set_cons_succ]
      refine g_take (i := 5) (d := (some 63)) (v := ?_) rfl rfl (by kernel_rfl) (fun _ _ _ h => h) (by rfl) (fun w' hb' => ?_) ?_
      rotate_left
      · have c0 := (hb'.cell (p := ⟨b, off + j * 5, none⟩) hb).trans c0; have c1 := (hb'.cell (p := ⟨b, off + j * 5 + 1, none⟩) hb).trans c1; have c2 := (hb'.cell (p := ⟨b, off + j * 5 + 2, none⟩) hb).trans c2; have c3 := (hb'.cell (p := ⟨b, off + j * 5 + 3, none⟩) hb).trans c3; have c4 := (hb'.cell (p := ⟨b, off + j * 5 + 4, none⟩) hb).trans c4; (try go_simp); (try with_reducible rfl)
      try simp only [Act.put, List.setIfInBounds_toArray, List.set_cons_zero, List.set_cons_succ]
      refine g_take (i := 6) (d := (some 64)) (v := ?_) rfl rfl (by kernel_rfl) (fun _ _ _ h => h) (by rfl) (fun w' hb' => ?_) ?_
      rotate_left
      · (try go_simp); (try with_reducible rfl)
      try simp only [Act.put, List.setIfInBounds_toArray, List.set_cons_zero, List.set_cons_succ]
      refine g_take (i := 7) (d := (some 65)) (v := ?_) rfl rfl (by kernel_rfl) (fun _ _ _ h => h) (by rfl) (fun w' hb' => ?_) ?_
      rotate_left
      · (try go_simp); (try with_reducible rfl)
      try simp only [Act.put, List.setIfInBounds_toArray, List.set_cons_zero, List.set_cons_succ]
      refine g_take (i := 8) (d := (some 66)) (v := ?_) rfl rfl (by kernel_rfl) (fun _ _ _ h => h) (by rfl) (fun w' hb' => ?_) ?_
      rotate_left
      · (try go_simp); (try with_reducible rfl)
      try simp only [Act.put, List.setIfInBounds_toArray, List.set_cons_zero, List.set_cons_succ]
      refine g_take (i := 9) (d := (some 67)) (v := ?_) rfl rfl (by kernel_rfl) (fun _ _ _ h => h) (by rfl) (fun w' hb' => ?_) ?_
      rotate_left
      · (try go_simp); (try with_reducible rfl)
      try simp only [Act.put, List.setIfInBounds_toArray, List.set_cons_zero, List.set_cons_succ]
      refine g_take (i := 10) (d := (some 68)) (v := ?_) rfl rfl (by kernel_rfl) (fun _ _ _ h => h) (by rfl) (fun w' hb' => ?_) ?_
      rotate_left
      · (try go_simp); (try with_reducible rfl)
      try simp only [Act.put, List.setIfInBounds_toArray, List.set_cons_zero, List.set_cons_succ]
      refine g_take (i := 11) (d := (some 69)) (v := ?_) rfl rfl (by kernel_rfl) (fun _ _ _ h => h) (by rfl) (fun w' hb' => ?_) ?_
      rotate_left
      · have c0 := (hb'.cell (p := ⟨b, off + j * 5, none⟩) hb).trans c0; have c1 := (hb'.cell (p := ⟨b, off + j * 5 + 1, none⟩) hb).trans c1; have c2 := (hb'.cell (p := ⟨b, off + j * 5 + 2, none⟩) hb).trans c2; have c3 := (hb'.cell (p := ⟨b, off + j * 5 + 3, none⟩) hb).trans c3; have c4 := (hb'.cell (p := ⟨b, off + j * 5 + 4, none⟩) hb).trans c4; (try go_simp); (try with_reducible rfl)
      try simp only [Act.put, List.setIfInBounds_toArray, List.set_cons_zero, List.set_cons_succ]
      refine g_run (i := 12) rfl (by kernel_rfl) (by rfl) (fun K hK => ?_)
      go_simp; refine (EN.out _).mono ?_; rintro e w9 ⟨s9, rfl, hs9, b9⟩; have l9 : (s9.size : Int) = (n2 : Int) := (by rw [hs9]); refine hK _ _ ⟨b9, ?_⟩; clear hK K
      try simp only [Act.put, List.setIfInBounds_toArray, List.set_cons_zero, List.set_cons_succ]
      refine g_take (i := 13) (d := (some 71)) (v := ?_) rfl rfl (by kernel_rfl) (fun _ _ _ h => h) (by rfl) (fun w' hb' => ?_) ?_
      rotate_left
      · (try go_simp); (try with_reducible rfl)
      try simp only [Act.put, List.setIfInBounds_toArray, List.set_cons_zero, List.set_cons_succ]
      refine g_take (i := 14) (d := (some 72)) (v := ?_) rfl rfl (by kernel_rfl) (fun _ _ _ h => h) (by rfl) (fun w' hb' => ?_) ?_
      rotate_left
      · have e1 := E1.out; (try go_simp); (try with_reducible rfl)
      try simp only [Act.put, List.setIfInBounds_toArray, List.set_cons_zero, List.set_cons_succ]
      refine g_take (i := 15) (d := (some 73)) (v := ?_) rfl rfl (by kernel_rfl) (fun _ _ _ h => h) (by rfl) (fun w' hb' => ?_) ?_
      rotate_left
      · have e1 := E1.out; have e2 := E2.out; (try go_simp); (try with_reducible rfl)
      try simp only [Act.put, List.setIfInBounds_toArray, List.set_cons_zero, List.set_cons_succ]
      refine g_take (i := 16) (d := (some 8)) (v := ?_) rfl rfl (by kernel_rfl) (fun _ _ _ h => h) (by rfl) (fun w' hb' => ?_) ?_
      rotate_left
      · (try go_simp); (try with_reducible rfl)
      try simp only [Act.put, List.setIfInBounds_toArray, List.set_cons_zero, List.set_cons_succ]
      refine g_done (by kernel_rfl) ?_
      go_wp2_with fail
      exact ⟨⟨j + 1, s + (n1 + n2), by omega, by push_cast; rfl, by have h := E2.out; push_cast at h ⊢; rw [h], hs2, HA2, chain (bel.drew) b9⟩, by simp [intOf]; omega⟩
    · obtain rfl : j = L.length := by omega
      have e9 : s = wtL L := by rw [HACC.out, List.take_length]
      have WT1 := WT.out
      rw [← e9] at WT1
      have WT := Lib.hid WT1
      clear e9 WT1
      have hS := chain hS bel
      have h5 := chain h5 bel
      clear bel
      have q2 := (hS.block _ (lt_of_block Q2.out)).trans Q2.out
      go_wp2_with ((with_reducible refine wpList_load_row (o := ⟨some 75, _, _, _, _, _⟩) rfl 26 (.tmp 2) rfl _ rfl _ CF (0, 0) _ q2 Tryd.underlying26 rfl hsF ?_))
      clear q2
      refine (RG.out _ hS).mono ?_
      rintro e va ⟨rfl, g⟩
      have hS := chain hS g
      have h5 := chain h5 g
      clear g
      have qb := heap_alloc_new va (.cells #[.string (str X.key), .int .i64 X.v.k, .int .i64 X.v.i, .string (str X.v.s), .int .i64 X.ver] 32 )
      have hS := hS.alloc hS.size (.cells #[.string (str X.key), .int .i64 X.v.k, .int .i64 X.v.i, .string (str X.v.s), .int .i64 X.ver] 32 )
      have h5 := h5.alloc h5.size (.cells #[.string (str X.key), .int .i64 X.v.k, .int .i64 X.v.i, .string (str X.v.s), .int .i64 X.ver] 32 )
      have q2 := (hS.block _ (lt_of_block Q2.out)).trans Q2.out
      have q5 := (h5.block _ (lt_of_block Q5.out)).trans Q5.out
      go_wp2_with (first | ((with_reducible refine wpList_load_row (o := ⟨some 80, _, _, _, _, _⟩) rfl 32 (.tmp 5) rfl _ rfl _ #[.string (str X.key), .int .i64 X.v.k, .int .i64 X.v.i, .string (str X.v.s), .int .i64 X.ver] (0, 0) _ q5 Tryd.underlying32 rfl infoI ?_)) | ((with_reducible refine wpList_load_row (o := ⟨some 81, _, _, _, _, _⟩) rfl 32 (.tmp 10) rfl _ rfl _ #[.string (str X.key), .int .i64 X.v.k, .int .i64 X.v.i, .string (str X.v.s), .int .i64 X.ver] (0, 0) _ qb Tryd.underlying32 rfl infoI ?_)) | ((with_reducible refine wpList_load_row_g (o := ⟨some 89, _, _, _, _, _⟩) ?_ 26 (.tmp 2) rfl _ rfl _ CF (0, 0) _ q2 Tryd.underlying26 rfl hsF ?_); rfl))
      clear qb
      clear q2 q5
      refine (CT.out _ hS).mono ?_
      rintro e vc ⟨rfl, g⟩
      have hS := chain hS g
      have h5 := chain h5 g
      clear g
      have q2 := (hS.block _ (lt_of_block Q2.out)).trans Q2.out
      go_wp2_with ((with_reducible refine wpList_load_row_g (o := ⟨some 96, _, _, _, _, _⟩) ?_ 26 (.tmp 2) rfl _ rfl _ CF (0, 0) _ q2 Tryd.underlying26 rfl hsF ?_); rfl)
      clear q2
      refine (WT.out _ hS).mono ?_
      rintro e vd ⟨rfl, g⟩
      have hS := chain hS g
      have h5 := chain h5 g
      clear g
      go_wp2_with fail
      refine (AW.out _ hS).mono ?_
      rintro e vz ⟨rfl, g⟩
      have hS := chain hS g
      go_wp2_with fail
      go_ret
      exact ⟨rfl, chain BW.out hS⟩
theorem tells_row (cs : Array Value) (lv : Nat → List It) (vs : Nat → Int) (k : List UInt8) (w : World) (h : RdT w cs lv vs) (hsz : SzT lv) (hwf : WfT lv) (hk : k.length ≤ maxLen) (tab : TabAt w) :
    Calls Tryd.prog 3 #[.agg cs, .string (str k)] w fun e w' => e = .returned (.bool true) ∧ Below w.heap.size w w' := by
  cases hm : mayTs (fun b => fewL (lv b)) vs 16 with
  | false => exact tells_no cs lv vs k w tab h hsz hwf hk hm
  | true => exact tells_yes cs lv vs k w tab h hsz hwf hk hm
end Go.Proofs.YtmjedjhkhjiigaaDoor
