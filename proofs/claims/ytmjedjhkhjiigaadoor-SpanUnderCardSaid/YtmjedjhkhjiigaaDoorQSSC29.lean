/- A region whose order is open and that ends in a chain of stores: behind operation number n nothing is asked of the world. -/
/- Trunks: the law TrunkDoes. Written by wip/tools/gen10n.py. -/
import Derived.Test.YtmjedjhkhjiigaaDoorQSSC25
import Derived.Test.YtmjedjhkhjiigaaDoorQSSC28
namespace Go.Proofs.YtmjedjhkhjiigaaDoor
open Go.RowKit
set_option linter.unusedVariables false
section
variable {P : Program} {ops : Array Oper} {Q : Exit → Act → World → Prop} {n : Nat}
/-- What is left of the region, whatever was asked of the world ahead. -/
def wpO (P : Program) (ops : Array Oper) (n : Nat) (Q : Exit → Act → World → Prop) (f : Nat) (l : Array Bool) (a : Act) (w : World) : Prop :=
  ∀ S : World → Prop, orders P .any ops n Q S f l a w
theorem t_tail {i : Nat} {oi : Oper} {f : Nat} {l : Array Bool} {a : Act} {w : World} (hi : ops[i]? = some oi) (hr : Region.ready .any ops l = [i]) (hin : decide (n ≤ i) = true) (hw : Region.wanted oi (yielded ops a.tmps) = true)
    (h : ∀ K : Act → World → Prop, (∀ a' w', wpO P ops n Q f (l.setIfInBounds i true) a' w' → K a' w') → oi.wp P a w K Q) : wpO P ops n Q (f + 1) l a w := by
  intro S
  refine ⟨fun e => (by rw [hr] at e; cases e), ?_⟩
  intro j hj
  rw [hr, List.mem_singleton] at hj
  subst hj
  unfold wpOp
  simp only [hi, hw, if_true]
  exact .inl (h _ fun a' w' k => ⟨fun hlt => absurd hlt (Nat.not_lt_of_le (of_decide_eq_true hin)), k S⟩)
theorem t_into {f : Nat} {l : Array Bool} {a : Act} {w : World} (h : wpO P ops n Q f l a w) : wpT P ops n Q f l a w := fun _ => h _
theorem t_over {f : Nat} {l : Array Bool} {a : Act} {w : World} (hr : Region.ready .any ops l = []) (h : Q .normal a w) : wpO P ops n Q f l a w := by
  intro S
  cases f with
  | zero => exact ⟨hr, h⟩
  | succ f => exact ⟨fun _ => h, by rw [hr]; simp⟩
end
end Go.Proofs.YtmjedjhkhjiigaaDoor
namespace Go.Proofs.YtmjedjhkhjiigaaDoor
open Go Go.RowKit
set_option linter.unusedVariables false
set_option linter.unusedSimpArgs false
theorem infoI {a b c d e : Value} : (Tryd.prog.info? 32).map (·.size) = some (#[a, b, c, d, e] : Array Value).size := by kernel_rfl
theorem itc_one (x : It) : ((#[.string (str x.key), .int .i64 x.v.k, .int .i64 x.v.i, .string (str x.v.s), .int .i64 x.ver] : Array Value)).all (·.oneCell') = true := by simp [Value.oneCell']
theorem none_yes (cs : Array Value) (w : World) (h : RdT w cs (fun _ => []) (fun _ => 0)) :
    Calls Tryd.prog 26 #[.agg cs] w fun e w' => e = .returned (.bool true) ∧ Below w.heap.size w w' := by
  have hs := infoTc h.size
  have z0 := zeroT_run
  have z1 := zT_ne
  have q1 := heap_alloc_new w (.cells cs 26)
  have bel := (Below.refl w.heap.size w).alloc (Nat.le_refl _) (.cells cs 26)
  have SM := Lib.hid (tsame_yes cs zT (fun _ => []) (fun _ => 0) _ (h.below bel (Nat.le_refl _)) (rdt_zero _) (fun _ _ => Nat.zero_le _))
  clear h
  go_enter Tryd.func26, Tryd.ntmps26
  go_wp2_with ((with_reducible refine wpList_load_row (o := ⟨some 3, _, _, _, _, _⟩) rfl 26 (.tmp 1) rfl _ rfl _ cs (0, 0) _ q1 Tryd.underlying26 rfl hs ?_))
  refine SM.out.mono ?_
  rintro e w1 ⟨rfl, g⟩
  have bel := chain bel g
  go_wp2_with fail
  go_ret
  exact ⟨rfl, bel⟩
theorem TrA.mk {w0 w w' : World} {cs : Array Value} {lv : Nat → List It} {vs : Nat → Int} {c : Nat} {e : Ending} (h : TrA w0.heap.size w lv vs c e w') : ∃ cs, e = .returned (.tuple #[.agg cs, .int .i64 (c : Int)]) ∧ cs.size = 32 ∧ cs.all (·.oneCell') = true ∧ Hid (∀ w'', w'.heap.size ≤ w''.heap.size → (∀ g, g < w'.heap.size → (g < w0.heap.size ∨ w.heap.size ≤ g) → w''.heap[g]? = w'.heap[g]?) → RdT w'' cs lv vs) ∧ Below w.heap.size w w' := h
set_option maxRecDepth 100000 in
set_option maxHeartbeats 1000000 in
theorem does_no (cs : Array Value) (lv : Nat → List It) (vs : Nat → Int) (x : It) (ver : Int) (w : World) (tab : TabAt w) (h : RdT w cs lv vs) (hsz : SzT lv) (hxk : x.key.length ≤ maxLen) (hxs : x.v.s.length ≤ maxLen)
    (hp1 : pLv (fun b => fewL (lv b)) vs (oneI x) = fun _ => []) (hp2 : pVs (fun b => fewL (lv b)) vs (oneI x) = fun _ => 0) (hp3 : putTE (fun b => fewL (lv b)) vs (oneI x) = 1)
    (hd1 : dLv (fun b => fewL (lv b)) vs (oneI x).key ver = fun _ => []) (hd2 : dVs (fun b => fewL (lv b)) vs (oneI x).key ver = fun _ => 0) (hd3 : delTE (fun b => fewL (lv b)) vs (oneI x).key ver = 1)
    (hm : mayTs (fun b => fewL (lv b)) vs 16 = false) :
    Calls Tryd.prog 4 #[.agg cs, itV x, .int .i64 ver] w fun e w' => e = .returned (.bool true) ∧ Below w.heap.size w w' := by
  have TAB := Lib.hid tab
  have hs0 := infoTc h.size
  have z0 := zeroT_run
  have z1 := zT_ne
  obtain ⟨xF, hxF⟩ : ∃ xF, xF = oneI x := ⟨_, rfl⟩
  have ON := fun W => one10_any x W hxk hxs
  have kF : xF.key.length ≤ maxLen := by rw [hxF]; exact Nat.le_trans (List.length_take_le _ _) (by decide)
  have sF : xF.v.s.length ≤ maxLen := by rw [hxF]; exact Nat.le_trans (List.length_take_le _ _) (by decide)
  rw [← hxF] at ON hp1 hp2 hp3 hd1 hd2 hd3
  obtain ⟨lF, hlF⟩ : ∃ lF, lF = fun b => fewL (lv b) := ⟨_, rfl⟩
  have szF : SzT lF := by rw [hlF]; exact fewT_sz lv
  have lenF : ∀ b, b < 16 → (lF b).length ≤ 100 := by rw [hlF]; exact fewT_len lv
  have idF : (fun b => fewL (lF b)) = lF := by rw [hlF]; funext b; exact fewL_idem _
  rw [← hlF] at hp1 hp2 hp3 hd1 hd2 hd3 hm
  obtain ⟨q3, q4, -, -⟩ := two_allocs w (.cells cs 26) (.cells #[.string (str x.key), .int .i64 x.v.k, .int .i64 x.v.i, .string (str x.v.s), .int .i64 x.ver] 32)
  have bel : Below w.heap.size w ((w.alloc (.cells cs 26)).alloc (.cells #[.string (str x.key), .int .i64 x.v.k, .int .i64 x.v.i, .string (str x.v.s), .int .i64 x.ver] 32)) := ((Below.refl _ w).alloc (Nat.le_refl _) _).alloc (by simp) _
  have FW0 := fun W (g : Below w.heap.size w W) => few10_any cs lv vs W (h.below g (Nat.le_refl _)) hsz
  unfold FewP at FW0
  rw [← hlF] at FW0
  have FW := Lib.hid FW0
  clear FW0
  have ONH := Lib.hid ON
  unfold itV
  clear h hsz tab hxF hlF ON
  go_enter Tryd.func4, Tryd.ntmps4
  go_wp2_with fail
  obtain ⟨W0, hW0⟩ : ∃ W0, W0 = (w.alloc (.cells cs 26)).alloc (.cells #[.string (str x.key), .int .i64 x.v.k, .int .i64 x.v.i, .string (str x.v.s), .int .i64 x.ver] 32) := ⟨_, rfl⟩
  rw [← hW0] at q3 q4 bel ⊢
  clear hW0
  have bel := Below.drew bel
  refine t_start 4 (by kernel_rfl) ?_
  refine t_take (i := 0) (d := (some 14)) (v := ?_) rfl rfl (by kernel_rfl) (fun _ _ _ h => h) (by rfl) (fun w' hb' => ?_) ?_
  rotate_left
  · (refine load_row_op _ _ (.tmp 3) ?_ ?_ ((hb'.block _ (lt_of_block q3)).trans q3) Tryd.underlying26 ?_ hs0 <;> rfl); (try go_simp); (try with_reducible rfl)
  try simp only [Act.put, List.setIfInBounds_toArray, List.set_cons_zero, List.set_cons_succ]
  refine t_take (i := 2) (d := (some 16)) (v := ?_) rfl rfl (by kernel_rfl) (fun _ _ _ h => h) (by rfl) (fun w' hb' => ?_) ?_
  rotate_left
  · (refine load_row_op _ _ (.tmp 4) ?_ ?_ ((hb'.block _ (lt_of_block q4)).trans q4) Tryd.underlying32 ?_ infoI <;> rfl); (try go_simp); (try with_reducible rfl)
  try simp only [Act.put, List.setIfInBounds_toArray, List.set_cons_zero, List.set_cons_succ]
  refine t_run (i := 1) rfl (by kernel_rfl) (by kernel_rfl) (by rfl) (fun K hK => ?_)
  go_simp
  refine (FW.out _ bel).mono ?_
  rintro e y1 ⟨CF, rfl, own, gg⟩
  have bz : w.heap.size + 2 ≤ W0.heap.size := lt_of_block q4
  have own : OwnT W0.heap.size y1 CF lF vs := own
  have q3 := (gg.block _ (lt_of_block q3)).trans q3
  have q4 := (gg.block _ (lt_of_block q4)).trans q4
  have bel := chain bel gg
  refine hK _ _ ⟨gg, ?_⟩
  clear hK K gg
  try simp only [Act.put, List.setIfInBounds_toArray, List.set_cons_zero, List.set_cons_succ]
  refine t_run (i := 3) rfl (by kernel_rfl) (by kernel_rfl) (by rfl) (fun K hK => ?_)
  go_simp
  refine (ONH.out _).mono ?_
  rintro e y2 ⟨rfl, gg⟩
  have q3 := (gg.block _ (lt_of_block q3)).trans q3
  have q4 := (gg.block _ (lt_of_block q4)).trans q4
  have bel := chain bel gg
  have own := own.below gg
  refine hK _ _ ⟨gg, ?_⟩
  clear hK K gg
  try simp only [Act.put, List.setIfInBounds_toArray, List.set_cons_zero, List.set_cons_succ]
  refine t_into ?_
  refine t_tail (i := 4) rfl (by kernel_rfl) (by kernel_rfl) (by rfl) (fun K hK => ?_)
  have hsF := infoTc own.size
  have hzF : zT.size = CF.size := by rw [own.size]; rfl
  have hcF : cs.size = CF.size := by have := TAB; rw [own.size]; have h := hs0; rw [infoT] at h; exact (Option.some.inj h).symm
  have hoF := own.rd.one
  refine wp_store_row 26 (.tmp 3) (.tmp 15) rfl _ CF rfl rfl _ cs q3 hsF hcF hoF ?_
  refine hK _ _ ?_
  clear hK K
  obtain ⟨y3, hy3⟩ : ∃ W, W = y2.setRow w.heap.size CF := ⟨_, rfl⟩
  have q3 : y3.heap[w.heap.size]? = some (.cells CF 26 (0, 0)) := by rw [hy3]; exact setRow_heap _ _ _ CF _ _ q3
  have q4 : y3.heap[w.heap.size + 1]? = some (.cells #[.string (str x.key), .int .i64 x.v.k, .int .i64 x.v.i, .string (str x.v.s), .int .i64 x.ver] 32 (0, 0)) := by rw [hy3, setRow_other _ _ _ _ (by omega)]; exact q4
  have bel : Below w.heap.size w y3 := by rw [hy3]; exact below_row bel (Nat.le_refl _) CF
  have own : OwnT W0.heap.size y3 CF lF vs := by rw [hy3]; exact own.moved (fun k hk _ => by rw [setRow_other _ _ _ _ (by omega)])
  change wpO _ _ _ _ _ _ _ (y2.setRow w.heap.size CF)
  rw [← hy3]
  clear hy3
  try simp only [Act.put, List.setIfInBounds_toArray, List.set_cons_zero, List.set_cons_succ]
  refine t_tail (i := 5) rfl (by kernel_rfl) (by kernel_rfl) (by rfl) (fun K hK => ?_)
  refine wp_store_row 32 (.tmp 4) (.tmp 17) rfl _ #[.string (str xF.key), .int .i64 xF.v.k, .int .i64 xF.v.i, .string (str xF.v.s), .int .i64 xF.ver] rfl rfl _ #[.string (str x.key), .int .i64 x.v.k, .int .i64 x.v.i, .string (str x.v.s), .int .i64 x.ver] q4 infoI rfl (itc_one xF) ?_
  refine hK _ _ ?_
  clear hK K
  obtain ⟨WS, hWS⟩ : ∃ W, W = y3.setRow (w.heap.size + 1) #[.string (str xF.key), .int .i64 xF.v.k, .int .i64 xF.v.i, .string (str xF.v.s), .int .i64 xF.ver] := ⟨_, rfl⟩
  have q3 : WS.heap[w.heap.size]? = some (.cells CF 26 (0, 0)) := by rw [hWS, setRow_other _ _ _ _ (by omega)]; exact q3
  have q4 : WS.heap[w.heap.size + 1]? = some (.cells #[.string (str xF.key), .int .i64 xF.v.k, .int .i64 xF.v.i, .string (str xF.v.s), .int .i64 xF.ver] 32 (0, 0)) := by rw [hWS]; exact setRow_heap _ _ _ _ _ _ q4
  have bel : Below w.heap.size w WS := by rw [hWS]; exact below_row bel (by omega) _
  have own : OwnT W0.heap.size WS CF lF vs := by rw [hWS]; exact own.moved (fun k hk _ => by rw [setRow_other _ _ _ _ (by omega)])
  change wpO _ _ _ _ _ _ _ (y3.setRow (w.heap.size + 1) #[.string (str xF.key), .int .i64 xF.v.k, .int .i64 xF.v.i, .string (str xF.v.s), .int .i64 xF.ver])
  rw [← hWS]
  clear hWS
  try simp only [Act.put, List.setIfInBounds_toArray, List.set_cons_zero, List.set_cons_succ]
  refine t_over (by kernel_rfl) ?_
  have HT := Lib.hid own.rd
  have Q3 := Lib.hid q3
  have Q4 := Lib.hid q4
  have BW := Lib.hid bel
  have TS0 := Lib.hid (TAB.out.below bel)
  have hS := Below.refl WS.heap.size WS
  clear q3 q4 bel own
  have FW2 : Hid (∀ W, Below WS.heap.size WS W → Calls Tryd.prog 11 #[.agg CF] W fun e w' => ∃ CW, e = .returned (.agg CW) ∧ OwnT W.heap.size w' CW lF vs ∧ Below W.heap.size W w') := Lib.hid (fun W g => by
    have := few10_any CF lF vs W (HT.out.below g (Nat.le_refl _)) szF
    unfold FewP at this
    rw [idF] at this
    exact this)
  have PU := Lib.hid (fun W (g : Below WS.heap.size WS W) => (tput_any CF lF vs xF W (TS0.out.below g) (HT.out.below g (Nat.le_refl _)) szF kF sF).mono (fun e w' h => put_TrA HT.out g h))
  have DE := Lib.hid (fun W (g : Below WS.heap.size WS W) => (tdel_any CF lF vs xF.key ver W (TS0.out.below g) (HT.out.below g (Nat.le_refl _)) szF kF).mono (fun e w' h => del_TrA HT.out g h))
  rw [hp1, hp2, hp3] at PU
  rw [hd1, hd2, hd3] at DE
  have RM0 := fun W (g : Below WS.heap.size WS W) => refTmay_any CF lF vs W (TS0.out.below g) (HT.out.below g (Nat.le_refl _)) szF lenF
  rw [hm] at RM0
  have RM := Lib.hid RM0
  have AW := Lib.hid (fun W (g : Below WS.heap.size WS W) => awake10_any W (TS0.out.below g))
  have LENF := Lib.hid lenF
  unfold itV at PU
  clear RM0 lenF
  have q3 := (hS.block _ (lt_of_block Q3.out)).trans Q3.out
  go_wp2_with ((with_reducible refine wpList_load_row (o := ⟨some 18, _, _, _, _, _⟩) rfl 26 (.tmp 3) rfl _ rfl _ CF (0, 0) _ q3 Tryd.underlying26 rfl hsF ?_))
  clear q3
  refine (FW2.out _ hS).mono ?_
  rintro e v1 ⟨CW, rfl, own7, g⟩
  have hS := chain hS g
  clear g
  have R7 := Lib.hid own7.rd
  have hs7 := infoTc own7.size
  have hz7 : zT.size = CW.size := by rw [own7.size]; rfl
  have ho7 := own7.rd.one
  clear own7
  have h1 := Below.refl v1.heap.size v1
  have qd := heap_alloc_new v1 (.cells zT 26)
  go_wp2_with (first | ((with_reducible refine wpList_load_row (o := ⟨some 21, _, _, _, _, _⟩) rfl 26 (.tmp 3) rfl _ rfl _ CF (0, 0) _ q3 Tryd.underlying26 rfl hsF ?_)) | ((with_reducible refine wpList_load_row (o := ⟨some 22, _, _, _, _, _⟩) rfl 32 (.tmp 4) rfl _ rfl _ #[.string (str xF.key), .int .i64 xF.v.k, .int .i64 xF.v.i, .string (str xF.v.s), .int .i64 xF.ver] (0, 0) _ q4 Tryd.underlying32 rfl infoI ?_)) | ((with_reducible refine wpList_store_row (o := ⟨none, _, _, _, _, _⟩) rfl 26 (.tmp 7) (.tmp 19) rfl _ CW rfl rfl _ zT qd hs7 hz7 ho7 ?_); (obtain ⟨W7, hWn⟩ : ∃ W, W = (World.alloc v1 (.cells zT 26)).setRow v1.heap.size CW := ⟨_, rfl⟩); rw [← hWn]; (have gn : Below v1.heap.size v1 W7 := by rw [hWn]; exact below_row ((Below.refl _ _).alloc (Nat.le_refl _) _) (Nat.le_refl _) CW); (have Q7 := Lib.hid (show W7.heap[v1.heap.size]? = some (.cells CW 26 (0, 0)) by rw [hWn]; exact setRow_heap _ _ _ CW _ _ qd)); clear hWn qd; (have hS := chain hS gn); (have h1 := chain h1 gn); (have h7 := Below.refl W7.heap.size W7); clear gn; (have q3 := (hS.block _ (lt_of_block Q3.out)).trans Q3.out); (have q4 := (hS.block _ (lt_of_block Q4.out)).trans Q4.out)))
  clear q3 q4
  refine (PU.out _ hS).mono ?_
  rintro e v2 ⟨CA, rfl, szA, oneA, RA, g⟩
  have hS := chain hS g
  have h1 := chain h1 g
  have h7 := chain h7 g
  clear g
  have h2 := Below.refl v2.heap.size v2
  have hsA := infoTc szA
  have hzA : zT.size = CA.size := by rw [szA]; rfl
  have qd := heap_alloc_new v2 (.cells zT 26)
  go_wp2_with (first | ((with_reducible refine wpList_load_row (o := ⟨some 27, _, _, _, _, _⟩) rfl 26 (.tmp 3) rfl _ rfl _ CF (0, 0) _ q3 Tryd.underlying26 rfl hsF ?_)) | ((with_reducible refine wpList_store_row (o := ⟨none, _, _, _, _, _⟩) rfl 26 (.tmp 8) (.tmp 24) rfl _ CA rfl rfl _ zT qd hsA hzA oneA ?_); (obtain ⟨W8, hWn⟩ : ∃ W, W = (World.alloc v2 (.cells zT 26)).setRow v2.heap.size CA := ⟨_, rfl⟩); rw [← hWn]; (have gn : Below v2.heap.size v2 W8 := by rw [hWn]; exact below_row ((Below.refl _ _).alloc (Nat.le_refl _) _) (Nat.le_refl _) CA); (have Q8 := Lib.hid (show W8.heap[v2.heap.size]? = some (.cells CA 26 (0, 0)) by rw [hWn]; exact setRow_heap _ _ _ CA _ _ qd)); clear hWn qd; (have hS := chain hS gn); (have h1 := chain h1 gn); (have h7 := chain h7 gn); (have h2 := chain h2 gn); (have h8 := Below.refl W8.heap.size W8); clear gn; (have q3 := (hS.block _ (lt_of_block Q3.out)).trans Q3.out); (have q4 := (hS.block _ (lt_of_block Q4.out)).trans Q4.out); (have k0 : _ = some (Value.string (str xF.key)) := block_cell q4 0); (have lk := lt_of_block q4)))
  clear q3 q4 k0 lk
  refine (DE.out _ hS).mono ?_
  rintro e v3 ⟨CD, rfl, szD, oneD, RD, g⟩
  have hS := chain hS g
  have h1 := chain h1 g
  have h7 := chain h7 g
  have h2 := chain h2 g
  have h8 := chain h8 g
  clear g
  have h3 := Below.refl v3.heap.size v3
  have hsD := infoTc szD
  have hzD : zT.size = CD.size := by rw [szD]; rfl
  have qd := heap_alloc_new v3 (.cells zT 26)
  go_wp2_with (first | ((with_reducible refine wpList_load_row (o := ⟨some 34, _, _, _, _, _⟩) rfl 26 (.tmp 3) rfl _ rfl _ CF (0, 0) _ q3 Tryd.underlying26 rfl hsF ?_)) | ((with_reducible refine wpList_load_row (o := ⟨some 35, _, _, _, _, _⟩) rfl 26 (.tmp 7) rfl _ rfl _ CW (0, 0) _ q7 Tryd.underlying26 rfl hs7 ?_)) | ((with_reducible refine wpList_store_row (o := ⟨none, _, _, _, _, _⟩) rfl 26 (.tmp 10) (.tmp 32) rfl _ CD rfl rfl _ zT qd hsD hzD oneD ?_); (obtain ⟨W10, hWn⟩ : ∃ W, W = (World.alloc v3 (.cells zT 26)).setRow v3.heap.size CD := ⟨_, rfl⟩); rw [← hWn]; (have gn : Below v3.heap.size v3 W10 := by rw [hWn]; exact below_row ((Below.refl _ _).alloc (Nat.le_refl _) _) (Nat.le_refl _) CD); (have Q10 := Lib.hid (show W10.heap[v3.heap.size]? = some (.cells CD 26 (0, 0)) by rw [hWn]; exact setRow_heap _ _ _ CD _ _ qd)); clear hWn qd; (have hS := chain hS gn); (have h1 := chain h1 gn); (have h7 := chain h7 gn); (have h2 := chain h2 gn); (have h8 := chain h8 gn); (have h3 := chain h3 gn); (have h10 := Below.refl W10.heap.size W10); clear gn; (have q3 := (hS.block _ (lt_of_block Q3.out)).trans Q3.out); (have q7 := (h7.block _ (lt_of_block Q7.out)).trans Q7.out)))
  clear q3 q7
  refine (tsame_yes CF CW lF vs _ (HT.out.below hS (Nat.le_refl _)) (R7.out.below h1 (Nat.le_refl _)) LENF.out).mono ?_
  rintro e v4 ⟨rfl, g⟩
  have hS := chain hS g
  have h1 := chain h1 g
  have h7 := chain h7 g
  have h2 := chain h2 g
  have h8 := chain h8 g
  have h3 := chain h3 g
  have h10 := chain h10 g
  clear g
  have q3 := (hS.block _ (lt_of_block Q3.out)).trans Q3.out
  go_wp2_with ((with_reducible refine wpList_load_row (o := ⟨some 38, _, _, _, _, _⟩) rfl 26 (.tmp 3) rfl _ rfl _ CF (0, 0) _ q3 Tryd.underlying26 rfl hsF ?_))
  clear q3
  refine (RM.out _ hS).mono ?_
  rintro e v5 ⟨rfl, g⟩
  have hS := chain hS g
  have h1 := chain h1 g
  have h7 := chain h7 g
  have h2 := chain h2 g
  have h8 := chain h8 g
  have h3 := chain h3 g
  have h10 := chain h10 g
  clear g
  have q8 := (h8.block _ (lt_of_block Q8.out)).trans Q8.out
  go_wp2_with ((with_reducible refine wpList_load_row (o := ⟨some 41, _, _, _, _, _⟩) rfl 26 (.tmp 8) rfl _ rfl _ CA (0, 0) _ q8 Tryd.underlying26 rfl hsA ?_))
  clear q8
  refine (none_yes CA _ (RA.out _ h2.size (fun k hk _ => h2.block k hk))).mono ?_
  rintro e v6 ⟨rfl, g⟩
  have hS := chain hS g
  have h1 := chain h1 g
  have h7 := chain h7 g
  have h2 := chain h2 g
  have h8 := chain h8 g
  have h3 := chain h3 g
  have h10 := chain h10 g
  clear g
  have q10 := (h10.block _ (lt_of_block Q10.out)).trans Q10.out
  go_wp2_with ((with_reducible refine wpList_load_row_g (o := ⟨some 48, _, _, _, _, _⟩) ?_ 26 (.tmp 10) rfl _ rfl _ CD (0, 0) _ q10 Tryd.underlying26 rfl hsD ?_); rfl)
  clear q10
  refine (none_yes CD _ (RD.out _ h3.size (fun k hk _ => h3.block k hk))).mono ?_
  rintro e v7 ⟨rfl, g⟩
  have hS := chain hS g
  have h1 := chain h1 g
  have h7 := chain h7 g
  have h2 := chain h2 g
  have h8 := chain h8 g
  have h3 := chain h3 g
  have h10 := chain h10 g
  clear g
  go_wp2_with fail
  refine (AW.out _ hS).mono ?_
  rintro e vz ⟨rfl, g⟩
  have hS := chain hS g
  go_wp2_with fail
  go_ret
  exact ⟨rfl, chain BW.out hS⟩
end Go.Proofs.YtmjedjhkhjiigaaDoor
