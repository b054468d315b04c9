/- Stores: New, Room, Scan. Written by wip/tools/gen13r.py. -/
import Derived.Test.YtbdfcgffkonbiaaDoorQST36
namespace Go.Proofs.YtbdfcgffkonbiaaDoor
open Go Go.RowKit
set_option linter.unusedVariables false
set_option linter.unusedSimpArgs false
def stN (b k : Int) : St := ⟨fun _ => [], fun _ => 0, 0, b, k⟩
def zSN (b k : Int) : Array Value := (zS.setIfInBounds 33 (.int .i64 b)).setIfInBounds 34 (.int .i64 k)
theorem zSN_size (b k : Int) : (zSN b k).size = 35 := rfl
theorem zSN_built (b k : Int) : Tryd.prog.built 28 [(2, .int .i64 b), (3, .int .i64 k)] = some (zSN b k) := by kernel_rfl
theorem zSN_t (b k : Int) : tC (zSN b k) = zT := rfl
theorem rds_new (w : World) (b k : Int) : RdS w (zSN b k) (stN b k) := ⟨rfl, by rw [zSN_t]; exact rdt_zero w, rfl, rfl, rfl⟩
theorem zSN_one (w : World) (b k : Int) : (zSN b k).all (·.oneCell') = true := Array.all_eq_true_iff_forall_mem.2 fun u hu => (rds_new w b k).one u (by simpa using hu)
def newB (b k : Int) : Bool := rngB b 65536 && rngB k 1024
theorem fitsN {b k : Int} : fitsB (stN b k) = (decide (0 ≤ b) && decide (0 ≤ k)) := by
  unfold fitsB stN
  rw [show sumT weightL (fun _ => ([] : List It)) (fun _ => (0 : Int)) = 0 by decide, show sumT List.length (fun _ => ([] : List It)) (fun _ => (0 : Int)) = 0 by decide]; rfl
theorem mayN (b k : Int) : mayS (stN b k) = newB b k := by
  unfold mayS
  rw [fitsN, show versB (stN b k).vs (stN b k).ver 16 = true by rfl, show mayTs (stN b k).lv (stN b k).vs 16 = true from (by decide : mayTs (fun _ => ([] : List It)) (fun _ => (0 : Int)) 16 = true), show rngB (stN b k).ver 2147483647 = true by rfl, show (stN b k).by_ = b from rfl, show (stN b k).ke = k from rfl]
  unfold newB rngB
  cases h1 : decide (0 ≤ b) <;> cases h2 : decide (0 ≤ k) <;> simp
theorem szE : SzT (fun _ => ([] : List It)) := fun b _ x hx => by cases hx
theorem wfE : WfT (fun _ => ([] : List It)) := fun b _ x hx => by cases hx
def NewZ (w : World) (b k : Int) (e : Ending) (w' : World) : Prop := e = .returned (.tuple #[.agg (if newB b k = true then zSN b k else zS), .int .i64 (if newB b k = true then 0 else 1)]) ∧ Below w.heap.size w w'
set_option maxRecDepth 100000 in
set_option maxHeartbeats 1000000 in
theorem new13_any (b k : Int) (w : World) (tab : TabAt w) :
    Calls Tryd.prog 14 #[.int .i64 b, .int .i64 k] w (NewZ w b k) := by
  have z0 := zeroS_run
  have z1 := zS_ne
  have HBZ := Lib.hid hb_zero
  have HBN := Lib.hid (show ∀ w, (Instr.build 28 #[(2, .int .i64 b), (3, .int .i64 k)]).run Tryd.prog w = .ok (.agg (zSN b k)) w from fun w => run_build w _ _ _ (zSN_built b k))
  obtain ⟨q1, q2, z2, -⟩ := two_allocs w (.cells zS 28) (.cells zS 28)
  have bel : Below w.heap.size w ((w.alloc (.cells zS 28)).alloc (.cells zS 28)) := ((Below.refl _ w).alloc (Nat.le_refl _) _).alloc (by simp) _
  have MY0 := fun W (g : Below w.heap.size w W) => may13_any (zSN b k) (stN b k) W (tab.below g) (rds_new W b k) szE wfE (fun _ _ => by simp [stN])
  simp only [mayN] at MY0
  have hn1 := zSN_one w b k
  obtain ⟨Z, hZ⟩ : ∃ Z, Z = NewZ w b k := ⟨_, rfl⟩
  rw [← hZ]
  have HZ := Lib.hid hZ
  clear hZ tab
  cases hm : newB b k with
  | false =>
    rw [hm] at MY0
    have MY := Lib.hid MY0
    have HM := Lib.hid hm
    clear MY0 hm
    go_enter Tryd.func14, Tryd.ntmps14
    go_wp2_with (first | ((with_reducible refine wpList_buildV (o := ⟨some 9, _, _, _, _, _⟩) rfl 28 #[(2, .tmp 7), (3, .tmp 8)] rfl #[(2, .int .i64 b), (3, .int .i64 k)] rfl (.agg (zSN b k)) (HBN.out _) ?_)) | ((with_reducible refine wpList_store_row (o := ⟨none, _, _, _, _, _⟩) rfl 28 (.tmp 6) (.tmp 9) rfl _ (zSN b k) rfl rfl _ zS q2 (infoS (zSN_size b k)) rfl hn1 ?_); (obtain ⟨WT, hWT⟩ : ∃ W, W = World.setRow ((w.alloc (.cells zS 28)).alloc (.cells zS 28)) (w.heap.size + 1) (zSN b k) := ⟨_, rfl⟩); rw [← hWT]; (replace q1 : WT.heap[w.heap.size]? = some (.cells zS 28 (0, 0)) := by rw [hWT]; exact (setRow_other _ _ _ _ (by omega)).trans q1); (replace q2 : WT.heap[w.heap.size + 1]? = some (.cells (zSN b k) 28 (0, 0)) := by rw [hWT]; exact setRow_heap _ _ _ _ _ _ q2); (replace bel : Below w.heap.size w WT := by rw [hWT]; exact below_row bel (by omega) _); clear hWT) | ((with_reducible refine wpList_load_row (o := ⟨some 10, _, _, _, _, _⟩) rfl 28 (.tmp 6) rfl _ rfl _ (zSN b k) (0, 0) _ q2 Tryd.underlying28 rfl (infoS (zSN_size b k)) ?_)))
    refine (MY.out _ bel).mono ?_
    rintro e w1 ⟨rfl, g⟩
    replace q1 := (g.block _ (lt_of_block q1)).trans q1
    replace bel := chain bel g
    clear g
    go_wp2_with (first | ((with_reducible refine wpList_buildV (o := ⟨some 13, _, _, _, _, _⟩) rfl 28 #[] rfl #[] rfl (.agg zS) (HBZ.out _) ?_)) | ((with_reducible refine wpList_store_row (o := ⟨none, _, _, _, _, _⟩) rfl 28 (.tmp 4) (.tmp 13) rfl _ zS rfl rfl _ zS q1 (infoS rfl) rfl zS_one ?_); (obtain ⟨WU, hWU⟩ : ∃ W, W = World.setRow w1 w.heap.size zS := ⟨_, rfl⟩); rw [← hWU]; (have q9 : WU.heap[w.heap.size]? = some (.cells zS 28 (0, 0)) := by rw [hWU]; exact setRow_heap _ _ _ _ _ _ q1); (have bel9 : Below w.heap.size w WU := by rw [hWU]; exact below_row bel (Nat.le_refl _) _); clear hWU))
    refine bodyPost_ret (v := .tuple #[.agg zS, .int .i64 1]) (results_row_tmp rfl _ _ _ _ zS (0, 0) _ _ rfl rfl q9 Tryd.underlying28 rfl (infoS rfl)) rfl ?_
    rw [HZ.out]
    refine ⟨?_, bel9⟩
    rw [HM.out]; rfl
  | true =>
    rw [hm] at MY0
    have MY := Lib.hid MY0
    have HM := Lib.hid hm
    clear MY0 hm
    go_enter Tryd.func14, Tryd.ntmps14
    go_wp2_with (first | ((with_reducible refine wpList_buildV (o := ⟨some 9, _, _, _, _, _⟩) rfl 28 #[(2, .tmp 7), (3, .tmp 8)] rfl #[(2, .int .i64 b), (3, .int .i64 k)] rfl (.agg (zSN b k)) (HBN.out _) ?_)) | ((with_reducible refine wpList_store_row (o := ⟨none, _, _, _, _, _⟩) rfl 28 (.tmp 6) (.tmp 9) rfl _ (zSN b k) rfl rfl _ zS q2 (infoS (zSN_size b k)) rfl hn1 ?_); (obtain ⟨WT, hWT⟩ : ∃ W, W = World.setRow ((w.alloc (.cells zS 28)).alloc (.cells zS 28)) (w.heap.size + 1) (zSN b k) := ⟨_, rfl⟩); rw [← hWT]; (replace q1 : WT.heap[w.heap.size]? = some (.cells zS 28 (0, 0)) := by rw [hWT]; exact (setRow_other _ _ _ _ (by omega)).trans q1); (replace q2 : WT.heap[w.heap.size + 1]? = some (.cells (zSN b k) 28 (0, 0)) := by rw [hWT]; exact setRow_heap _ _ _ _ _ _ q2); (replace bel : Below w.heap.size w WT := by rw [hWT]; exact below_row bel (by omega) _); clear hWT) | ((with_reducible refine wpList_load_row (o := ⟨some 10, _, _, _, _, _⟩) rfl 28 (.tmp 6) rfl _ rfl _ (zSN b k) (0, 0) _ q2 Tryd.underlying28 rfl (infoS (zSN_size b k)) ?_)))
    refine (MY.out _ bel).mono ?_
    rintro e w1 ⟨rfl, g⟩
    replace q1 := (g.block _ (lt_of_block q1)).trans q1
    replace q2 := (g.block _ (lt_of_block q2)).trans q2
    replace bel := chain bel g
    clear g
    go_wp2_with (first | ((with_reducible refine wpList_load_row (o := ⟨some 14, _, _, _, _, _⟩) rfl 28 (.tmp 6) rfl _ rfl _ (zSN b k) (0, 0) _ q2 Tryd.underlying28 rfl (infoS (zSN_size b k)) ?_)) | ((with_reducible refine wpList_store_row (o := ⟨none, _, _, _, _, _⟩) rfl 28 (.tmp 4) (.tmp 14) rfl _ (zSN b k) rfl rfl _ zS q1 (infoS (zSN_size b k)) rfl hn1 ?_); (obtain ⟨WU, hWU⟩ : ∃ W, W = World.setRow w1 w.heap.size (zSN b k) := ⟨_, rfl⟩); rw [← hWU]; (have q9 : WU.heap[w.heap.size]? = some (.cells (zSN b k) 28 (0, 0)) := by rw [hWU]; exact setRow_heap _ _ _ _ _ _ q1); (have bel9 : Below w.heap.size w WU := by rw [hWU]; exact below_row bel (Nat.le_refl _) _); clear hWU))
    refine bodyPost_ret (v := .tuple #[.agg (zSN b k), .int .i64 0]) (results_row_tmp rfl _ _ _ _ (zSN b k) (0, 0) _ _ rfl rfl q9 Tryd.underlying28 rfl (infoS (zSN_size b k))) rfl ?_
    rw [HZ.out]
    refine ⟨?_, bel9⟩
    rw [HM.out]; rfl
def RoomZ (w : World) (s : St) (e : Ending) (w' : World) : Prop := e = .returned (.tuple #[.int .i64 (if mayS s = true then s.by_ - (sumT weightL s.lv s.vs : Int) else 0), .int .i64 (if mayS s = true then s.ke - (sumT List.length s.lv s.vs : Int) else 0)]) ∧ Below w.heap.size w w'
theorem mayS_fits {s : St} (h : mayS s = true) : fitsB s = true := by unfold mayS at h; simp only [Bool.and_eq_true] at h; exact h.2
theorem mayS_by {s : St} (h : mayS s = true) : 0 ≤ s.by_ ∧ s.by_ ≤ 65536 ∧ 0 ≤ s.ke ∧ s.ke ≤ 1024 := by
  unfold mayS rngB at h; simp only [Bool.and_eq_true, decide_eq_true_eq] at h; exact ⟨h.1.1.1.1.2.1, h.1.1.1.1.2.2, h.1.1.1.2.1, h.1.1.1.2.2⟩
set_option maxRecDepth 100000 in
set_option maxHeartbeats 1000000 in
theorem room13_any (cs : Array Value) (s : St) (w : World) (tab : TabAt w) (h : RdS w cs s) (hsz : SzT s.lv) (hwf : WfT s.lv) (h100 : ∀ b, b < 16 → (s.lv b).length ≤ 100) :
    Calls Tryd.prog 17 #[.agg cs] w (RoomZ w s) := by
  have hs := h.size
  have hi := infoS h.size
  have q1 := heap_alloc_new w (.cells cs 28)
  have bel := (Below.refl w.heap.size w).alloc (Nat.le_refl _) (.cells cs 28)
  obtain ⟨W1, hW1⟩ : ∃ W1, W1 = w.alloc (.cells cs 28) := ⟨_, rfl⟩
  rw [← hW1] at q1 bel
  have H33 := Lib.hid h.by_
  have H34 := Lib.hid h.ke
  have MY0 := may13_any cs s W1 (tab.below bel) (h.below bel (Nat.le_refl _)) hsz hwf h100
  obtain ⟨Z, hZ⟩ : ∃ Z, Z = RoomZ w s := ⟨_, rfl⟩
  rw [← hZ]
  have HZ := Lib.hid hZ
  clear hZ
  cases hm : mayS s with
  | false =>
    rw [hm] at MY0
    have MY := Lib.hid MY0
    have HM := Lib.hid hm
    have BW := Lib.hid bel
    clear MY0 hm bel h hsz hwf h100 tab
    subst hW1
    go_enter Tryd.func17, Tryd.ntmps17
    go_wp2_with ((with_reducible refine wpList_load_row (o := ⟨some 4, _, _, _, _, _⟩) rfl 28 (.tmp 1) rfl _ rfl _ cs (0, 0) _ q1 Tryd.underlying28 rfl hi ?_))
    refine MY.out.mono ?_
    rintro e w1 ⟨rfl, g⟩
    have BF := Lib.hid (chain BW.out g)
    clear g
    go_wp2_with fail
    show Z _ _
    rw [HZ.out]
    unfold RoomZ
    rw [HM.out]
    exact ⟨rfl, BF.out⟩
  | true =>
    rw [hm] at MY0
    have MY := Lib.hid MY0
    have HM := Lib.hid hm
    have WT0 := fun W (g : Below W1.heap.size W1 W) => tweight_any (tC cs) s.lv s.vs W (tab.below (chain bel g)) (h.tr.below (chain bel g) (Nat.le_refl _)) hsz hwf
    have CT0 := fun W (g : Below W1.heap.size W1 W) => count_any (tC cs) s.lv s.vs W (tab.below (chain bel g)) (h.tr.below (chain bel g) (Nat.le_refl _)) hsz h100
    have hb4 := mayS_by hm
    have hft := mayS_fits hm
    unfold fitsB at hft
    obtain ⟨N1, hN1⟩ : ∃ N, N = sumT weightL s.lv s.vs := ⟨_, rfl⟩
    obtain ⟨N2, hN2⟩ : ∃ N, N = sumT List.length s.lv s.vs := ⟨_, rfl⟩
    rw [← hN1, ← hN2] at hft
    rw [← hN1] at WT0
    rw [← hN2] at CT0
    obtain ⟨B, hB⟩ : ∃ B, B = s.by_ := ⟨_, rfl⟩
    obtain ⟨K9, hK9⟩ : ∃ B, B = s.ke := ⟨_, rfl⟩
    rw [← hB] at H33 hft hb4
    rw [← hK9] at H34 hft hb4
    simp only [Bool.and_eq_true, decide_eq_true_eq] at hft
    obtain ⟨D1, hD1⟩ : ∃ D, D = B - (N1 : Int) := ⟨_, rfl⟩
    obtain ⟨D2, hD2⟩ : ∃ D, D = K9 - (N2 : Int) := ⟨_, rfl⟩
    have hw1 : IntKind.i64.wrap (B - (N1 : Int)) = D1 := by rw [IntKind.wrap_i64]; omega
    have hw2 : IntKind.i64.wrap (K9 - (N2 : Int)) = D2 := by rw [IntKind.wrap_i64]; omega
    have HF := Lib.hid (show ∀ W, Below w.heap.size w W → RoomZ w s (.returned (.tuple #[.int .i64 D1, .int .i64 D2])) W from fun W g => by unfold RoomZ; rw [HM.out, if_pos rfl, if_pos rfl, ← hN1, ← hN2, ← hB, ← hK9, ← hD1, ← hD2]; exact ⟨rfl, g⟩)
    have WT := Lib.hid WT0
    have CT := Lib.hid CT0
    have BW := Lib.hid bel
    have hS := Below.refl W1.heap.size W1
    clear MY0 hm bel h hsz hwf h100 tab WT0 CT0 hft hb4 hN1 hN2 hB hK9 hD1 hD2
    obtain ⟨W2, hW2⟩ : ∃ W2, W2 = W1 := ⟨_, rfl⟩
    rw [← hW2] at hS q1 WT CT BW MY
    have HW2 := Lib.hid hW2
    subst hW2
    subst hW1
    go_enter Tryd.func17, Tryd.ntmps17
    go_wp2_with ((with_reducible refine wpList_load_row (o := ⟨some 4, _, _, _, _, _⟩) rfl 28 (.tmp 1) rfl _ rfl _ cs (0, 0) _ q1 Tryd.underlying28 rfl hi ?_))
    refine MY.out.mono ?_
    rintro e w1 ⟨rfl, g⟩
    have hS := g
    have q1 := (g.block _ (lt_of_block q1)).trans q1
    clear g
    go_wp2_with fail
    refine g_start (by kernel_rfl) ?_
    refine g_take (i := 0) (d := (some 7)) (v := ?_) rfl rfl (by kernel_rfl) (fun _ _ _ h => h) (by rfl) (fun w' hb' => ?_) ?_
    rotate_left
    · (try go_simp); (try with_reducible rfl)
    try simp only [Act.put, List.setIfInBounds_toArray, List.set_cons_zero, List.set_cons_succ]
    refine g_take (i := 1) (d := (some 8)) (v := ?_) rfl rfl (by kernel_rfl) (fun _ _ _ h => h) (by rfl) (fun w' hb' => ?_) ?_
    rotate_left
    · have zz := (block_cell ((hb'.block _ (lt_of_block q1)).trans q1) 33).trans H33.out; (try go_simp); (try with_reducible rfl)
    try simp only [Act.put, List.setIfInBounds_toArray, List.set_cons_zero, List.set_cons_succ]
    refine g_take (i := 2) (d := (some 9)) (v := ?_) rfl rfl (by kernel_rfl) (fun _ _ _ h => h) (by rfl) (fun w' hb' => ?_) ?_
    rotate_left
    · (try go_simp); (try with_reducible rfl)
    try simp only [Act.put, List.setIfInBounds_toArray, List.set_cons_zero, List.set_cons_succ]
    refine g_take (i := 3) (d := (some 10)) (v := ?_) rfl rfl (by kernel_rfl) (fun _ _ _ h => h) (by rfl) (fun w' hb' => ?_) ?_
    rotate_left
    · (refine load_partO_op _ _ (.tmp 9) ?_ ?_ (tC_range ((hb'.block _ (lt_of_block q1)).trans q1)) Tryd.underlying26 ?_ (tC_infoA hs) <;> rfl); (try go_simp); (try with_reducible rfl)
    try simp only [Act.put, List.setIfInBounds_toArray, List.set_cons_zero, List.set_cons_succ]
    refine g_take (i := 6) (d := (some 13)) (v := ?_) rfl rfl (by kernel_rfl) (fun _ _ _ h => h) (by rfl) (fun w' hb' => ?_) ?_
    rotate_left
    · (try go_simp); (try with_reducible rfl)
    try simp only [Act.put, List.setIfInBounds_toArray, List.set_cons_zero, List.set_cons_succ]
    refine g_take (i := 7) (d := (some 14)) (v := ?_) rfl rfl (by kernel_rfl) (fun _ _ _ h => h) (by rfl) (fun w' hb' => ?_) ?_
    rotate_left
    · have zz := (block_cell ((hb'.block _ (lt_of_block q1)).trans q1) 34).trans H34.out; (try go_simp); (try with_reducible rfl)
    try simp only [Act.put, List.setIfInBounds_toArray, List.set_cons_zero, List.set_cons_succ]
    refine g_take (i := 8) (d := (some 15)) (v := ?_) rfl rfl (by kernel_rfl) (fun _ _ _ h => h) (by rfl) (fun w' hb' => ?_) ?_
    rotate_left
    · (try go_simp); (try with_reducible rfl)
    try simp only [Act.put, List.setIfInBounds_toArray, List.set_cons_zero, List.set_cons_succ]
    refine g_take (i := 9) (d := (some 16)) (v := ?_) rfl rfl (by kernel_rfl) (fun _ _ _ h => h) (by rfl) (fun w' hb' => ?_) ?_
    rotate_left
    · (refine load_partO_op _ _ (.tmp 15) ?_ ?_ (tC_range ((hb'.block _ (lt_of_block q1)).trans q1)) Tryd.underlying26 ?_ (tC_infoA hs) <;> rfl); (try go_simp); (try with_reducible rfl)
    try simp only [Act.put, List.setIfInBounds_toArray, List.set_cons_zero, List.set_cons_succ]
    refine g_run (i := 4) rfl (by kernel_rfl) (by rfl) (fun K hK => ?_)
    go_simp; refine (WT.out _ (Below.drew hS)).mono ?_; rintro e u4 ⟨rfl, gg⟩; have hS := chain (Below.drew hS) gg; have q1 := (gg.block _ (lt_of_block q1)).trans q1; refine hK _ _ ⟨gg, ?_⟩; clear hK K gg
    try simp only [Act.put, List.setIfInBounds_toArray, List.set_cons_zero, List.set_cons_succ]
    refine g_take (i := 5) (d := (some 12)) (v := ?_) rfl rfl (by kernel_rfl) (fun _ _ _ h => h) (by rfl) (fun w' hb' => ?_) ?_
    rotate_left
    · (try go_simp); (try with_reducible rfl)
    try simp only [Act.put, List.setIfInBounds_toArray, List.set_cons_zero, List.set_cons_succ]
    refine g_run (i := 10) rfl (by kernel_rfl) (by rfl) (fun K hK => ?_)
    go_simp; refine (CT.out _ hS).mono ?_; rintro e u10 ⟨rfl, gg⟩; have hS := chain hS gg; have q1 := (gg.block _ (lt_of_block q1)).trans q1; refine hK _ _ ⟨gg, ?_⟩; clear hK K gg
    try simp only [Act.put, List.setIfInBounds_toArray, List.set_cons_zero, List.set_cons_succ]
    refine g_take (i := 11) (d := (some 18)) (v := ?_) rfl rfl (by kernel_rfl) (fun _ _ _ h => h) (by rfl) (fun w' hb' => ?_) ?_
    rotate_left
    · (try go_simp); (try with_reducible rfl)
    try simp only [Act.put, List.setIfInBounds_toArray, List.set_cons_zero, List.set_cons_succ]
    refine g_take (i := 12) (d := (some 2)) (v := ?_) rfl rfl (by kernel_rfl) (fun _ _ _ h => h) (by rfl) (fun w' hb' => ?_) ?_
    rotate_left
    · (try go_simp); (try with_reducible rfl)
    try simp only [Act.put, List.setIfInBounds_toArray, List.set_cons_zero, List.set_cons_succ]
    refine g_take (i := 13) (d := (some 3)) (v := ?_) rfl rfl (by kernel_rfl) (fun _ _ _ h => h) (by rfl) (fun w' hb' => ?_) ?_
    rotate_left
    · (try go_simp); (try with_reducible rfl)
    try simp only [Act.put, List.setIfInBounds_toArray, List.set_cons_zero, List.set_cons_succ]
    refine g_done (by kernel_rfl) ?_
    go_wp2_with fail
    show Z _ _
    rw [HZ.out]
    exact HF.out _ (chain BW.out hS)
def scE (s : St) (f t : List UInt8) : Nat := if mayS s = true then ckE s.lv s.vs [f, t] else 1
def scS (s : St) (f t : List UInt8) (most : Int) : List It := if mayS s = true then scL s.lv s.vs f t most else []
def ScanZ (w : World) (s : St) (f t : List UInt8) (most : Int) (e : Ending) (w' : World) : Prop := ∃ v, e = .returned (.tuple #[v, .int .i64 (scE s f t : Int)]) ∧ w'.ownsRow w.heap.size 53 5 v (scS s f t most).length ((scS s f t most).flatMap itC) ∧ Below w.heap.size w w'
set_option maxRecDepth 100000 in
set_option maxHeartbeats 1000000 in
theorem scan13_any (cs : Array Value) (s : St) (f t : List UInt8) (most : Int) (w : World) (tab : TabAt w) (h : RdS w cs s) (hsz : SzT s.lv) (hwf : WfT s.lv) (h100 : ∀ b, b < 16 → (s.lv b).length ≤ 100) (hf : f.length ≤ maxLen) (ht : t.length ≤ maxLen) :
    Calls Tryd.prog 26 #[.agg cs, .string (str f), .string (str t), .int .i64 most] w (ScanZ w s f t most) := by
  have hs := h.size
  have hi := infoS h.size
  have q1 := heap_alloc_new w (.cells cs 28)
  have bel := (Below.refl w.heap.size w).alloc (Nat.le_refl _) (.cells cs 28)
  obtain ⟨W1, hW1⟩ : ∃ W1, W1 = w.alloc (.cells cs 28) := ⟨_, rfl⟩
  rw [← hW1] at q1 bel
  have MY0 := may13_any cs s W1 (tab.below bel) (h.below bel (Nat.le_refl _)) hsz hwf h100
  obtain ⟨Z, hZ⟩ : ∃ Z, Z = ScanZ w s f t most := ⟨_, rfl⟩
  rw [← hZ]
  have HZ := Lib.hid hZ
  clear hZ
  cases hm : mayS s with
  | false =>
    rw [hm] at MY0
    have MY := Lib.hid MY0
    have HM := Lib.hid hm
    have BW := Lib.hid bel
    clear MY0 hm bel h hsz hwf h100 tab hf ht
    subst hW1
    go_enter Tryd.func26, Tryd.ntmps26
    go_wp2_with ((with_reducible refine wpList_load_row (o := ⟨some 10, _, _, _, _, _⟩) rfl 28 (.tmp 4) rfl _ rfl _ cs (0, 0) _ q1 Tryd.underlying28 rfl hi ?_))
    refine MY.out.mono ?_
    rintro e w1 ⟨rfl, g⟩
    have BF := Lib.hid (chain BW.out g)
    clear g
    go_wp2_with fail
    show Z _ _
    rw [HZ.out]
    unfold ScanZ scE scS
    rw [HM.out]
    exact ⟨_, rfl, World.ownsRow_nil _ _ _ _, BF.out⟩
  | true =>
    rw [hm] at MY0
    have MY := Lib.hid MY0
    have HM := Lib.hid hm
    have SC := Lib.hid (fun W (g : Below W1.heap.size W1 W) => scan_any (tC cs) s.lv s.vs f t most W (tab.below (chain bel g)) (h.tr.below (chain bel g) (Nat.le_refl _)) hsz hf ht)
    have BW := Lib.hid bel
    have HSZ := Lib.hid bel.size
    clear MY0 hm bel h hsz hwf h100 tab hf ht
    subst hW1
    go_enter Tryd.func26, Tryd.ntmps26
    go_wp2_with ((with_reducible refine wpList_load_row (o := ⟨some 10, _, _, _, _, _⟩) rfl 28 (.tmp 4) rfl _ rfl _ cs (0, 0) _ q1 Tryd.underlying28 rfl hi ?_))
    refine MY.out.mono ?_
    rintro e w1 ⟨rfl, g⟩
    have q1 := (g.block _ (lt_of_block q1)).trans q1
    have SC := Lib.hid (SC.out w1 g)
    have BF := Lib.hid (chain BW.out g)
    clear g
    go_wp2_with ((with_reducible refine wpList_load_part (o := ⟨some 14, _, _, _, _, _⟩) rfl 26 (.tmp 13) rfl _ 0 rfl (tC cs) _ (tC_range q1) Tryd.underlying26 rfl (tC_infoA hs) ?_))
    refine SC.out.mono ?_
    rintro e w2 ⟨v, rfl, own, g⟩
    have OW := Lib.hid (own_base own (Nat.le_trans BF.out.size (Nat.le_refl _)))
    have BG := Lib.hid (chain BF.out g)
    clear g own
    go_wp2_with fail
    show Z _ _
    rw [HZ.out]
    unfold ScanZ scE scS
    rw [HM.out]
    exact ⟨_, rfl, OW.out, BG.out⟩
end Go.Proofs.YtbdfcgffkonbiaaDoor
