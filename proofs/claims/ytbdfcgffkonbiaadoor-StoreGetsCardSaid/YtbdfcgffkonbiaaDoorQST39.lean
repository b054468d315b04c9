/- Stores: apply. Written by wip/tools/gen13i.py. -/
import Derived.Test.YtbdfcgffkonbiaaDoorQST38
namespace Go.Proofs.YtbdfcgffkonbiaaDoor
open Go Go.RowKit
set_option linter.unusedVariables false
set_option linter.unusedSimpArgs false
/-- A reading of a trunk that lives through changes of the blocks of which P holds. -/
def SafeP (P : Nat → Prop) (w : World) (cs : Array Value) (lv : Nat → List It) (vs : Nat → Int) : Prop := ∀ W : World, (∀ k, k < w.heap.size → ¬ P k → W.heap[k]? = w.heap[k]?) → RdT W cs lv vs
theorem SafeP.rd {P : Nat → Prop} {w : World} {cs : Array Value} {lv : Nat → List It} {vs : Nat → Int} (h : SafeP P w cs lv vs) : RdT w cs lv vs := h w fun _ _ _ => rfl
theorem SafeP.later {P : Nat → Prop} {w w' : World} {cs : Array Value} {lv : Nat → List It} {vs : Nat → Int} (h : SafeP P w cs lv vs) (hs : w.heap.size ≤ w'.heap.size) (hk : ∀ k, k < w.heap.size → ¬ P k → w'.heap[k]? = w.heap[k]?) : SafeP P w' cs lv vs :=
  fun W hW => h W fun k h1 h2 => (hW k (by omega) h2).trans (hk k h1 h2)
theorem SafeP.below {P : Nat → Prop} {w w' : World} {cs : Array Value} {lv : Nat → List It} {vs : Nat → Int} (h : SafeP P w cs lv vs) (b : Below w.heap.size w w') : SafeP P w' cs lv vs := h.later b.size fun k h1 _ => b.block k h1
theorem SafeP.put {P : Nat → Prop} {w : World} {cs : Array Value} {lv : Nat → List It} {vs : Nat → Int} (h : SafeP P w cs lv vs) {b base : Nat} (hb : b < 16) {u : Value} {l : List It} {v : Int} (ho : w.ownsRow base 53 5 u l.length (l.flatMap itC)) (hg : ∀ k, P k → k < base) :
    SafeP P w ((cs.setIfInBounds b u).setIfInBounds (16 + b) (.int .i64 v)) (upd lv b l) (upd vs b v) :=
  fun W hW => (h W hW).put hb (own_rdk itC_len (own_moved2 ho fun k h1 h2 => hW k h2 fun hp => by have := hg k hp; omega))
theorem size_same {w w' : World} (h : ∀ k, k < w.heap.size → w'.heap[k]? = w.heap[k]?) : w.heap.size ≤ w'.heap.size := by
  rcases Nat.eq_zero_or_pos w.heap.size with h0 | h0
  · omega
  · have h1 := h (w.heap.size - 1) (by omega)
    rw [Array.getElem?_eq_getElem (by omega : w.heap.size - 1 < w.heap.size)] at h1
    have := (Array.getElem?_eq_some_iff.1 h1).1
    omega
theorem RdT.safe {P : Nat → Prop} {w : World} {cs : Array Value} {lv : Nat → List It} {vs : Nat → Int} (h : RdT w cs lv vs) (hp : ∀ k, P k → w.heap.size ≤ k) : SafeP P w cs lv vs :=
  fun W hW => by
    have h1 : ∀ k, k < w.heap.size → W.heap[k]? = w.heap[k]? := fun k hk => hW k hk fun p => by have := hp k p; omega
    exact h.keep (size_same h1) h1
def edV (x : Ed) : Value := .agg #[.string (str x.key), .int .i64 x.v.k, .int .i64 x.v.i, .string (str x.v.s)]
def ApZ (w : World) (cs : Array Value) (lv : Nat → List It) (vs : Nat → Int) (x : Ed) (ver : Int) (i : Nat) (e : Ending) (w' : World) : Prop :=
  if apE lv vs x ver = 0 then ∃ ct, e = .returned (.agg ct) ∧ ct.size = 32 ∧ ct.all (·.oneCell') = true ∧ Hid (∀ P : Nat → Prop, (∀ k, P k → k < w.heap.size) → SafeP P w cs lv vs → SafeP P w' ct (apLv lv vs x ver) (apVs lv vs x ver)) ∧ Below w.heap.size w w'
  else e = .panicked (faultC (apE lv vs x ver) i) ∧ Below w.heap.size w w'
theorem row_facts {w2 W : World} {n m : Nat} {CT zs : Array Value} {t : TypeId} (hW : W = (w2.alloc (.cells zs t)).setRow w2.heap.size CT) :
    W.heap[w2.heap.size]? = some (.cells CT t (0, 0)) ∧ (∀ k, k < w2.heap.size → W.heap[k]? = w2.heap[k]?) ∧ w2.heap.size < W.heap.size ∧ Below w2.heap.size w2 W := by
  have q := heap_alloc_new w2 (.cells zs t)
  have bA := (Below.refl w2.heap.size w2).alloc (Nat.le_refl _) (.cells zs t)
  subst hW
  refine ⟨setRow_heap _ _ _ CT _ _ q, fun k hk => (setRow_other _ _ _ _ (by omega)).trans (bA.block k hk), ?_, below_row bA (Nat.le_refl _) CT⟩
  rw [setRow_size]; simp
set_option maxRecDepth 100000 in
set_option maxHeartbeats 2000000 in
theorem apply13_any (cs : Array Value) (lv : Nat → List It) (vs : Nat → Int) (x : Ed) (ver : Int) (i : Nat) (w : World) (tab : TabAt w) (h : RdT w cs lv vs) (hsz : SzT lv) (hk : x.key.length ≤ maxLen) (hxs : x.v.s.length ≤ maxLen) :
    Calls Tryd.prog 75 #[.agg cs, edV x, .int .i64 ver, .int .i64 (i : Int)] w (ApZ w cs lv vs x ver i) := by
  unfold edV
  have z0 := zeroT_run
  have z1 := zT_ne
  have hs := h.size
  have hsT := infoTc hs
  have ho := h.one
  obtain ⟨q4, q5, q8, z3⟩ := allocs3 w (.cells cs 26) (.cells #[.string (str x.key), .int .i64 x.v.k, .int .i64 x.v.i, .string (str x.v.s)] 68) (.cells zT 26)
  have bel : Below w.heap.size w (((w.alloc (.cells cs 26)).alloc (.cells #[.string (str x.key), .int .i64 x.v.k, .int .i64 x.v.i, .string (str x.v.s)] 68)).alloc (.cells zT 26)) := (((Below.refl _ w).alloc (Nat.le_refl _) _).alloc (by simp) _).alloc (by simp; omega) _
  obtain ⟨Z, hZ⟩ : ∃ Z, Z = ApZ w cs lv vs x ver i := ⟨_, rfl⟩
  rw [← hZ]
  have HZ := Lib.hid hZ
  clear hZ
  by_cases k0 : x.v.k = 0
  · have tk : (x.v.k == 0) = true := by rw [k0]; rfl
    have DL := Lib.hid (tdel_any cs lv vs x.key ver _ (tab.below bel) (h.below bel (Nat.le_refl _)) hsz hk)
    have HR := Lib.hid h
    have HK := Lib.hid k0
    clear k0 h hsz hk hxs tab
    go_enter Tryd.func75, Tryd.ntmps75
    go_wp2_with ((with_reducible refine wpList_load_row (o := ⟨some 18, _, _, _, _, _⟩) rfl 26 (.tmp 4) rfl _ rfl _ cs (0, 0) _ q4 Tryd.underlying26 rfl hsT ?_))
    refine DL.out.mono ?_
    intro e w2 hP
    unfold DelP at hP
    by_cases hd : delTE lv vs x.key ver = 0
    · rw [if_pos hd] at hP
      obtain ⟨u, rfl, own, g⟩ := hP
      obtain ⟨CT, hCT⟩ : ∃ C, C = (cs.setIfInBounds (bkN x.key) u).setIfInBounds (16 + bkN x.key) (.int .i64 ver) := ⟨_, rfl⟩
      rw [← hCT]
      replace q4 := (g.block _ (lt_of_block q4)).trans q4
      replace q8 := (g.block _ (lt_of_block q8)).trans q8
      have belg := chain bel g
      have RC : RdT w2 CT (upd lv (bkN x.key) (withoutL (lv (bkN x.key)) x.key)) (upd vs (bkN x.key) ver) := by rw [hCT]; exact (HR.out.below belg (Nat.le_refl _)).put (bkN_lt _) (own_rdk itC_len own)
      have hsC := RC.size
      have hoC := RC.one
      have HC := Lib.hid hCT
      have HO := Lib.hid own
      have HG := Lib.hid g
      have hl8 := lt_of_block q8
      have HD := Lib.hid hd
      clear RC hCT own g DL hd
      go_wp2_with (first | ((with_reducible refine wpList_load_row (o := ⟨some 27, _, _, _, _, _⟩) rfl 26 (.tmp 9) rfl _ rfl _ CT (0, 0) _ q9 Tryd.underlying26 rfl (infoTc hsC) ?_)) | ((with_reducible refine wpList_store_row (o := ⟨none, _, _, _, _, _⟩) rfl 26 (.tmp 8) (.tmp 27) rfl _ CT rfl rfl _ zT q8 (infoTc hsC) (zT_size.trans hsC.symm) hoC ?_); (obtain ⟨WU, hWU⟩ : ∃ W, W = World.setRow WT (w.heap.size + 2) CT := ⟨_, rfl⟩); rw [← hWU]; (have qU : WU.heap[w.heap.size + 2]? = some (.cells CT 26 (0, 0)) := by rw [hWU]; exact setRow_heap _ _ _ _ _ _ q8); (have oU : ∀ k, k ≠ w.heap.size + 2 → WU.heap[k]? = WT.heap[k]? := by rw [hWU]; exact fun k hk => setRow_other _ _ _ _ hk); (have sU : WU.heap.size = WT.heap.size := by rw [hWU, setRow_size]); (have bU : Below w.heap.size WT WU := by rw [hWU]; exact below_row (Below.refl _ _) (by omega) _); clear hWU) | ((with_reducible refine wpList_store_row (o := ⟨none, _, _, _, _, _⟩) rfl 26 (.tmp 9) (.tmp 23) rfl _ CT rfl rfl _ zT (heap_alloc_new w2 (.cells zT 26)) (infoTc hsC) (zT_size.trans hsC.symm) hoC ?_); (obtain ⟨WT, hWT⟩ : ∃ W, W = World.setRow (w2.alloc (.cells zT 26)) w2.heap.size CT := ⟨_, rfl⟩); rw [← hWT]; (obtain ⟨q9, o9, l9, b9⟩ := row_facts (n := 0) (m := 0) hWT); (replace q8 := (o9 _ hl8).trans q8); clear hWT))
      refine bodyPost_ret (v := .agg CT) (results_cell_row rfl _ _ _ _ CT (0, 0) _ rfl qU Tryd.underlying26 rfl (infoTc hsC)) rfl ?_
      rw [HZ.out]
      unfold ApZ
      obtain ⟨e1, e2, e3⟩ := apDel (lv := lv) (vs := vs) (x := x) (ver := ver) HK.out HD.out
      rw [if_pos e1, e2, e3]
      have hkeep : ∀ k, k < w2.heap.size → k ≠ w.heap.size + 2 → WU.heap[k]? = w2.heap[k]? := fun k hk h2 => (oU k h2).trans (o9 k hk)
      refine ⟨CT, rfl, hsC, hoC, Lib.hid fun P hB hS => ?_, (belg.trans (b9.mono belg.size)).trans bU⟩
      have hS2 : SafeP P WU cs lv vs := hS.later (by have := belg.size; omega) fun k hk _ => (hkeep k (by have := belg.size; omega) (by omega)).trans (belg.block k hk)
      rw [HC.out]
      refine hS2.put (base := w.heap.size + 3) (bkN_lt _) ?_ (fun k hp => by have := hB k hp; omega)
      refine own_moved2 (own_base HO.out (by rw [z3]; exact Nat.le_refl _)) fun g h1 h2 => hkeep g h2 (by omega)
    · rw [if_neg hd] at hP
      obtain ⟨rfl, g⟩ := hP
      replace q4 := (g.block _ (lt_of_block q4)).trans q4
      replace q8 := (g.block _ (lt_of_block q8)).trans q8
      have BG := Lib.hid (chain bel g)
      have HS := Lib.hid bel.size
      have hl8 := lt_of_block q8
      have hl4 := lt_of_block q4
      have hd2 : (((delTE lv vs x.key ver : Nat) : Int) == 0) = false := by rw [beq_eq_false_iff_ne]; omega
      obtain ⟨c, hc⟩ : ∃ c, c = delTE lv vs x.key ver := ⟨_, rfl⟩
      rw [← hc] at hd2 ⊢
      have HD := Lib.hid hd
      have BL := Lib.hid bel
      have G0 := Lib.hid g
      clear hc hd g bel DL
      go_wp2_with (first | ((with_reducible refine wpList_load_row (o := ⟨some 28, _, _, _, _, _⟩) rfl 26 (.tmp 4) rfl _ rfl _ cs (0, 0) _ q4 Tryd.underlying26 rfl hsT ?_)) | ((with_reducible refine wpList_store_row (o := ⟨none, _, _, _, _, _⟩) rfl 26 (.tmp 8) (.tmp 28) rfl _ cs rfl rfl _ zT q8 (infoTc hs) (zT_size.trans hs.symm) ho ?_); (obtain ⟨WU, hWU⟩ : ∃ W, W = World.setRow WT (w.heap.size + 2) cs := ⟨_, rfl⟩); rw [← hWU]; (have qU : WU.heap[w.heap.size + 2]? = some (.cells cs 26 (0, 0)) := by rw [hWU]; exact setRow_heap _ _ _ _ _ _ q8); (have oU : ∀ k, k ≠ w.heap.size + 2 → WU.heap[k]? = WT.heap[k]? := by rw [hWU]; exact fun k hk => setRow_other _ _ _ _ hk); (have sU : WU.heap.size = WT.heap.size := by rw [hWU, setRow_size]); (have bU : Below w.heap.size WT WU := by rw [hWU]; exact below_row (Below.refl _ _) (by omega) _); clear hWU) | ((with_reducible refine wpList_store_row (o := ⟨none, _, _, _, _, _⟩) rfl 26 (.tmp 9) (.tmp 23) rfl _ zT rfl rfl _ zT (heap_alloc_new w2 (.cells zT 26)) (infoTc zT_size) (zT_size.trans zT_size.symm) zT_one ?_); (obtain ⟨WT, hWT⟩ : ∃ W, W = World.setRow (w2.alloc (.cells zT 26)) w2.heap.size zT := ⟨_, rfl⟩); rw [← hWT]; (obtain ⟨q9, o9, l9, b9⟩ := row_facts (n := 0) (m := 0) hWT); (replace q4 := (o9 _ hl4).trans q4); (replace q8 := (o9 _ hl8).trans q8); clear hWT))
      refine bodyPost_ret (v := .agg cs) (results_cell_row rfl _ _ _ _ cs (0, 0) _ rfl qU Tryd.underlying26 rfl (infoTc hs)) rfl ?_
      rw [HZ.out]
      unfold ApZ
      obtain ⟨e1, e2, e3⟩ := apNo (lv := lv) (vs := vs) (x := x) (ver := ver) HK.out HD.out
      rw [if_pos e1, e2, e3]
      have hkeep : ∀ k, k < w.heap.size → WU.heap[k]? = w.heap[k]? := fun k hk => (oU k (by omega)).trans ((o9 k (by omega)).trans (BG.out.block k hk))
      refine ⟨cs, rfl, hs, ho, Lib.hid fun P hB hS => hS.later (by have := BG.out.size; omega) fun k hk _ => hkeep k hk, (BG.out.trans (b9.mono BG.out.size)).trans bU⟩
  · have tk : (x.v.k == 0) = false := beq_eq_false_iff_ne.2 k0
    have PU := Lib.hid (tput_any cs lv vs (edI x ver) _ (tab.below bel) (h.below bel (Nat.le_refl _)) hsz hk hxs)
    have HR := Lib.hid h
    have HK := Lib.hid k0
    clear k0 h hsz hk hxs tab
    unfold itV at PU
    go_enter Tryd.func75, Tryd.ntmps75
    go_wp2_with ((with_reducible refine wpList_load_row (o := ⟨some 30, _, _, _, _, _⟩) rfl 26 (.tmp 4) rfl _ rfl _ cs (0, 0) _ q4 Tryd.underlying26 rfl hsT ?_))
    refine PU.out.mono ?_
    intro e w2 hP
    unfold PutP at hP
    by_cases hd : putTE lv vs (edI x ver) = 0
    · rw [if_pos hd] at hP
      obtain ⟨u, rfl, own, g⟩ := hP
      obtain ⟨CT, hCT⟩ : ∃ C, C = (cs.setIfInBounds (bkN (edI x ver).key) u).setIfInBounds (16 + bkN (edI x ver).key) (.int .i64 (edI x ver).ver) := ⟨_, rfl⟩
      rw [← hCT]
      replace q4 := (g.block _ (lt_of_block q4)).trans q4
      replace q8 := (g.block _ (lt_of_block q8)).trans q8
      have belg := chain bel g
      have RC : RdT w2 CT (upd lv (bkN (edI x ver).key) (withL (lv (bkN (edI x ver).key)) (edI x ver))) (upd vs (bkN (edI x ver).key) (edI x ver).ver) := by rw [hCT]; exact (HR.out.below belg (Nat.le_refl _)).put (bkN_lt _) (own_rdk itC_len own)
      have hsC := RC.size
      have hoC := RC.one
      have HC := Lib.hid hCT
      have HO := Lib.hid own
      have hl8 := lt_of_block q8
      have HD := Lib.hid hd
      clear RC hCT own g PU hd
      go_wp2_with (first | ((with_reducible refine wpList_load_row (o := ⟨some 45, _, _, _, _, _⟩) rfl 26 (.tmp 11) rfl _ rfl _ CT (0, 0) _ q9 Tryd.underlying26 rfl (infoTc hsC) ?_)) | ((with_reducible refine wpList_store_row (o := ⟨none, _, _, _, _, _⟩) rfl 26 (.tmp 8) (.tmp 45) rfl _ CT rfl rfl _ zT q8 (infoTc hsC) (zT_size.trans hsC.symm) hoC ?_); (obtain ⟨WU, hWU⟩ : ∃ W, W = World.setRow WT (w.heap.size + 2) CT := ⟨_, rfl⟩); rw [← hWU]; (have qU : WU.heap[w.heap.size + 2]? = some (.cells CT 26 (0, 0)) := by rw [hWU]; exact setRow_heap _ _ _ _ _ _ q8); (have oU : ∀ k, k ≠ w.heap.size + 2 → WU.heap[k]? = WT.heap[k]? := by rw [hWU]; exact fun k hk => setRow_other _ _ _ _ hk); (have sU : WU.heap.size = WT.heap.size := by rw [hWU, setRow_size]); (have bU : Below w.heap.size WT WU := by rw [hWU]; exact below_row (Below.refl _ _) (by omega) _); clear hWU) | ((with_reducible refine wpList_store_row (o := ⟨none, _, _, _, _, _⟩) rfl 26 (.tmp 11) (.tmp 38) rfl _ CT rfl rfl _ zT (heap_alloc_new w2 (.cells zT 26)) (infoTc hsC) (zT_size.trans hsC.symm) hoC ?_); (obtain ⟨WT, hWT⟩ : ∃ W, W = World.setRow (w2.alloc (.cells zT 26)) w2.heap.size CT := ⟨_, rfl⟩); rw [← hWT]; (obtain ⟨q9, o9, l9, b9⟩ := row_facts (n := 0) (m := 0) hWT); (replace q8 := (o9 _ hl8).trans q8); clear hWT) | ((with_reducible refine (must_yes _ _ _).mono ?_); rintro e wm ⟨rfl, rfl⟩) | ((with_reducible refine (must_no _ _ _).mono ?_); rintro e wm ⟨rfl, rfl⟩))
      refine bodyPost_ret (v := .agg CT) (results_cell_row rfl _ _ _ _ CT (0, 0) _ rfl qU Tryd.underlying26 rfl (infoTc hsC)) rfl ?_
      rw [HZ.out]
      unfold ApZ
      obtain ⟨e1, e2, e3⟩ := apPut (lv := lv) (vs := vs) (x := x) (ver := ver) HK.out
      rw [e1, if_pos HD.out, e2, e3]
      have hkeep : ∀ k, k < w2.heap.size → k ≠ w.heap.size + 2 → WU.heap[k]? = w2.heap[k]? := fun k hk h2 => (oU k h2).trans (o9 k hk)
      refine ⟨CT, rfl, hsC, hoC, Lib.hid fun P hB hS => ?_, (belg.trans (b9.mono belg.size)).trans bU⟩
      have hS2 : SafeP P WU cs lv vs := hS.later (by have := belg.size; omega) fun k hk _ => (hkeep k (by have := belg.size; omega) (by omega)).trans (belg.block k hk)
      rw [HC.out]
      refine hS2.put (base := w.heap.size + 3) (bkN_lt _) ?_ (fun k hp => by have := hB k hp; omega)
      refine own_moved2 (own_base HO.out (by rw [z3]; exact Nat.le_refl _)) fun g h1 h2 => hkeep g h2 (by omega)
    · rw [if_neg hd] at hP
      obtain ⟨rfl, g⟩ := hP
      replace q4 := (g.block _ (lt_of_block q4)).trans q4
      replace q8 := (g.block _ (lt_of_block q8)).trans q8
      have BG := Lib.hid (chain bel g)
      have hl8 := lt_of_block q8
      have hd2 : (((putTE lv vs (edI x ver) : Nat) : Int) == 0) = false := by rw [beq_eq_false_iff_ne]; omega
      have HF := Lib.hid (show apE lv vs x ver = putTE lv vs (edI x ver) from (apPut HK.out).1)
      obtain ⟨c, hc⟩ : ∃ c, c = putTE lv vs (edI x ver) := ⟨_, rfl⟩
      rw [← hc] at hd2 HF ⊢
      rw [← hc] at hd
      have HD := Lib.hid hd
      clear hc hd g bel PU
      go_wp2_with (first | ((with_reducible refine wpList_store_row (o := ⟨none, _, _, _, _, _⟩) rfl 26 (.tmp 11) (.tmp 38) rfl _ zT rfl rfl _ zT (heap_alloc_new w2 (.cells zT 26)) (infoTc zT_size) (zT_size.trans zT_size.symm) zT_one ?_); (obtain ⟨WT, hWT⟩ : ∃ W, W = World.setRow (w2.alloc (.cells zT 26)) w2.heap.size zT := ⟨_, rfl⟩); rw [← hWT]; (obtain ⟨q9, o9, l9, b9⟩ := row_facts (n := 0) (m := 0) hWT); (replace q8 := (o9 _ hl8).trans q8); clear hWT) | ((with_reducible refine (must_yes _ _ _).mono ?_); rintro e wm ⟨rfl, rfl⟩) | ((with_reducible refine (must_no _ _ _).mono ?_); rintro e wm ⟨rfl, rfl⟩))
      refine ⟨rfl, ?_⟩
      rw [HZ.out]
      unfold ApZ
      rw [HF.out, if_neg HD.out]
      exact ⟨rfl, BG.out.trans (b9.mono BG.out.size)⟩
end Go.Proofs.YtbdfcgffkonbiaaDoor
