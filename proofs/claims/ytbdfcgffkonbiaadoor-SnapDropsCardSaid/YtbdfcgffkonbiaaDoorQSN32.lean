/- Stores: Few, Same. Written by wip/tools/gen13c.py. -/
import Derived.Test.YtbdfcgffkonbiaaDoorQSN31
namespace Go.Proofs.YtbdfcgffkonbiaaDoor
open Go Go.RowKit
set_option linter.unusedVariables false
set_option linter.unusedSimpArgs false
def zS : Array Value := #[.slice none 0 0, .slice none 0 0, .slice none 0 0, .slice none 0 0, .slice none 0 0, .slice none 0 0, .slice none 0 0, .slice none 0 0, .slice none 0 0, .slice none 0 0, .slice none 0 0, .slice none 0 0, .slice none 0 0, .slice none 0 0, .slice none 0 0, .slice none 0 0, .int .i64 0, .int .i64 0, .int .i64 0, .int .i64 0, .int .i64 0, .int .i64 0, .int .i64 0, .int .i64 0, .int .i64 0, .int .i64 0, .int .i64 0, .int .i64 0, .int .i64 0, .int .i64 0, .int .i64 0, .int .i64 0, .int .i64 0, .int .i64 0, .int .i64 0]
theorem zeroS_run (w : World) : (zeroValue 28).run Tryd.prog w = .ok (.agg zS) w := by kernel_rfl
theorem zS_ne : zS ≠ #[] := by simp [zS]
theorem zS_size : zS.size = 35 := rfl
theorem zS_built : Tryd.prog.built 28 [] = some zS := by kernel_rfl
theorem zS_t : tC zS = zT := by kernel_rfl
def stZ : St := ⟨fun _ => [], fun _ => 0, 0, 0, 0⟩
theorem rds_zero (w : World) : RdS w zS stZ := ⟨rfl, by rw [zS_t]; exact rdt_zero w, rfl, rfl, rfl⟩
/-- A store's cells whose leaves all lie in rows of a call's own. -/
structure OwnS (base : Nat) (w : World) (cs : Array Value) (s : St) : Prop where
  size : cs.size = 35
  tr : OwnT base w (tC cs) s.lv s.vs
  ver : cs[32]? = some (.int .i64 s.ver)
  by_ : cs[33]? = some (.int .i64 s.by_)
  ke : cs[34]? = some (.int .i64 s.ke)
theorem OwnS.rd {base : Nat} {w : World} {cs : Array Value} {s : St} (h : OwnS base w cs s) : RdS w cs s := ⟨h.size, h.tr.rd, h.ver, h.by_, h.ke⟩
theorem OwnS.moved {base : Nat} {w w' : World} {cs : Array Value} {s : St} (h : OwnS base w cs s) (hh : ∀ g, base ≤ g → g < w.heap.size → w'.heap[g]? = w.heap[g]?) : OwnS base w' cs s := ⟨h.size, h.tr.moved hh, h.ver, h.by_, h.ke⟩
theorem OwnS.below {base : Nat} {w w' : World} {cs : Array Value} {s : St} (h : OwnS base w cs s) (g : Below w.heap.size w w') : OwnS base w' cs s := h.moved fun k _ hk => g.block k hk
theorem OwnS.base {base base' : Nat} {w : World} {cs : Array Value} {s : St} (h : OwnS base w cs s) (hb : base' ≤ base) : OwnS base' w cs s := ⟨h.size, h.tr.base hb, h.ver, h.by_, h.ke⟩
theorem OwnS.one {base : Nat} {w : World} {cs : Array Value} {s : St} (h : OwnS base w cs s) : cs.all (·.oneCell') = true := Array.all_eq_true_iff_forall_mem.2 fun u hu => h.rd.one u (by simpa using hu)
/-- The store with another trunk. -/
theorem tC_putA {cs ct : Array Value} (h : cs.size = 35) (ht : ct.size = 32) : tC (putA cs 0 ct.toList) = ct := by
  apply Array.ext_getElem?
  intro i
  rcases Nat.lt_or_ge i 32 with hi | hi
  · rw [tC_at hi]
    have := putA_in ct.toList 0 cs i (by simp; omega) (by simp; omega)
    rw [Nat.zero_add] at this
    rw [this]; simp
  · rw [Array.getElem?_eq_none (by rw [tC_size (by rw [putA_size]; exact h)]; exact hi), Array.getElem?_eq_none (by omega)]
theorem putA_rest {cs ct : Array Value} {i : Nat} (ht : ct.size = 32) (hi : 32 ≤ i) : (putA cs 0 ct.toList)[i]? = cs[i]? := putA_out _ _ _ _ (.inr (by simp; omega))
/-- A store of which no more is looked at than may be. -/
def fewS (s : St) : St := ⟨fun b => fewL (s.lv b), s.vs, s.ver, s.by_, s.ke⟩
def FewSP (w : World) (s : St) (e : Ending) (w' : World) : Prop := ∃ cs, e = .returned (.agg cs) ∧ OwnS w.heap.size w' cs (fewS s) ∧ Below w.heap.size w w'
set_option maxRecDepth 100000 in
set_option maxHeartbeats 1000000 in
theorem few13_any (cs : Array Value) (s : St) (w : World) (h : RdS w cs s) (hsz : SzT s.lv) :
    Calls Tryd.prog 13 #[.agg cs] w (FewSP w s) := by
  have hs := h.size
  have hi := infoS h.size
  have z0 := zeroS_run
  have z1 := zS_ne
  obtain ⟨q1, q2, z2, -⟩ := two_allocs w (.cells cs 28) (.cells zS 28)
  have bel : Below w.heap.size w ((w.alloc (.cells cs 28)).alloc (.cells zS 28)) := ((Below.refl _ w).alloc (Nat.le_refl _) _).alloc (by simp) _
  obtain ⟨W0, hW0⟩ : ∃ W0, W0 = (w.alloc (.cells cs 28)).alloc (.cells zS 28) := ⟨_, rfl⟩
  rw [← hW0] at q1 q2 bel z2
  have FW := Lib.hid (few10_any (tC cs) s.lv s.vs W0 (h.tr.below bel (Nat.le_refl _)) hsz)
  have H32 := Lib.hid h.ver
  have H33 := Lib.hid h.by_
  have H34 := Lib.hid h.ke
  obtain ⟨Z, hZ⟩ : ∃ Z, Z = FewSP w s := ⟨_, rfl⟩
  rw [← hZ]
  have HZ := Lib.hid hZ
  have HZ2 := Lib.hid z2
  clear hZ h hsz z2
  subst hW0
  go_enter Tryd.func13, Tryd.ntmps13
  go_wp2_with ((with_reducible refine wpList_load_part (o := ⟨some 4, _, _, _, _, _⟩) rfl 26 (.tmp 3) rfl _ 0 rfl (tC cs) _ (tC_range q1) Tryd.underlying26 rfl (tC_infoA hs) ?_))
  refine FW.out.mono ?_
  rintro e v1 ⟨CF, rfl, own, g⟩
  have q1 := (g.block _ (lt_of_block q1)).trans q1
  have q2 := (g.block _ (lt_of_block q2)).trans q2
  have bel := chain bel g
  rw [HZ2.out] at own
  have hF := own.size
  have hsF := infoTc own.size
  have hoF := own.rd.one
  have th : v1.there w.heap.size 0 CF.size := there_of q1 (by rw [hF, hs]; decide)
  obtain ⟨C2, hC2⟩ : ∃ C, C = putA cs 0 CF.toList := ⟨_, rfl⟩
  have s2 : C2.size = 35 := by rw [hC2, putA_size]; exact hs
  have t2 := Lib.hid (show tC C2 = CF by rw [hC2]; exact tC_putA hs hF)
  have r2 := Lib.hid (show ∀ i, 32 ≤ i → C2[i]? = cs[i]? by rw [hC2]; exact fun i hi => putA_rest hF hi)
  have hi2 := infoS s2
  have hz2 : zS.size = C2.size := by rw [s2]; rfl
  have OS := Lib.hid (show ∀ W, OwnT w.heap.size W CF (fun b => fewL (s.lv b)) s.vs → OwnS w.heap.size W C2 (fewS s) from fun W h => ⟨s2, by rw [t2.out]; exact h, (r2.out 32 (by omega)).trans H32.out, (r2.out 33 (by omega)).trans H33.out, (r2.out 34 (by omega)).trans H34.out⟩)
  have ho2 := (OS.out _ (own.base (by omega))).one
  clear hs hF g s2
  go_wp2_with (first | ((with_reducible refine wpList_load_row (o := ⟨some 7, _, _, _, _, _⟩) rfl 28 (.tmp 1) rfl _ rfl _ C2 (0, 0) _ q1 Tryd.underlying28 rfl hi2 ?_)) | ((with_reducible refine wpList_store_row (o := ⟨none, _, _, _, _, _⟩) rfl 28 (.tmp 2) (.tmp 7) rfl _ C2 rfl rfl _ zS q2 hi2 hz2 ho2 ?_); (obtain ⟨WT, hWT⟩ : ∃ W, W = World.setRow WS (w.heap.size + 1) C2 := ⟨_, rfl⟩); rw [← hWT]; (have q9 : WT.heap[w.heap.size + 1]? = some (.cells C2 28 (0, 0)) := by rw [hWT]; exact setRow_heap _ _ _ C2 _ _ q2); (have own9 : OwnT w.heap.size WT CF (fun b => fewL (s.lv b)) s.vs := by rw [hWT]; exact (own.moved (fun k hk _ => by rw [setRow_other _ _ _ _ (by omega)])).base (by omega)); (have bel9 : Below w.heap.size w WT := by rw [hWT]; exact below_row bel (by omega) C2)) | ((with_reducible refine wpList_store_mid (op := ⟨none, _, _, _, _, _⟩) rfl 26 (.tmp 6) (.tmp 5) rfl _ 0 CF rfl rfl th hsF hoF ?_); (obtain ⟨WS, hWS⟩ : ∃ W, W = World.setCells v1 w.heap.size 0 CF.toList := ⟨_, rfl⟩); rw [← hWS]; (have q1 : WS.heap[w.heap.size]? = some (.cells C2 28 (0, 0)) := by rw [hWS, hC2]; exact sets_row _ _ _ _ q1); (have q2 : WS.heap[w.heap.size + 1]? = some (.cells zS 28 (0, 0)) := by rw [hWS, sets_other (by omega)]; exact q2); (have own : OwnT (w.heap.size + 2) WS CF (fun b => fewL (s.lv b)) s.vs := by rw [hWS]; exact own.moved (fun k hk _ => sets_other (by omega) _ _ _)); (have bel : Below w.heap.size w WS := by rw [hWS]; exact sets_below (Nat.le_refl _) _ _ _ bel); clear hWS))
  refine bodyPost_ret (v := .agg C2) (results_cell_row rfl _ _ _ _ C2 (0, 0) _ rfl q9 Tryd.underlying28 rfl hi2) rfl ?_
  rw [HZ.out]; exact ⟨C2, rfl, OS.out _ own9, bel9⟩
set_option maxRecDepth 100000 in
set_option maxHeartbeats 1000000 in
theorem same13_yes (ca cb : Array Value) (s : St) (w : World) (ha : RdS w ca s) (hb : RdS w cb s) (h100 : ∀ b, b < 16 → (s.lv b).length ≤ 100) :
    Calls Tryd.prog 16 #[.agg ca, .agg cb] w fun e w' => e = .returned (.bool true) ∧ Below w.heap.size w w' := by
  have hsa := ha.size
  have hsb := hb.size
  obtain ⟨q2, q3, -, -⟩ := two_allocs w (.cells ca 28) (.cells cb 28)
  have bel : Below w.heap.size w ((w.alloc (.cells ca 28)).alloc (.cells cb 28)) := ((Below.refl _ w).alloc (Nat.le_refl _) _).alloc (by simp) _
  obtain ⟨W0, hW0⟩ : ∃ W0, W0 = (w.alloc (.cells ca 28)).alloc (.cells cb 28) := ⟨_, rfl⟩
  rw [← hW0] at q2 q3 bel
  have SM := Lib.hid (tsame_yes (tC ca) (tC cb) s.lv s.vs W0 (ha.tr.below bel (Nat.le_refl _)) (hb.tr.below bel (Nat.le_refl _)) h100)
  have a1 := (block_cell q2 32).trans ha.ver
  have a2 := (block_cell q2 33).trans ha.by_
  have a3 := (block_cell q2 34).trans ha.ke
  have b1 := (block_cell q3 32).trans hb.ver
  have b2 := (block_cell q3 33).trans hb.by_
  have b3 := (block_cell q3 34).trans hb.ke
  clear ha hb h100
  subst hW0
  go_enter Tryd.func16, Tryd.ntmps16
  go_wp2_with (first | ((with_reducible refine wpList_load_part_g (o := ⟨some 26, _, _, _, _, _⟩) ?_ 26 (.tmp 25) rfl _ 0 rfl (tC ca) _ (tC_range q2) Tryd.underlying26 rfl (tC_infoA hsa) ?_); rfl) | ((with_reducible refine wpList_load_part_g (o := ⟨some 28, _, _, _, _, _⟩) ?_ 26 (.tmp 27) rfl _ 0 rfl (tC cb) _ (tC_range q3) Tryd.underlying26 rfl (tC_infoA hsb) ?_); rfl))
  refine SM.out.mono ?_
  rintro e w1 ⟨rfl, g⟩
  have bel := chain bel g
  clear g SM
  go_wp2_with fail
  go_ret
  exact ⟨rfl, bel⟩
end Go.Proofs.YtbdfcgffkonbiaaDoor
