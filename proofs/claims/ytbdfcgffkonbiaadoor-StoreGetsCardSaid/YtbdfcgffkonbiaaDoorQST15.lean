/- Trunks: Put, Delete. Written by wip/tools/gen10e.py. -/
import Derived.Test.YtbdfcgffkonbiaaDoorQST14
namespace Go.Proofs.YtbdfcgffkonbiaaDoor
open Go Go.RowKit
set_option linter.unusedVariables false
set_option linter.unusedSimpArgs false
def putC (lv : Nat → List It) (vs : Nat → Int) (b : Nat) (x : It) : Nat := if putE (lv b) x ≠ 1 ∧ x.ver < vs b then 18 else putE (lv b) x
def delC (lv : Nat → List It) (vs : Nat → Int) (b : Nat) (k : List UInt8) (ver : Int) : Nat := if delE (lv b) k = 0 ∧ ver < vs b then 18 else delE (lv b) k
set_option maxRecDepth 100000 in
set_option maxHeartbeats 2000000 in
theorem put1_any (x : It) (B1 B2 : Nat) (b : Nat) (hb16 : b < 16) (cs : Array Value) (lv : Nat → List It) (vs : Nat → Int) (w : World) (tab : TabAt w) (h : RdT w cs lv vs) (hsz : SzT lv) (q10 : w.heap[B1]? = some (.cells cs 26 (0, 0))) (q20 : w.heap[B2]? = some (.cells #[.string (str x.key), .int .i64 x.v.k, .int .i64 x.v.i, .string (str x.v.s), .int .i64 x.ver] 53 (0, 0))) (hxk : x.key.length ≤ maxLen) (hxs : x.v.s.length ≤ maxLen) :
    Calls Tryd.prog 129 #[.int .i64 (b : Int), .pointer (some ⟨B1, 0, none⟩), .pointer (some ⟨B2, 0, none⟩)] w (ChgP w (putR (lv b) x) x.ver (putC lv vs b x)) := by
  have hb16i : (b : Int) < 16 := by omega
  obtain ⟨u, hu, hru⟩ := h.leaf b hb16
  have HU := Lib.hid hu
  have HV := Lib.hid (h.ver b hb16)
  have HRU := Lib.hid hru
  have LP := Lib.hid (fun W u t h => lput_any u (lv b) x W t h (hsz b hb16) hxk hxs)
  obtain ⟨E, hE⟩ : ∃ E, E = putE (lv b) x := ⟨_, rfl⟩
  obtain ⟨Z, hZ⟩ : ∃ Z, Z = ChgP w (putR (lv b) x) x.ver (putC lv vs b x) := ⟨_, rfl⟩
  obtain ⟨C, hC⟩ : ∃ C, C = putC lv vs b x := ⟨_, rfl⟩
  have hC2 : C = if E ≠ 1 ∧ x.ver < vs b then 18 else E := by rw [hC, hE]; rfl
  rw [← hZ]
  rw [← hC] at hZ
  rw [← hE] at LP
  obtain ⟨LL, hLL⟩ : ∃ LL, LL = putR (lv b) x := ⟨_, rfl⟩
  rw [← hLL] at LP hZ
  have HZ := Lib.hid hZ
  have HC := Lib.hid hC2
  obtain ⟨V, hV⟩ : ∃ V, V = vs b := ⟨_, rfl⟩
  rw [← hV] at HV HC
  clear hZ hC hC2 hE hu hru hLL hV h hsz
  by_cases hy : E ≠ 1
  · have hyb : ((E : Int) != 1) = true := by rw [bne_iff_ne]; omega
    by_cases hv : x.ver < V
    · have hvb : decide (x.ver < V) = true := by simpa using hv
      have HCODE := Lib.hid (show (18 : Nat) = C by rw [HC.out, if_pos ⟨hy, hv⟩])
      clear hy hv
      go_enter Tryd.func129, Tryd.ntmps129
      go_wp2_with fail
      refine g_start (by kernel_rfl) ?_
      refine g_take (i := 0) (d := (some 10)) (v := ?_) rfl rfl (by kernel_rfl) (fun _ _ _ h => h) (by rfl) (fun w' hb' => ?_) ?_
      rotate_left
      · (try go_simp); (try with_reducible rfl)
      try simp only [Act.put, List.setIfInBounds_toArray, List.set_cons_zero, List.set_cons_succ]
      refine g_take (i := 1) (d := (some 11)) (v := ?_) rfl rfl (by kernel_rfl) (fun _ _ _ h => h) (by rfl) (fun w' hb' => ?_) ?_
      rotate_left
      · (try go_simp); (try with_reducible rfl)
      try simp only [Act.put, List.setIfInBounds_toArray, List.set_cons_zero, List.set_cons_succ]
      refine g_take (i := 2) (d := (some 12)) (v := ?_) rfl rfl (by kernel_rfl) (fun _ _ _ h => h) (by rfl) (fun w' hb' => ?_) ?_
      rotate_left
      · (try go_simp); (try with_reducible rfl)
      try simp only [Act.put, List.setIfInBounds_toArray, List.set_cons_zero, List.set_cons_succ]
      refine g_take (i := 3) (d := (some 13)) (v := ?_) rfl rfl (by kernel_rfl) (fun _ _ _ h => h) (by rfl) (fun w' hb' => ?_) ?_
      rotate_left
      · have zz := (hb'.cell (p := ⟨B1, b, none⟩) (lt_of_block q10)).trans ((block_cell q10 b).trans HU.out); (try go_simp); (try with_reducible rfl)
      try simp only [Act.put, List.setIfInBounds_toArray, List.set_cons_zero, List.set_cons_succ]
      refine g_take (i := 4) (d := (some 14)) (v := ?_) rfl rfl (by kernel_rfl) (fun _ _ _ h => h) (by rfl) (fun w' hb' => ?_) ?_
      rotate_left
      · obtain ⟨d0, d1, d2, d3, d4, dz⟩ := block_cells5 ((hb'.block _ (lt_of_block q20)).trans q20); (try go_simp); (try with_reducible rfl)
      try simp only [Act.put, List.setIfInBounds_toArray, List.set_cons_zero, List.set_cons_succ]
      refine g_run (i := 5) rfl (by kernel_rfl) (by rfl) (fun K hK => ?_)
      go_simp; refine (LP.out _ _ (tab.below (Below.drew (Below.refl _ _))) (HRU.out.below (Below.drew (Below.refl _ _)) (Nat.le_refl _))).mono ?_; rintro e w1 ⟨v1, rfl, own, gg⟩; have g1 := Below.trans (Below.drew (Below.refl w.heap.size w)) gg; have bel1 := g1; have own := own; have q11 := (g1.block _ (lt_of_block q10)).trans q10; have q21 := (g1.block _ (lt_of_block q20)).trans q20; refine hK _ _ ⟨gg, ?_⟩; clear hK K gg
      try simp only [Act.put, List.setIfInBounds_toArray, List.set_cons_zero, List.set_cons_succ]
      refine g_take (i := 6) (d := (some 9)) (v := ?_) rfl rfl (by kernel_rfl) (fun _ _ _ h => h) (by rfl) (fun w' hb' => ?_) ?_
      rotate_left
      · (try go_simp); (try with_reducible rfl)
      try simp only [Act.put, List.setIfInBounds_toArray, List.set_cons_zero, List.set_cons_succ]
      refine g_take (i := 7) (d := (some 16)) (v := ?_) rfl rfl (by kernel_rfl) (fun _ _ _ h => h) (by rfl) (fun w' hb' => ?_) ?_
      rotate_left
      · (try go_simp); (try with_reducible rfl)
      try simp only [Act.put, List.setIfInBounds_toArray, List.set_cons_zero, List.set_cons_succ]
      refine g_take (i := 8) (d := (some 17)) (v := ?_) rfl rfl (by kernel_rfl) (fun _ _ _ h => h) (by rfl) (fun w' hb' => ?_) ?_
      rotate_left
      · (try go_simp); (try with_reducible rfl)
      try simp only [Act.put, List.setIfInBounds_toArray, List.set_cons_zero, List.set_cons_succ]
      refine g_take (i := 9) (d := (some 7)) (v := ?_) rfl rfl (by kernel_rfl) (fun _ _ _ h => h) (by rfl) (fun w' hb' => ?_) ?_
      rotate_left
      · (try go_simp); (try with_reducible rfl)
      try simp only [Act.put, List.setIfInBounds_toArray, List.set_cons_zero, List.set_cons_succ]
      refine g_take (i := 10) (d := (some 8)) (v := ?_) rfl rfl (by kernel_rfl) (fun _ _ _ h => h) (by rfl) (fun w' hb' => ?_) ?_
      rotate_left
      · (try go_simp); (try with_reducible rfl)
      try simp only [Act.put, List.setIfInBounds_toArray, List.set_cons_zero, List.set_cons_succ]
      refine g_done (by kernel_rfl) ?_
      go_wp2_with fail
      refine g_start (by kernel_rfl) ?_
      refine g_take (i := 0) (d := (some 18)) (v := ?_) rfl rfl (by kernel_rfl) (fun _ _ _ h => h) (by rfl) (fun w' hb' => ?_) ?_
      rotate_left
      · (try go_simp); (try with_reducible rfl)
      try simp only [Act.put, List.setIfInBounds_toArray, List.set_cons_zero, List.set_cons_succ]
      refine g_take (i := 1) (d := (some 19)) (v := ?_) rfl rfl (by kernel_rfl) (fun _ _ _ h => h) (by rfl) (fun w' hb' => ?_) ?_
      rotate_left
      · (try go_simp); (try with_reducible rfl)
      try simp only [Act.put, List.setIfInBounds_toArray, List.set_cons_zero, List.set_cons_succ]
      refine g_take (i := 2) (d := (some 20)) (v := ?_) rfl rfl (by kernel_rfl) (fun _ _ _ h => h) (by rfl) (fun w' hb' => ?_) ?_
      rotate_left
      · (try go_simp); (try with_reducible rfl)
      try simp only [Act.put, List.setIfInBounds_toArray, List.set_cons_zero, List.set_cons_succ]
      refine g_take (i := 3) (d := (some 21)) (v := ?_) rfl rfl (by kernel_rfl) (fun _ _ _ h => h) (by rfl) (fun w' hb' => ?_) ?_
      rotate_left
      · (try go_simp); (try with_reducible rfl)
      try simp only [Act.put, List.setIfInBounds_toArray, List.set_cons_zero, List.set_cons_succ]
      refine g_take (i := 4) (d := (some 22)) (v := ?_) rfl rfl (by kernel_rfl) (fun _ _ _ h => h) (by rfl) (fun w' hb' => ?_) ?_
      rotate_left
      · obtain ⟨d0, d1, d2, d3, d4, dz⟩ := block_cells5 ((hb'.block _ (lt_of_block q21)).trans q21); (try go_simp); (try with_reducible rfl)
      try simp only [Act.put, List.setIfInBounds_toArray, List.set_cons_zero, List.set_cons_succ]
      refine g_take (i := 5) (d := (some 23)) (v := ?_) rfl rfl (by kernel_rfl) (fun _ _ _ h => h) (by rfl) (fun w' hb' => ?_) ?_
      rotate_left
      · (try go_simp); (try with_reducible rfl)
      try simp only [Act.put, List.setIfInBounds_toArray, List.set_cons_zero, List.set_cons_succ]
      refine g_take (i := 6) (d := (some 24)) (v := ?_) rfl rfl (by kernel_rfl) (fun _ _ _ h => h) (by rfl) (fun w' hb' => ?_) ?_
      rotate_left
      · (try go_simp); (try with_reducible rfl)
      try simp only [Act.put, List.setIfInBounds_toArray, List.set_cons_zero, List.set_cons_succ]
      refine g_take (i := 7) (d := (some 25)) (v := ?_) rfl rfl (by kernel_rfl) (fun _ _ _ h => h) (by rfl) (fun w' hb' => ?_) ?_
      rotate_left
      · (try go_simp); (try with_reducible rfl)
      try simp only [Act.put, List.setIfInBounds_toArray, List.set_cons_zero, List.set_cons_succ]
      refine g_take (i := 8) (d := (some 26)) (v := ?_) rfl rfl (by kernel_rfl) (fun _ _ _ h => h) (by rfl) (fun w' hb' => ?_) ?_
      rotate_left
      · have zz := (hb'.cell (p := ⟨B1, 16 + b, none⟩) (lt_of_block q11)).trans ((block_cell q11 (16 + b)).trans HV.out); have zy := zz; rw [Nat.add_comm 16 b] at zy; (try go_simp); (try with_reducible rfl)
      try simp only [Act.put, List.setIfInBounds_toArray, List.set_cons_zero, List.set_cons_succ]
      refine g_take (i := 9) (d := (some 27)) (v := ?_) rfl rfl (by kernel_rfl) (fun _ _ _ h => h) (by rfl) (fun w' hb' => ?_) ?_
      rotate_left
      · (try go_simp); (try with_reducible rfl)
      try simp only [Act.put, List.setIfInBounds_toArray, List.set_cons_zero, List.set_cons_succ]
      refine g_take (i := 10) (d := (some 28)) (v := ?_) rfl rfl (by kernel_rfl) (fun _ _ _ h => h) (by rfl) (fun w' hb' => ?_) ?_
      rotate_left
      · (try go_simp); (try with_reducible rfl)
      try simp only [Act.put, List.setIfInBounds_toArray, List.set_cons_zero, List.set_cons_succ]
      refine g_done (by kernel_rfl) ?_
      go_wp2_with fail
      refine g_start (by kernel_rfl) ?_
      refine g_take (i := 0) (d := (some 29)) (v := ?_) rfl rfl (by kernel_rfl) (fun _ _ _ h => h) (by rfl) (fun w' hb' => ?_) ?_
      rotate_left
      · (try go_simp); (try with_reducible rfl)
      try simp only [Act.put, List.setIfInBounds_toArray, List.set_cons_zero, List.set_cons_succ]
      refine g_take (i := 1) (d := (some 30)) (v := ?_) rfl rfl (by kernel_rfl) (fun _ _ _ h => h) (by rfl) (fun w' hb' => ?_) ?_
      rotate_left
      · (try go_simp); (try with_reducible rfl)
      try simp only [Act.put, List.setIfInBounds_toArray, List.set_cons_zero, List.set_cons_succ]
      refine g_take (i := 2) (d := (some 31)) (v := ?_) rfl rfl (by kernel_rfl) (fun _ _ _ h => h) (by rfl) (fun w' hb' => ?_) ?_
      rotate_left
      · obtain ⟨d0, d1, d2, d3, d4, dz⟩ := block_cells5 ((hb'.block _ (lt_of_block q21)).trans q21); (try go_simp); (try with_reducible rfl)
      try simp only [Act.put, List.setIfInBounds_toArray, List.set_cons_zero, List.set_cons_succ]
      refine g_take (i := 3) (d := (some 32)) (v := ?_) rfl rfl (by kernel_rfl) (fun _ _ _ h => h) (by rfl) (fun w' hb' => ?_) ?_
      rotate_left
      · (try go_simp); (try with_reducible rfl)
      try simp only [Act.put, List.setIfInBounds_toArray, List.set_cons_zero, List.set_cons_succ]
      refine g_take (i := 4) (d := (some 4)) (v := ?_) rfl rfl (by kernel_rfl) (fun _ _ _ h => h) (by rfl) (fun w' hb' => ?_) ?_
      rotate_left
      · (try go_simp); (try with_reducible rfl)
      try simp only [Act.put, List.setIfInBounds_toArray, List.set_cons_zero, List.set_cons_succ]
      refine g_take (i := 5) (d := (some 5)) (v := ?_) rfl rfl (by kernel_rfl) (fun _ _ _ h => h) (by rfl) (fun w' hb' => ?_) ?_
      rotate_left
      · (try go_simp); (try with_reducible rfl)
      try simp only [Act.put, List.setIfInBounds_toArray, List.set_cons_zero, List.set_cons_succ]
      refine g_take (i := 6) (d := (some 6)) (v := ?_) rfl rfl (by kernel_rfl) (fun _ _ _ h => h) (by rfl) (fun w' hb' => ?_) ?_
      rotate_left
      · (try go_simp); (try with_reducible rfl)
      try simp only [Act.put, List.setIfInBounds_toArray, List.set_cons_zero, List.set_cons_succ]
      refine g_done (by kernel_rfl) ?_
      go_wp2_with fail
      show Z (.returned (.tuple #[v1, .int .i64 x.ver, .int .i64 (18 : Int)])) _
      rw [HZ.out]
      refine ⟨v1, by rw [← HCODE.out] <;> rfl, ?_, ?_⟩
      · first | exact own_draw own _ | exact own_keep own (by first | exact below_drewN (Below.refl _ _) | exact Below.drew (Below.refl _ _)) | exact own
      · first | exact bel1 | exact Below.drew bel1 | exact Below.drew (Below.drew bel1) | exact below_drewN bel1
    · have hvb : decide (x.ver < V) = false := by simpa using hv
      have HCODE := Lib.hid (show E = C by rw [HC.out, if_neg (fun h => hv h.2)])
      clear hy hv
      go_enter Tryd.func129, Tryd.ntmps129
      go_wp2_with fail
      refine g_start (by kernel_rfl) ?_
      refine g_take (i := 0) (d := (some 10)) (v := ?_) rfl rfl (by kernel_rfl) (fun _ _ _ h => h) (by rfl) (fun w' hb' => ?_) ?_
      rotate_left
      · (try go_simp); (try with_reducible rfl)
      try simp only [Act.put, List.setIfInBounds_toArray, List.set_cons_zero, List.set_cons_succ]
      refine g_take (i := 1) (d := (some 11)) (v := ?_) rfl rfl (by kernel_rfl) (fun _ _ _ h => h) (by rfl) (fun w' hb' => ?_) ?_
      rotate_left
      · (try go_simp); (try with_reducible rfl)
      try simp only [Act.put, List.setIfInBounds_toArray, List.set_cons_zero, List.set_cons_succ]
      refine g_take (i := 2) (d := (some 12)) (v := ?_) rfl rfl (by kernel_rfl) (fun _ _ _ h => h) (by rfl) (fun w' hb' => ?_) ?_
      rotate_left
      · (try go_simp); (try with_reducible rfl)
      try simp only [Act.put, List.setIfInBounds_toArray, List.set_cons_zero, List.set_cons_succ]
      refine g_take (i := 3) (d := (some 13)) (v := ?_) rfl rfl (by kernel_rfl) (fun _ _ _ h => h) (by rfl) (fun w' hb' => ?_) ?_
      rotate_left
      · have zz := (hb'.cell (p := ⟨B1, b, none⟩) (lt_of_block q10)).trans ((block_cell q10 b).trans HU.out); (try go_simp); (try with_reducible rfl)
      try simp only [Act.put, List.setIfInBounds_toArray, List.set_cons_zero, List.set_cons_succ]
      refine g_take (i := 4) (d := (some 14)) (v := ?_) rfl rfl (by kernel_rfl) (fun _ _ _ h => h) (by rfl) (fun w' hb' => ?_) ?_
      rotate_left
      · obtain ⟨d0, d1, d2, d3, d4, dz⟩ := block_cells5 ((hb'.block _ (lt_of_block q20)).trans q20); (try go_simp); (try with_reducible rfl)
      try simp only [Act.put, List.setIfInBounds_toArray, List.set_cons_zero, List.set_cons_succ]
      refine g_run (i := 5) rfl (by kernel_rfl) (by rfl) (fun K hK => ?_)
      go_simp; refine (LP.out _ _ (tab.below (Below.drew (Below.refl _ _))) (HRU.out.below (Below.drew (Below.refl _ _)) (Nat.le_refl _))).mono ?_; rintro e w1 ⟨v1, rfl, own, gg⟩; have g1 := Below.trans (Below.drew (Below.refl w.heap.size w)) gg; have bel1 := g1; have own := own; have q11 := (g1.block _ (lt_of_block q10)).trans q10; have q21 := (g1.block _ (lt_of_block q20)).trans q20; refine hK _ _ ⟨gg, ?_⟩; clear hK K gg
      try simp only [Act.put, List.setIfInBounds_toArray, List.set_cons_zero, List.set_cons_succ]
      refine g_take (i := 6) (d := (some 9)) (v := ?_) rfl rfl (by kernel_rfl) (fun _ _ _ h => h) (by rfl) (fun w' hb' => ?_) ?_
      rotate_left
      · (try go_simp); (try with_reducible rfl)
      try simp only [Act.put, List.setIfInBounds_toArray, List.set_cons_zero, List.set_cons_succ]
      refine g_take (i := 7) (d := (some 16)) (v := ?_) rfl rfl (by kernel_rfl) (fun _ _ _ h => h) (by rfl) (fun w' hb' => ?_) ?_
      rotate_left
      · (try go_simp); (try with_reducible rfl)
      try simp only [Act.put, List.setIfInBounds_toArray, List.set_cons_zero, List.set_cons_succ]
      refine g_take (i := 8) (d := (some 17)) (v := ?_) rfl rfl (by kernel_rfl) (fun _ _ _ h => h) (by rfl) (fun w' hb' => ?_) ?_
      rotate_left
      · (try go_simp); (try with_reducible rfl)
      try simp only [Act.put, List.setIfInBounds_toArray, List.set_cons_zero, List.set_cons_succ]
      refine g_take (i := 9) (d := (some 7)) (v := ?_) rfl rfl (by kernel_rfl) (fun _ _ _ h => h) (by rfl) (fun w' hb' => ?_) ?_
      rotate_left
      · (try go_simp); (try with_reducible rfl)
      try simp only [Act.put, List.setIfInBounds_toArray, List.set_cons_zero, List.set_cons_succ]
      refine g_take (i := 10) (d := (some 8)) (v := ?_) rfl rfl (by kernel_rfl) (fun _ _ _ h => h) (by rfl) (fun w' hb' => ?_) ?_
      rotate_left
      · (try go_simp); (try with_reducible rfl)
      try simp only [Act.put, List.setIfInBounds_toArray, List.set_cons_zero, List.set_cons_succ]
      refine g_done (by kernel_rfl) ?_
      go_wp2_with fail
      refine g_start (by kernel_rfl) ?_
      refine g_take (i := 0) (d := (some 18)) (v := ?_) rfl rfl (by kernel_rfl) (fun _ _ _ h => h) (by rfl) (fun w' hb' => ?_) ?_
      rotate_left
      · (try go_simp); (try with_reducible rfl)
      try simp only [Act.put, List.setIfInBounds_toArray, List.set_cons_zero, List.set_cons_succ]
      refine g_take (i := 1) (d := (some 19)) (v := ?_) rfl rfl (by kernel_rfl) (fun _ _ _ h => h) (by rfl) (fun w' hb' => ?_) ?_
      rotate_left
      · (try go_simp); (try with_reducible rfl)
      try simp only [Act.put, List.setIfInBounds_toArray, List.set_cons_zero, List.set_cons_succ]
      refine g_take (i := 2) (d := (some 20)) (v := ?_) rfl rfl (by kernel_rfl) (fun _ _ _ h => h) (by rfl) (fun w' hb' => ?_) ?_
      rotate_left
      · (try go_simp); (try with_reducible rfl)
      try simp only [Act.put, List.setIfInBounds_toArray, List.set_cons_zero, List.set_cons_succ]
      refine g_take (i := 3) (d := (some 21)) (v := ?_) rfl rfl (by kernel_rfl) (fun _ _ _ h => h) (by rfl) (fun w' hb' => ?_) ?_
      rotate_left
      · (try go_simp); (try with_reducible rfl)
      try simp only [Act.put, List.setIfInBounds_toArray, List.set_cons_zero, List.set_cons_succ]
      refine g_take (i := 4) (d := (some 22)) (v := ?_) rfl rfl (by kernel_rfl) (fun _ _ _ h => h) (by rfl) (fun w' hb' => ?_) ?_
      rotate_left
      · obtain ⟨d0, d1, d2, d3, d4, dz⟩ := block_cells5 ((hb'.block _ (lt_of_block q21)).trans q21); (try go_simp); (try with_reducible rfl)
      try simp only [Act.put, List.setIfInBounds_toArray, List.set_cons_zero, List.set_cons_succ]
      refine g_take (i := 5) (d := (some 23)) (v := ?_) rfl rfl (by kernel_rfl) (fun _ _ _ h => h) (by rfl) (fun w' hb' => ?_) ?_
      rotate_left
      · (try go_simp); (try with_reducible rfl)
      try simp only [Act.put, List.setIfInBounds_toArray, List.set_cons_zero, List.set_cons_succ]
      refine g_take (i := 6) (d := (some 24)) (v := ?_) rfl rfl (by kernel_rfl) (fun _ _ _ h => h) (by rfl) (fun w' hb' => ?_) ?_
      rotate_left
      · (try go_simp); (try with_reducible rfl)
      try simp only [Act.put, List.setIfInBounds_toArray, List.set_cons_zero, List.set_cons_succ]
      refine g_take (i := 7) (d := (some 25)) (v := ?_) rfl rfl (by kernel_rfl) (fun _ _ _ h => h) (by rfl) (fun w' hb' => ?_) ?_
      rotate_left
      · (try go_simp); (try with_reducible rfl)
      try simp only [Act.put, List.setIfInBounds_toArray, List.set_cons_zero, List.set_cons_succ]
      refine g_take (i := 8) (d := (some 26)) (v := ?_) rfl rfl (by kernel_rfl) (fun _ _ _ h => h) (by rfl) (fun w' hb' => ?_) ?_
      rotate_left
      · have zz := (hb'.cell (p := ⟨B1, 16 + b, none⟩) (lt_of_block q11)).trans ((block_cell q11 (16 + b)).trans HV.out); have zy := zz; rw [Nat.add_comm 16 b] at zy; (try go_simp); (try with_reducible rfl)
      try simp only [Act.put, List.setIfInBounds_toArray, List.set_cons_zero, List.set_cons_succ]
      refine g_take (i := 9) (d := (some 27)) (v := ?_) rfl rfl (by kernel_rfl) (fun _ _ _ h => h) (by rfl) (fun w' hb' => ?_) ?_
      rotate_left
      · (try go_simp); (try with_reducible rfl)
      try simp only [Act.put, List.setIfInBounds_toArray, List.set_cons_zero, List.set_cons_succ]
      refine g_take (i := 10) (d := (some 28)) (v := ?_) rfl rfl (by kernel_rfl) (fun _ _ _ h => h) (by rfl) (fun w' hb' => ?_) ?_
      rotate_left
      · (try go_simp); (try with_reducible rfl)
      try simp only [Act.put, List.setIfInBounds_toArray, List.set_cons_zero, List.set_cons_succ]
      refine g_done (by kernel_rfl) ?_
      go_wp2_with fail
      refine g_start (by kernel_rfl) ?_
      refine g_take (i := 0) (d := (some 29)) (v := ?_) rfl rfl (by kernel_rfl) (fun _ _ _ h => h) (by rfl) (fun w' hb' => ?_) ?_
      rotate_left
      · (try go_simp); (try with_reducible rfl)
      try simp only [Act.put, List.setIfInBounds_toArray, List.set_cons_zero, List.set_cons_succ]
      refine g_take (i := 1) (d := (some 30)) (v := ?_) rfl rfl (by kernel_rfl) (fun _ _ _ h => h) (by rfl) (fun w' hb' => ?_) ?_
      rotate_left
      · (try go_simp); (try with_reducible rfl)
      try simp only [Act.put, List.setIfInBounds_toArray, List.set_cons_zero, List.set_cons_succ]
      refine g_take (i := 2) (d := (some 31)) (v := ?_) rfl rfl (by kernel_rfl) (fun _ _ _ h => h) (by rfl) (fun w' hb' => ?_) ?_
      rotate_left
      · obtain ⟨d0, d1, d2, d3, d4, dz⟩ := block_cells5 ((hb'.block _ (lt_of_block q21)).trans q21); (try go_simp); (try with_reducible rfl)
      try simp only [Act.put, List.setIfInBounds_toArray, List.set_cons_zero, List.set_cons_succ]
      refine g_take (i := 3) (d := (some 32)) (v := ?_) rfl rfl (by kernel_rfl) (fun _ _ _ h => h) (by rfl) (fun w' hb' => ?_) ?_
      rotate_left
      · (try go_simp); (try with_reducible rfl)
      try simp only [Act.put, List.setIfInBounds_toArray, List.set_cons_zero, List.set_cons_succ]
      refine g_take (i := 4) (d := (some 4)) (v := ?_) rfl rfl (by kernel_rfl) (fun _ _ _ h => h) (by rfl) (fun w' hb' => ?_) ?_
      rotate_left
      · (try go_simp); (try with_reducible rfl)
      try simp only [Act.put, List.setIfInBounds_toArray, List.set_cons_zero, List.set_cons_succ]
      refine g_take (i := 5) (d := (some 5)) (v := ?_) rfl rfl (by kernel_rfl) (fun _ _ _ h => h) (by rfl) (fun w' hb' => ?_) ?_
      rotate_left
      · (try go_simp); (try with_reducible rfl)
      try simp only [Act.put, List.setIfInBounds_toArray, List.set_cons_zero, List.set_cons_succ]
      refine g_take (i := 6) (d := (some 6)) (v := ?_) rfl rfl (by kernel_rfl) (fun _ _ _ h => h) (by rfl) (fun w' hb' => ?_) ?_
      rotate_left
      · (try go_simp); (try with_reducible rfl)
      try simp only [Act.put, List.setIfInBounds_toArray, List.set_cons_zero, List.set_cons_succ]
      refine g_done (by kernel_rfl) ?_
      go_wp2_with fail
      show Z (.returned (.tuple #[v1, .int .i64 x.ver, .int .i64 (E : Int)])) _
      rw [HZ.out]
      refine ⟨v1, by rw [← HCODE.out] <;> rfl, ?_, ?_⟩
      · first | exact own_draw own _ | exact own_keep own (by first | exact below_drewN (Below.refl _ _) | exact Below.drew (Below.refl _ _)) | exact own
      · first | exact bel1 | exact Below.drew bel1 | exact Below.drew (Below.drew bel1) | exact below_drewN bel1
  · have hyb : ((E : Int) != 1) = false := by rw [bne_eq_false_iff_eq]; omega
    have HCODE := Lib.hid (show E = C by rw [HC.out, if_neg (fun h => hy h.1)])
    clear hy
    go_enter Tryd.func129, Tryd.ntmps129
    go_wp2_with fail
    refine g_start (by kernel_rfl) ?_
    refine g_take (i := 0) (d := (some 10)) (v := ?_) rfl rfl (by kernel_rfl) (fun _ _ _ h => h) (by rfl) (fun w' hb' => ?_) ?_
    rotate_left
    · (try go_simp); (try with_reducible rfl)
    try simp only [Act.put, List.setIfInBounds_toArray, List.set_cons_zero, List.set_cons_succ]
    refine g_take (i := 1) (d := (some 11)) (v := ?_) rfl rfl (by kernel_rfl) (fun _ _ _ h => h) (by rfl) (fun w' hb' => ?_) ?_
    rotate_left
    · (try go_simp); (try with_reducible rfl)
    try simp only [Act.put, List.setIfInBounds_toArray, List.set_cons_zero, List.set_cons_succ]
    refine g_take (i := 2) (d := (some 12)) (v := ?_) rfl rfl (by kernel_rfl) (fun _ _ _ h => h) (by rfl) (fun w' hb' => ?_) ?_
    rotate_left
    · (try go_simp); (try with_reducible rfl)
    try simp only [Act.put, List.setIfInBounds_toArray, List.set_cons_zero, List.set_cons_succ]
    refine g_take (i := 3) (d := (some 13)) (v := ?_) rfl rfl (by kernel_rfl) (fun _ _ _ h => h) (by rfl) (fun w' hb' => ?_) ?_
    rotate_left
    · have zz := (hb'.cell (p := ⟨B1, b, none⟩) (lt_of_block q10)).trans ((block_cell q10 b).trans HU.out); (try go_simp); (try with_reducible rfl)
    try simp only [Act.put, List.setIfInBounds_toArray, List.set_cons_zero, List.set_cons_succ]
    refine g_take (i := 4) (d := (some 14)) (v := ?_) rfl rfl (by kernel_rfl) (fun _ _ _ h => h) (by rfl) (fun w' hb' => ?_) ?_
    rotate_left
    · obtain ⟨d0, d1, d2, d3, d4, dz⟩ := block_cells5 ((hb'.block _ (lt_of_block q20)).trans q20); (try go_simp); (try with_reducible rfl)
    try simp only [Act.put, List.setIfInBounds_toArray, List.set_cons_zero, List.set_cons_succ]
    refine g_run (i := 5) rfl (by kernel_rfl) (by rfl) (fun K hK => ?_)
    go_simp; refine (LP.out _ _ (tab.below (Below.drew (Below.refl _ _))) (HRU.out.below (Below.drew (Below.refl _ _)) (Nat.le_refl _))).mono ?_; rintro e w1 ⟨v1, rfl, own, gg⟩; have g1 := Below.trans (Below.drew (Below.refl w.heap.size w)) gg; have bel1 := g1; have own := own; have q11 := (g1.block _ (lt_of_block q10)).trans q10; have q21 := (g1.block _ (lt_of_block q20)).trans q20; refine hK _ _ ⟨gg, ?_⟩; clear hK K gg
    try simp only [Act.put, List.setIfInBounds_toArray, List.set_cons_zero, List.set_cons_succ]
    refine g_take (i := 6) (d := (some 9)) (v := ?_) rfl rfl (by kernel_rfl) (fun _ _ _ h => h) (by rfl) (fun w' hb' => ?_) ?_
    rotate_left
    · (try go_simp); (try with_reducible rfl)
    try simp only [Act.put, List.setIfInBounds_toArray, List.set_cons_zero, List.set_cons_succ]
    refine g_take (i := 7) (d := (some 16)) (v := ?_) rfl rfl (by kernel_rfl) (fun _ _ _ h => h) (by rfl) (fun w' hb' => ?_) ?_
    rotate_left
    · (try go_simp); (try with_reducible rfl)
    try simp only [Act.put, List.setIfInBounds_toArray, List.set_cons_zero, List.set_cons_succ]
    refine g_take (i := 8) (d := (some 17)) (v := ?_) rfl rfl (by kernel_rfl) (fun _ _ _ h => h) (by rfl) (fun w' hb' => ?_) ?_
    rotate_left
    · (try go_simp); (try with_reducible rfl)
    try simp only [Act.put, List.setIfInBounds_toArray, List.set_cons_zero, List.set_cons_succ]
    refine g_take (i := 9) (d := (some 7)) (v := ?_) rfl rfl (by kernel_rfl) (fun _ _ _ h => h) (by rfl) (fun w' hb' => ?_) ?_
    rotate_left
    · (try go_simp); (try with_reducible rfl)
    try simp only [Act.put, List.setIfInBounds_toArray, List.set_cons_zero, List.set_cons_succ]
    refine g_take (i := 10) (d := (some 8)) (v := ?_) rfl rfl (by kernel_rfl) (fun _ _ _ h => h) (by rfl) (fun w' hb' => ?_) ?_
    rotate_left
    · (try go_simp); (try with_reducible rfl)
    try simp only [Act.put, List.setIfInBounds_toArray, List.set_cons_zero, List.set_cons_succ]
    refine g_done (by kernel_rfl) ?_
    go_wp2_with fail
    refine g_start (by kernel_rfl) ?_
    refine g_take (i := 0) (d := (some 18)) (v := ?_) rfl rfl (by kernel_rfl) (fun _ _ _ h => h) (by rfl) (fun w' hb' => ?_) ?_
    rotate_left
    · (try go_simp); (try with_reducible rfl)
    try simp only [Act.put, List.setIfInBounds_toArray, List.set_cons_zero, List.set_cons_succ]
    refine g_take (i := 1) (d := (some 19)) (v := ?_) rfl rfl (by kernel_rfl) (fun _ _ _ h => h) (by rfl) (fun w' hb' => ?_) ?_
    rotate_left
    · (try go_simp); (try with_reducible rfl)
    try simp only [Act.put, List.setIfInBounds_toArray, List.set_cons_zero, List.set_cons_succ]
    refine g_take (i := 2) (d := (some 20)) (v := ?_) rfl rfl (by kernel_rfl) (fun _ _ _ h => h) (by rfl) (fun w' hb' => ?_) ?_
    rotate_left
    · (try go_simp); (try with_reducible rfl)
    try simp only [Act.put, List.setIfInBounds_toArray, List.set_cons_zero, List.set_cons_succ]
    refine g_skip (i := 3) (d := (some 21)) rfl rfl (by kernel_rfl) (fun _ _ _ h => h) (by rfl) ?_
    try simp only [Act.put, List.setIfInBounds_toArray, List.set_cons_zero, List.set_cons_succ]
    refine g_skip (i := 4) (d := (some 22)) rfl rfl (by kernel_rfl) (fun _ _ _ h => h) (by rfl) ?_
    try simp only [Act.put, List.setIfInBounds_toArray, List.set_cons_zero, List.set_cons_succ]
    refine g_skip (i := 5) (d := (some 23)) rfl rfl (by kernel_rfl) (fun _ _ _ h => h) (by rfl) ?_
    try simp only [Act.put, List.setIfInBounds_toArray, List.set_cons_zero, List.set_cons_succ]
    refine g_skip (i := 6) (d := (some 24)) rfl rfl (by kernel_rfl) (fun _ _ _ h => h) (by rfl) ?_
    try simp only [Act.put, List.setIfInBounds_toArray, List.set_cons_zero, List.set_cons_succ]
    refine g_skip (i := 7) (d := (some 25)) rfl rfl (by kernel_rfl) (fun _ _ _ h => h) (by rfl) ?_
    try simp only [Act.put, List.setIfInBounds_toArray, List.set_cons_zero, List.set_cons_succ]
    refine g_skip (i := 8) (d := (some 26)) rfl rfl (by kernel_rfl) (fun _ _ _ h => h) (by rfl) ?_
    try simp only [Act.put, List.setIfInBounds_toArray, List.set_cons_zero, List.set_cons_succ]
    refine g_skip (i := 9) (d := (some 27)) rfl rfl (by kernel_rfl) (fun _ _ _ h => h) (by rfl) ?_
    try simp only [Act.put, List.setIfInBounds_toArray, List.set_cons_zero, List.set_cons_succ]
    refine g_take (i := 10) (d := (some 28)) (v := ?_) rfl rfl (by kernel_rfl) (fun _ _ _ h => h) (by rfl) (fun w' hb' => ?_) ?_
    rotate_left
    · (try go_simp); (try with_reducible rfl)
    try simp only [Act.put, List.setIfInBounds_toArray, List.set_cons_zero, List.set_cons_succ]
    refine g_done (by kernel_rfl) ?_
    go_wp2_with fail
    refine g_start (by kernel_rfl) ?_
    refine g_take (i := 0) (d := (some 29)) (v := ?_) rfl rfl (by kernel_rfl) (fun _ _ _ h => h) (by rfl) (fun w' hb' => ?_) ?_
    rotate_left
    · (try go_simp); (try with_reducible rfl)
    try simp only [Act.put, List.setIfInBounds_toArray, List.set_cons_zero, List.set_cons_succ]
    refine g_take (i := 1) (d := (some 30)) (v := ?_) rfl rfl (by kernel_rfl) (fun _ _ _ h => h) (by rfl) (fun w' hb' => ?_) ?_
    rotate_left
    · (try go_simp); (try with_reducible rfl)
    try simp only [Act.put, List.setIfInBounds_toArray, List.set_cons_zero, List.set_cons_succ]
    refine g_take (i := 2) (d := (some 31)) (v := ?_) rfl rfl (by kernel_rfl) (fun _ _ _ h => h) (by rfl) (fun w' hb' => ?_) ?_
    rotate_left
    · obtain ⟨d0, d1, d2, d3, d4, dz⟩ := block_cells5 ((hb'.block _ (lt_of_block q21)).trans q21); (try go_simp); (try with_reducible rfl)
    try simp only [Act.put, List.setIfInBounds_toArray, List.set_cons_zero, List.set_cons_succ]
    refine g_take (i := 3) (d := (some 32)) (v := ?_) rfl rfl (by kernel_rfl) (fun _ _ _ h => h) (by rfl) (fun w' hb' => ?_) ?_
    rotate_left
    · (try go_simp); (try with_reducible rfl)
    try simp only [Act.put, List.setIfInBounds_toArray, List.set_cons_zero, List.set_cons_succ]
    refine g_take (i := 4) (d := (some 4)) (v := ?_) rfl rfl (by kernel_rfl) (fun _ _ _ h => h) (by rfl) (fun w' hb' => ?_) ?_
    rotate_left
    · (try go_simp); (try with_reducible rfl)
    try simp only [Act.put, List.setIfInBounds_toArray, List.set_cons_zero, List.set_cons_succ]
    refine g_take (i := 5) (d := (some 5)) (v := ?_) rfl rfl (by kernel_rfl) (fun _ _ _ h => h) (by rfl) (fun w' hb' => ?_) ?_
    rotate_left
    · (try go_simp); (try with_reducible rfl)
    try simp only [Act.put, List.setIfInBounds_toArray, List.set_cons_zero, List.set_cons_succ]
    refine g_take (i := 6) (d := (some 6)) (v := ?_) rfl rfl (by kernel_rfl) (fun _ _ _ h => h) (by rfl) (fun w' hb' => ?_) ?_
    rotate_left
    · (try go_simp); (try with_reducible rfl)
    try simp only [Act.put, List.setIfInBounds_toArray, List.set_cons_zero, List.set_cons_succ]
    refine g_done (by kernel_rfl) ?_
    go_wp2_with fail
    show Z (.returned (.tuple #[v1, .int .i64 x.ver, .int .i64 (E : Int)])) _
    rw [HZ.out]
    refine ⟨v1, by rw [← HCODE.out] <;> rfl, ?_, ?_⟩
    · first | exact own_draw own _ | exact own_keep own (by first | exact below_drewN (Below.refl _ _) | exact Below.drew (Below.refl _ _)) | exact own
    · first | exact bel1 | exact Below.drew bel1 | exact Below.drew (Below.drew bel1) | exact below_drewN bel1
set_option maxRecDepth 100000 in
set_option maxHeartbeats 2000000 in
theorem del1_any (k : List UInt8) (ver : Int) (B1 B2 B3 : Nat) (b : Nat) (hb16 : b < 16) (cs : Array Value) (lv : Nat → List It) (vs : Nat → Int) (w : World) (tab : TabAt w) (h : RdT w cs lv vs) (hsz : SzT lv) (q10 : w.heap[B1]? = some (.cells cs 26 (0, 0))) (q20 : w.heap[B2]? = some (.cells #[.string (str k)] 9 (0, 0))) (q30 : w.heap[B3]? = some (.cells #[.int .i64 ver] 3 (0, 0))) :
    Calls Tryd.prog 127 #[.int .i64 (b : Int), .pointer (some ⟨B1, 0, none⟩), .pointer (some ⟨B2, 0, none⟩), .pointer (some ⟨B3, 0, none⟩)] w (ChgP w (delR (lv b) k) ver (delC lv vs b k ver)) := by
  have hb16i : (b : Int) < 16 := by omega
  obtain ⟨u, hu, hru⟩ := h.leaf b hb16
  have HU := Lib.hid hu
  have HV := Lib.hid (h.ver b hb16)
  have HRU := Lib.hid hru
  have LP := Lib.hid (fun W u t h => ldel_any u (lv b) k W t h (hsz b hb16))
  obtain ⟨E, hE⟩ : ∃ E, E = delE (lv b) k := ⟨_, rfl⟩
  obtain ⟨Z, hZ⟩ : ∃ Z, Z = ChgP w (delR (lv b) k) ver (delC lv vs b k ver) := ⟨_, rfl⟩
  obtain ⟨C, hC⟩ : ∃ C, C = delC lv vs b k ver := ⟨_, rfl⟩
  have hC2 : C = if E = 0 ∧ ver < vs b then 18 else E := by rw [hC, hE]; rfl
  rw [← hZ]
  rw [← hC] at hZ
  rw [← hE] at LP
  obtain ⟨LL, hLL⟩ : ∃ LL, LL = delR (lv b) k := ⟨_, rfl⟩
  rw [← hLL] at LP hZ
  have HZ := Lib.hid hZ
  have HC := Lib.hid hC2
  obtain ⟨V, hV⟩ : ∃ V, V = vs b := ⟨_, rfl⟩
  rw [← hV] at HV HC
  clear hZ hC hC2 hE hu hru hLL hV h hsz
  by_cases hy : E = 0
  · have hyb : ((E : Int) == 0) = true := by simp [hy]
    by_cases hv : ver < V
    · have hvb : decide (ver < V) = true := by simpa using hv
      have HCODE := Lib.hid (show (18 : Nat) = C by rw [HC.out, if_pos ⟨hy, hv⟩])
      clear hy hv
      go_enter Tryd.func127, Tryd.ntmps127
      go_wp2_with fail
      refine g_start (by kernel_rfl) ?_
      refine g_take (i := 0) (d := (some 11)) (v := ?_) rfl rfl (by kernel_rfl) (fun _ _ _ h => h) (by rfl) (fun w' hb' => ?_) ?_
      rotate_left
      · (try go_simp); (try with_reducible rfl)
      try simp only [Act.put, List.setIfInBounds_toArray, List.set_cons_zero, List.set_cons_succ]
      refine g_take (i := 1) (d := (some 12)) (v := ?_) rfl rfl (by kernel_rfl) (fun _ _ _ h => h) (by rfl) (fun w' hb' => ?_) ?_
      rotate_left
      · (try go_simp); (try with_reducible rfl)
      try simp only [Act.put, List.setIfInBounds_toArray, List.set_cons_zero, List.set_cons_succ]
      refine g_take (i := 2) (d := (some 13)) (v := ?_) rfl rfl (by kernel_rfl) (fun _ _ _ h => h) (by rfl) (fun w' hb' => ?_) ?_
      rotate_left
      · (try go_simp); (try with_reducible rfl)
      try simp only [Act.put, List.setIfInBounds_toArray, List.set_cons_zero, List.set_cons_succ]
      refine g_take (i := 3) (d := (some 14)) (v := ?_) rfl rfl (by kernel_rfl) (fun _ _ _ h => h) (by rfl) (fun w' hb' => ?_) ?_
      rotate_left
      · have zz := (hb'.cell (p := ⟨B1, b, none⟩) (lt_of_block q10)).trans ((block_cell q10 b).trans HU.out); (try go_simp); (try with_reducible rfl)
      try simp only [Act.put, List.setIfInBounds_toArray, List.set_cons_zero, List.set_cons_succ]
      refine g_take (i := 4) (d := (some 15)) (v := ?_) rfl rfl (by kernel_rfl) (fun _ _ _ h => h) (by rfl) (fun w' hb' => ?_) ?_
      rotate_left
      · have zk := (hb'.cell (p := ⟨B2, 0, none⟩) (lt_of_block q20)).trans (block_cell q20 0); simp only [List.getElem?_toArray, List.getElem?_cons_zero] at zk; (try go_simp); (try with_reducible rfl)
      try simp only [Act.put, List.setIfInBounds_toArray, List.set_cons_zero, List.set_cons_succ]
      refine g_run (i := 5) rfl (by kernel_rfl) (by rfl) (fun K hK => ?_)
      go_simp; refine (LP.out _ _ (tab.below (Below.drew (Below.refl _ _))) (HRU.out.below (Below.drew (Below.refl _ _)) (Nat.le_refl _))).mono ?_; rintro e w1 ⟨v1, rfl, own, gg⟩; have g1 := Below.trans (Below.drew (Below.refl w.heap.size w)) gg; have bel1 := g1; have own := own; have q11 := (g1.block _ (lt_of_block q10)).trans q10; have q21 := (g1.block _ (lt_of_block q20)).trans q20; have q31 := (g1.block _ (lt_of_block q30)).trans q30; refine hK _ _ ⟨gg, ?_⟩; clear hK K gg
      try simp only [Act.put, List.setIfInBounds_toArray, List.set_cons_zero, List.set_cons_succ]
      refine g_take (i := 6) (d := (some 10)) (v := ?_) rfl rfl (by kernel_rfl) (fun _ _ _ h => h) (by rfl) (fun w' hb' => ?_) ?_
      rotate_left
      · (try go_simp); (try with_reducible rfl)
      try simp only [Act.put, List.setIfInBounds_toArray, List.set_cons_zero, List.set_cons_succ]
      refine g_take (i := 7) (d := (some 17)) (v := ?_) rfl rfl (by kernel_rfl) (fun _ _ _ h => h) (by rfl) (fun w' hb' => ?_) ?_
      rotate_left
      · (try go_simp); (try with_reducible rfl)
      try simp only [Act.put, List.setIfInBounds_toArray, List.set_cons_zero, List.set_cons_succ]
      refine g_take (i := 8) (d := (some 18)) (v := ?_) rfl rfl (by kernel_rfl) (fun _ _ _ h => h) (by rfl) (fun w' hb' => ?_) ?_
      rotate_left
      · (try go_simp); (try with_reducible rfl)
      try simp only [Act.put, List.setIfInBounds_toArray, List.set_cons_zero, List.set_cons_succ]
      refine g_take (i := 9) (d := (some 8)) (v := ?_) rfl rfl (by kernel_rfl) (fun _ _ _ h => h) (by rfl) (fun w' hb' => ?_) ?_
      rotate_left
      · (try go_simp); (try with_reducible rfl)
      try simp only [Act.put, List.setIfInBounds_toArray, List.set_cons_zero, List.set_cons_succ]
      refine g_take (i := 10) (d := (some 9)) (v := ?_) rfl rfl (by kernel_rfl) (fun _ _ _ h => h) (by rfl) (fun w' hb' => ?_) ?_
      rotate_left
      · (try go_simp); (try with_reducible rfl)
      try simp only [Act.put, List.setIfInBounds_toArray, List.set_cons_zero, List.set_cons_succ]
      refine g_done (by kernel_rfl) ?_
      go_wp2_with fail
      refine g_start (by kernel_rfl) ?_
      refine g_take (i := 0) (d := (some 19)) (v := ?_) rfl rfl (by kernel_rfl) (fun _ _ _ h => h) (by rfl) (fun w' hb' => ?_) ?_
      rotate_left
      · (try go_simp); (try with_reducible rfl)
      try simp only [Act.put, List.setIfInBounds_toArray, List.set_cons_zero, List.set_cons_succ]
      refine g_take (i := 1) (d := (some 20)) (v := ?_) rfl rfl (by kernel_rfl) (fun _ _ _ h => h) (by rfl) (fun w' hb' => ?_) ?_
      rotate_left
      · (try go_simp); (try with_reducible rfl)
      try simp only [Act.put, List.setIfInBounds_toArray, List.set_cons_zero, List.set_cons_succ]
      refine g_take (i := 2) (d := (some 21)) (v := ?_) rfl rfl (by kernel_rfl) (fun _ _ _ h => h) (by rfl) (fun w' hb' => ?_) ?_
      rotate_left
      · (try go_simp); (try with_reducible rfl)
      try simp only [Act.put, List.setIfInBounds_toArray, List.set_cons_zero, List.set_cons_succ]
      refine g_take (i := 3) (d := (some 22)) (v := ?_) rfl rfl (by kernel_rfl) (fun _ _ _ h => h) (by rfl) (fun w' hb' => ?_) ?_
      rotate_left
      · have zk := (hb'.cell (p := ⟨B3, 0, none⟩) (lt_of_block q31)).trans (block_cell q31 0); simp only [List.getElem?_toArray, List.getElem?_cons_zero] at zk; (try go_simp); (try with_reducible rfl)
      try simp only [Act.put, List.setIfInBounds_toArray, List.set_cons_zero, List.set_cons_succ]
      refine g_take (i := 4) (d := (some 23)) (v := ?_) rfl rfl (by kernel_rfl) (fun _ _ _ h => h) (by rfl) (fun w' hb' => ?_) ?_
      rotate_left
      · (try go_simp); (try with_reducible rfl)
      try simp only [Act.put, List.setIfInBounds_toArray, List.set_cons_zero, List.set_cons_succ]
      refine g_take (i := 5) (d := (some 24)) (v := ?_) rfl rfl (by kernel_rfl) (fun _ _ _ h => h) (by rfl) (fun w' hb' => ?_) ?_
      rotate_left
      · (try go_simp); (try with_reducible rfl)
      try simp only [Act.put, List.setIfInBounds_toArray, List.set_cons_zero, List.set_cons_succ]
      refine g_take (i := 6) (d := (some 25)) (v := ?_) rfl rfl (by kernel_rfl) (fun _ _ _ h => h) (by rfl) (fun w' hb' => ?_) ?_
      rotate_left
      · (try go_simp); (try with_reducible rfl)
      try simp only [Act.put, List.setIfInBounds_toArray, List.set_cons_zero, List.set_cons_succ]
      refine g_take (i := 7) (d := (some 26)) (v := ?_) rfl rfl (by kernel_rfl) (fun _ _ _ h => h) (by rfl) (fun w' hb' => ?_) ?_
      rotate_left
      · have zz := (hb'.cell (p := ⟨B1, 16 + b, none⟩) (lt_of_block q11)).trans ((block_cell q11 (16 + b)).trans HV.out); have zy := zz; rw [Nat.add_comm 16 b] at zy; (try go_simp); (try with_reducible rfl)
      try simp only [Act.put, List.setIfInBounds_toArray, List.set_cons_zero, List.set_cons_succ]
      refine g_take (i := 8) (d := (some 27)) (v := ?_) rfl rfl (by kernel_rfl) (fun _ _ _ h => h) (by rfl) (fun w' hb' => ?_) ?_
      rotate_left
      · (try go_simp); (try with_reducible rfl)
      try simp only [Act.put, List.setIfInBounds_toArray, List.set_cons_zero, List.set_cons_succ]
      refine g_take (i := 9) (d := (some 28)) (v := ?_) rfl rfl (by kernel_rfl) (fun _ _ _ h => h) (by rfl) (fun w' hb' => ?_) ?_
      rotate_left
      · (try go_simp); (try with_reducible rfl)
      try simp only [Act.put, List.setIfInBounds_toArray, List.set_cons_zero, List.set_cons_succ]
      refine g_done (by kernel_rfl) ?_
      go_wp2_with fail
      refine g_start (by kernel_rfl) ?_
      refine g_take (i := 0) (d := (some 29)) (v := ?_) rfl rfl (by kernel_rfl) (fun _ _ _ h => h) (by rfl) (fun w' hb' => ?_) ?_
      rotate_left
      · (try go_simp); (try with_reducible rfl)
      try simp only [Act.put, List.setIfInBounds_toArray, List.set_cons_zero, List.set_cons_succ]
      refine g_take (i := 1) (d := (some 30)) (v := ?_) rfl rfl (by kernel_rfl) (fun _ _ _ h => h) (by rfl) (fun w' hb' => ?_) ?_
      rotate_left
      · have zk := (hb'.cell (p := ⟨B3, 0, none⟩) (lt_of_block q31)).trans (block_cell q31 0); simp only [List.getElem?_toArray, List.getElem?_cons_zero] at zk; (try go_simp); (try with_reducible rfl)
      try simp only [Act.put, List.setIfInBounds_toArray, List.set_cons_zero, List.set_cons_succ]
      refine g_take (i := 2) (d := (some 31)) (v := ?_) rfl rfl (by kernel_rfl) (fun _ _ _ h => h) (by rfl) (fun w' hb' => ?_) ?_
      rotate_left
      · (try go_simp); (try with_reducible rfl)
      try simp only [Act.put, List.setIfInBounds_toArray, List.set_cons_zero, List.set_cons_succ]
      refine g_take (i := 3) (d := (some 5)) (v := ?_) rfl rfl (by kernel_rfl) (fun _ _ _ h => h) (by rfl) (fun w' hb' => ?_) ?_
      rotate_left
      · (try go_simp); (try with_reducible rfl)
      try simp only [Act.put, List.setIfInBounds_toArray, List.set_cons_zero, List.set_cons_succ]
      refine g_take (i := 4) (d := (some 6)) (v := ?_) rfl rfl (by kernel_rfl) (fun _ _ _ h => h) (by rfl) (fun w' hb' => ?_) ?_
      rotate_left
      · (try go_simp); (try with_reducible rfl)
      try simp only [Act.put, List.setIfInBounds_toArray, List.set_cons_zero, List.set_cons_succ]
      refine g_take (i := 5) (d := (some 7)) (v := ?_) rfl rfl (by kernel_rfl) (fun _ _ _ h => h) (by rfl) (fun w' hb' => ?_) ?_
      rotate_left
      · (try go_simp); (try with_reducible rfl)
      try simp only [Act.put, List.setIfInBounds_toArray, List.set_cons_zero, List.set_cons_succ]
      refine g_done (by kernel_rfl) ?_
      go_wp2_with fail
      show Z (.returned (.tuple #[v1, .int .i64 ver, .int .i64 (18 : Int)])) _
      rw [HZ.out]
      refine ⟨v1, by rw [← HCODE.out] <;> rfl, ?_, ?_⟩
      · first | exact own_draw own _ | exact own_keep own (by first | exact below_drewN (Below.refl _ _) | exact Below.drew (Below.refl _ _)) | exact own
      · first | exact bel1 | exact Below.drew bel1 | exact Below.drew (Below.drew bel1) | exact below_drewN bel1
    · have hvb : decide (ver < V) = false := by simpa using hv
      have HCODE := Lib.hid (show E = C by rw [HC.out, if_neg (fun h => hv h.2)])
      clear hy hv
      go_enter Tryd.func127, Tryd.ntmps127
      go_wp2_with fail
      refine g_start (by kernel_rfl) ?_
      refine g_take (i := 0) (d := (some 11)) (v := ?_) rfl rfl (by kernel_rfl) (fun _ _ _ h => h) (by rfl) (fun w' hb' => ?_) ?_
      rotate_left
      · (try go_simp); (try with_reducible rfl)
      try simp only [Act.put, List.setIfInBounds_toArray, List.set_cons_zero, List.set_cons_succ]
      refine g_take (i := 1) (d := (some 12)) (v := ?_) rfl rfl (by kernel_rfl) (fun _ _ _ h => h) (by rfl) (fun w' hb' => ?_) ?_
      rotate_left
      · (try go_simp); (try with_reducible rfl)
      try simp only [Act.put, List.setIfInBounds_toArray, List.set_cons_zero, List.set_cons_succ]
      refine g_take (i := 2) (d := (some 13)) (v := ?_) rfl rfl (by kernel_rfl) (fun _ _ _ h => h) (by rfl) (fun w' hb' => ?_) ?_
      rotate_left
      · (try go_simp); (try with_reducible rfl)
      try simp only [Act.put, List.setIfInBounds_toArray, List.set_cons_zero, List.set_cons_succ]
      refine g_take (i := 3) (d := (some 14)) (v := ?_) rfl rfl (by kernel_rfl) (fun _ _ _ h => h) (by rfl) (fun w' hb' => ?_) ?_
      rotate_left
      · have zz := (hb'.cell (p := ⟨B1, b, none⟩) (lt_of_block q10)).trans ((block_cell q10 b).trans HU.out); (try go_simp); (try with_reducible rfl)
      try simp only [Act.put, List.setIfInBounds_toArray, List.set_cons_zero, List.set_cons_succ]
      refine g_take (i := 4) (d := (some 15)) (v := ?_) rfl rfl (by kernel_rfl) (fun _ _ _ h => h) (by rfl) (fun w' hb' => ?_) ?_
      rotate_left
      · have zk := (hb'.cell (p := ⟨B2, 0, none⟩) (lt_of_block q20)).trans (block_cell q20 0); simp only [List.getElem?_toArray, List.getElem?_cons_zero] at zk; (try go_simp); (try with_reducible rfl)
      try simp only [Act.put, List.setIfInBounds_toArray, List.set_cons_zero, List.set_cons_succ]
      refine g_run (i := 5) rfl (by kernel_rfl) (by rfl) (fun K hK => ?_)
      go_simp; refine (LP.out _ _ (tab.below (Below.drew (Below.refl _ _))) (HRU.out.below (Below.drew (Below.refl _ _)) (Nat.le_refl _))).mono ?_; rintro e w1 ⟨v1, rfl, own, gg⟩; have g1 := Below.trans (Below.drew (Below.refl w.heap.size w)) gg; have bel1 := g1; have own := own; have q11 := (g1.block _ (lt_of_block q10)).trans q10; have q21 := (g1.block _ (lt_of_block q20)).trans q20; have q31 := (g1.block _ (lt_of_block q30)).trans q30; refine hK _ _ ⟨gg, ?_⟩; clear hK K gg
      try simp only [Act.put, List.setIfInBounds_toArray, List.set_cons_zero, List.set_cons_succ]
      refine g_take (i := 6) (d := (some 10)) (v := ?_) rfl rfl (by kernel_rfl) (fun _ _ _ h => h) (by rfl) (fun w' hb' => ?_) ?_
      rotate_left
      · (try go_simp); (try with_reducible rfl)
      try simp only [Act.put, List.setIfInBounds_toArray, List.set_cons_zero, List.set_cons_succ]
      refine g_take (i := 7) (d := (some 17)) (v := ?_) rfl rfl (by kernel_rfl) (fun _ _ _ h => h) (by rfl) (fun w' hb' => ?_) ?_
      rotate_left
      · (try go_simp); (try with_reducible rfl)
      try simp only [Act.put, List.setIfInBounds_toArray, List.set_cons_zero, List.set_cons_succ]
      refine g_take (i := 8) (d := (some 18)) (v := ?_) rfl rfl (by kernel_rfl) (fun _ _ _ h => h) (by rfl) (fun w' hb' => ?_) ?_
      rotate_left
      · (try go_simp); (try with_reducible rfl)
      try simp only [Act.put, List.setIfInBounds_toArray, List.set_cons_zero, List.set_cons_succ]
      refine g_take (i := 9) (d := (some 8)) (v := ?_) rfl rfl (by kernel_rfl) (fun _ _ _ h => h) (by rfl) (fun w' hb' => ?_) ?_
      rotate_left
      · (try go_simp); (try with_reducible rfl)
      try simp only [Act.put, List.setIfInBounds_toArray, List.set_cons_zero, List.set_cons_succ]
      refine g_take (i := 10) (d := (some 9)) (v := ?_) rfl rfl (by kernel_rfl) (fun _ _ _ h => h) (by rfl) (fun w' hb' => ?_) ?_
      rotate_left
      · (try go_simp); (try with_reducible rfl)
      try simp only [Act.put, List.setIfInBounds_toArray, List.set_cons_zero, List.set_cons_succ]
      refine g_done (by kernel_rfl) ?_
      go_wp2_with fail
      refine g_start (by kernel_rfl) ?_
      refine g_take (i := 0) (d := (some 19)) (v := ?_) rfl rfl (by kernel_rfl) (fun _ _ _ h => h) (by rfl) (fun w' hb' => ?_) ?_
      rotate_left
      · (try go_simp); (try with_reducible rfl)
      try simp only [Act.put, List.setIfInBounds_toArray, List.set_cons_zero, List.set_cons_succ]
      refine g_take (i := 1) (d := (some 20)) (v := ?_) rfl rfl (by kernel_rfl) (fun _ _ _ h => h) (by rfl) (fun w' hb' => ?_) ?_
      rotate_left
      · (try go_simp); (try with_reducible rfl)
      try simp only [Act.put, List.setIfInBounds_toArray, List.set_cons_zero, List.set_cons_succ]
      refine g_take (i := 2) (d := (some 21)) (v := ?_) rfl rfl (by kernel_rfl) (fun _ _ _ h => h) (by rfl) (fun w' hb' => ?_) ?_
      rotate_left
      · (try go_simp); (try with_reducible rfl)
      try simp only [Act.put, List.setIfInBounds_toArray, List.set_cons_zero, List.set_cons_succ]
      refine g_take (i := 3) (d := (some 22)) (v := ?_) rfl rfl (by kernel_rfl) (fun _ _ _ h => h) (by rfl) (fun w' hb' => ?_) ?_
      rotate_left
      · have zk := (hb'.cell (p := ⟨B3, 0, none⟩) (lt_of_block q31)).trans (block_cell q31 0); simp only [List.getElem?_toArray, List.getElem?_cons_zero] at zk; (try go_simp); (try with_reducible rfl)
      try simp only [Act.put, List.setIfInBounds_toArray, List.set_cons_zero, List.set_cons_succ]
      refine g_take (i := 4) (d := (some 23)) (v := ?_) rfl rfl (by kernel_rfl) (fun _ _ _ h => h) (by rfl) (fun w' hb' => ?_) ?_
      rotate_left
      · (try go_simp); (try with_reducible rfl)
      try simp only [Act.put, List.setIfInBounds_toArray, List.set_cons_zero, List.set_cons_succ]
      refine g_take (i := 5) (d := (some 24)) (v := ?_) rfl rfl (by kernel_rfl) (fun _ _ _ h => h) (by rfl) (fun w' hb' => ?_) ?_
      rotate_left
      · (try go_simp); (try with_reducible rfl)
      try simp only [Act.put, List.setIfInBounds_toArray, List.set_cons_zero, List.set_cons_succ]
      refine g_take (i := 6) (d := (some 25)) (v := ?_) rfl rfl (by kernel_rfl) (fun _ _ _ h => h) (by rfl) (fun w' hb' => ?_) ?_
      rotate_left
      · (try go_simp); (try with_reducible rfl)
      try simp only [Act.put, List.setIfInBounds_toArray, List.set_cons_zero, List.set_cons_succ]
      refine g_take (i := 7) (d := (some 26)) (v := ?_) rfl rfl (by kernel_rfl) (fun _ _ _ h => h) (by rfl) (fun w' hb' => ?_) ?_
      rotate_left
      · have zz := (hb'.cell (p := ⟨B1, 16 + b, none⟩) (lt_of_block q11)).trans ((block_cell q11 (16 + b)).trans HV.out); have zy := zz; rw [Nat.add_comm 16 b] at zy; (try go_simp); (try with_reducible rfl)
      try simp only [Act.put, List.setIfInBounds_toArray, List.set_cons_zero, List.set_cons_succ]
      refine g_take (i := 8) (d := (some 27)) (v := ?_) rfl rfl (by kernel_rfl) (fun _ _ _ h => h) (by rfl) (fun w' hb' => ?_) ?_
      rotate_left
      · (try go_simp); (try with_reducible rfl)
      try simp only [Act.put, List.setIfInBounds_toArray, List.set_cons_zero, List.set_cons_succ]
      refine g_take (i := 9) (d := (some 28)) (v := ?_) rfl rfl (by kernel_rfl) (fun _ _ _ h => h) (by rfl) (fun w' hb' => ?_) ?_
      rotate_left
      · (try go_simp); (try with_reducible rfl)
      try simp only [Act.put, List.setIfInBounds_toArray, List.set_cons_zero, List.set_cons_succ]
      refine g_done (by kernel_rfl) ?_
      go_wp2_with fail
      refine g_start (by kernel_rfl) ?_
      refine g_take (i := 0) (d := (some 29)) (v := ?_) rfl rfl (by kernel_rfl) (fun _ _ _ h => h) (by rfl) (fun w' hb' => ?_) ?_
      rotate_left
      · (try go_simp); (try with_reducible rfl)
      try simp only [Act.put, List.setIfInBounds_toArray, List.set_cons_zero, List.set_cons_succ]
      refine g_take (i := 1) (d := (some 30)) (v := ?_) rfl rfl (by kernel_rfl) (fun _ _ _ h => h) (by rfl) (fun w' hb' => ?_) ?_
      rotate_left
      · have zk := (hb'.cell (p := ⟨B3, 0, none⟩) (lt_of_block q31)).trans (block_cell q31 0); simp only [List.getElem?_toArray, List.getElem?_cons_zero] at zk; (try go_simp); (try with_reducible rfl)
      try simp only [Act.put, List.setIfInBounds_toArray, List.set_cons_zero, List.set_cons_succ]
      refine g_take (i := 2) (d := (some 31)) (v := ?_) rfl rfl (by kernel_rfl) (fun _ _ _ h => h) (by rfl) (fun w' hb' => ?_) ?_
      rotate_left
      · (try go_simp); (try with_reducible rfl)
      try simp only [Act.put, List.setIfInBounds_toArray, List.set_cons_zero, List.set_cons_succ]
      refine g_take (i := 3) (d := (some 5)) (v := ?_) rfl rfl (by kernel_rfl) (fun _ _ _ h => h) (by rfl) (fun w' hb' => ?_) ?_
      rotate_left
      · (try go_simp); (try with_reducible rfl)
      try simp only [Act.put, List.setIfInBounds_toArray, List.set_cons_zero, List.set_cons_succ]
      refine g_take (i := 4) (d := (some 6)) (v := ?_) rfl rfl (by kernel_rfl) (fun _ _ _ h => h) (by rfl) (fun w' hb' => ?_) ?_
      rotate_left
      · (try go_simp); (try with_reducible rfl)
      try simp only [Act.put, List.setIfInBounds_toArray, List.set_cons_zero, List.set_cons_succ]
      refine g_take (i := 5) (d := (some 7)) (v := ?_) rfl rfl (by kernel_rfl) (fun _ _ _ h => h) (by rfl) (fun w' hb' => ?_) ?_
      rotate_left
      · (try go_simp); (try with_reducible rfl)
      try simp only [Act.put, List.setIfInBounds_toArray, List.set_cons_zero, List.set_cons_succ]
      refine g_done (by kernel_rfl) ?_
      go_wp2_with fail
      show Z (.returned (.tuple #[v1, .int .i64 ver, .int .i64 (E : Int)])) _
      rw [HZ.out]
      refine ⟨v1, by rw [← HCODE.out] <;> rfl, ?_, ?_⟩
      · first | exact own_draw own _ | exact own_keep own (by first | exact below_drewN (Below.refl _ _) | exact Below.drew (Below.refl _ _)) | exact own
      · first | exact bel1 | exact Below.drew bel1 | exact Below.drew (Below.drew bel1) | exact below_drewN bel1
  · have hyb : ((E : Int) == 0) = false := by rw [beq_eq_false_iff_ne]; omega
    have HCODE := Lib.hid (show E = C by rw [HC.out, if_neg (fun h => hy h.1)])
    clear hy
    go_enter Tryd.func127, Tryd.ntmps127
    go_wp2_with fail
    refine g_start (by kernel_rfl) ?_
    refine g_take (i := 0) (d := (some 11)) (v := ?_) rfl rfl (by kernel_rfl) (fun _ _ _ h => h) (by rfl) (fun w' hb' => ?_) ?_
    rotate_left
    · (try go_simp); (try with_reducible rfl)
    try simp only [Act.put, List.setIfInBounds_toArray, List.set_cons_zero, List.set_cons_succ]
    refine g_take (i := 1) (d := (some 12)) (v := ?_) rfl rfl (by kernel_rfl) (fun _ _ _ h => h) (by rfl) (fun w' hb' => ?_) ?_
    rotate_left
    · (try go_simp); (try with_reducible rfl)
    try simp only [Act.put, List.setIfInBounds_toArray, List.set_cons_zero, List.set_cons_succ]
    refine g_take (i := 2) (d := (some 13)) (v := ?_) rfl rfl (by kernel_rfl) (fun _ _ _ h => h) (by rfl) (fun w' hb' => ?_) ?_
    rotate_left
    · (try go_simp); (try with_reducible rfl)
    try simp only [Act.put, List.setIfInBounds_toArray, List.set_cons_zero, List.set_cons_succ]
    refine g_take (i := 3) (d := (some 14)) (v := ?_) rfl rfl (by kernel_rfl) (fun _ _ _ h => h) (by rfl) (fun w' hb' => ?_) ?_
    rotate_left
    · have zz := (hb'.cell (p := ⟨B1, b, none⟩) (lt_of_block q10)).trans ((block_cell q10 b).trans HU.out); (try go_simp); (try with_reducible rfl)
    try simp only [Act.put, List.setIfInBounds_toArray, List.set_cons_zero, List.set_cons_succ]
    refine g_take (i := 4) (d := (some 15)) (v := ?_) rfl rfl (by kernel_rfl) (fun _ _ _ h => h) (by rfl) (fun w' hb' => ?_) ?_
    rotate_left
    · have zk := (hb'.cell (p := ⟨B2, 0, none⟩) (lt_of_block q20)).trans (block_cell q20 0); simp only [List.getElem?_toArray, List.getElem?_cons_zero] at zk; (try go_simp); (try with_reducible rfl)
    try simp only [Act.put, List.setIfInBounds_toArray, List.set_cons_zero, List.set_cons_succ]
    refine g_run (i := 5) rfl (by kernel_rfl) (by rfl) (fun K hK => ?_)
    go_simp; refine (LP.out _ _ (tab.below (Below.drew (Below.refl _ _))) (HRU.out.below (Below.drew (Below.refl _ _)) (Nat.le_refl _))).mono ?_; rintro e w1 ⟨v1, rfl, own, gg⟩; have g1 := Below.trans (Below.drew (Below.refl w.heap.size w)) gg; have bel1 := g1; have own := own; have q11 := (g1.block _ (lt_of_block q10)).trans q10; have q21 := (g1.block _ (lt_of_block q20)).trans q20; have q31 := (g1.block _ (lt_of_block q30)).trans q30; refine hK _ _ ⟨gg, ?_⟩; clear hK K gg
    try simp only [Act.put, List.setIfInBounds_toArray, List.set_cons_zero, List.set_cons_succ]
    refine g_take (i := 6) (d := (some 10)) (v := ?_) rfl rfl (by kernel_rfl) (fun _ _ _ h => h) (by rfl) (fun w' hb' => ?_) ?_
    rotate_left
    · (try go_simp); (try with_reducible rfl)
    try simp only [Act.put, List.setIfInBounds_toArray, List.set_cons_zero, List.set_cons_succ]
    refine g_take (i := 7) (d := (some 17)) (v := ?_) rfl rfl (by kernel_rfl) (fun _ _ _ h => h) (by rfl) (fun w' hb' => ?_) ?_
    rotate_left
    · (try go_simp); (try with_reducible rfl)
    try simp only [Act.put, List.setIfInBounds_toArray, List.set_cons_zero, List.set_cons_succ]
    refine g_take (i := 8) (d := (some 18)) (v := ?_) rfl rfl (by kernel_rfl) (fun _ _ _ h => h) (by rfl) (fun w' hb' => ?_) ?_
    rotate_left
    · (try go_simp); (try with_reducible rfl)
    try simp only [Act.put, List.setIfInBounds_toArray, List.set_cons_zero, List.set_cons_succ]
    refine g_take (i := 9) (d := (some 8)) (v := ?_) rfl rfl (by kernel_rfl) (fun _ _ _ h => h) (by rfl) (fun w' hb' => ?_) ?_
    rotate_left
    · (try go_simp); (try with_reducible rfl)
    try simp only [Act.put, List.setIfInBounds_toArray, List.set_cons_zero, List.set_cons_succ]
    refine g_take (i := 10) (d := (some 9)) (v := ?_) rfl rfl (by kernel_rfl) (fun _ _ _ h => h) (by rfl) (fun w' hb' => ?_) ?_
    rotate_left
    · (try go_simp); (try with_reducible rfl)
    try simp only [Act.put, List.setIfInBounds_toArray, List.set_cons_zero, List.set_cons_succ]
    refine g_done (by kernel_rfl) ?_
    go_wp2_with fail
    refine g_start (by kernel_rfl) ?_
    refine g_take (i := 0) (d := (some 19)) (v := ?_) rfl rfl (by kernel_rfl) (fun _ _ _ h => h) (by rfl) (fun w' hb' => ?_) ?_
    rotate_left
    · (try go_simp); (try with_reducible rfl)
    try simp only [Act.put, List.setIfInBounds_toArray, List.set_cons_zero, List.set_cons_succ]
    refine g_take (i := 1) (d := (some 20)) (v := ?_) rfl rfl (by kernel_rfl) (fun _ _ _ h => h) (by rfl) (fun w' hb' => ?_) ?_
    rotate_left
    · (try go_simp); (try with_reducible rfl)
    try simp only [Act.put, List.setIfInBounds_toArray, List.set_cons_zero, List.set_cons_succ]
    refine g_take (i := 2) (d := (some 21)) (v := ?_) rfl rfl (by kernel_rfl) (fun _ _ _ h => h) (by rfl) (fun w' hb' => ?_) ?_
    rotate_left
    · (try go_simp); (try with_reducible rfl)
    try simp only [Act.put, List.setIfInBounds_toArray, List.set_cons_zero, List.set_cons_succ]
    refine g_skip (i := 3) (d := (some 22)) rfl rfl (by kernel_rfl) (fun _ _ _ h => h) (by rfl) ?_
    try simp only [Act.put, List.setIfInBounds_toArray, List.set_cons_zero, List.set_cons_succ]
    refine g_skip (i := 4) (d := (some 23)) rfl rfl (by kernel_rfl) (fun _ _ _ h => h) (by rfl) ?_
    try simp only [Act.put, List.setIfInBounds_toArray, List.set_cons_zero, List.set_cons_succ]
    refine g_skip (i := 5) (d := (some 24)) rfl rfl (by kernel_rfl) (fun _ _ _ h => h) (by rfl) ?_
    try simp only [Act.put, List.setIfInBounds_toArray, List.set_cons_zero, List.set_cons_succ]
    refine g_skip (i := 6) (d := (some 25)) rfl rfl (by kernel_rfl) (fun _ _ _ h => h) (by rfl) ?_
    try simp only [Act.put, List.setIfInBounds_toArray, List.set_cons_zero, List.set_cons_succ]
    refine g_skip (i := 7) (d := (some 26)) rfl rfl (by kernel_rfl) (fun _ _ _ h => h) (by rfl) ?_
    try simp only [Act.put, List.setIfInBounds_toArray, List.set_cons_zero, List.set_cons_succ]
    refine g_skip (i := 8) (d := (some 27)) rfl rfl (by kernel_rfl) (fun _ _ _ h => h) (by rfl) ?_
    try simp only [Act.put, List.setIfInBounds_toArray, List.set_cons_zero, List.set_cons_succ]
    refine g_take (i := 9) (d := (some 28)) (v := ?_) rfl rfl (by kernel_rfl) (fun _ _ _ h => h) (by rfl) (fun w' hb' => ?_) ?_
    rotate_left
    · (try go_simp); (try with_reducible rfl)
    try simp only [Act.put, List.setIfInBounds_toArray, List.set_cons_zero, List.set_cons_succ]
    refine g_done (by kernel_rfl) ?_
    go_wp2_with fail
    refine g_start (by kernel_rfl) ?_
    refine g_take (i := 0) (d := (some 29)) (v := ?_) rfl rfl (by kernel_rfl) (fun _ _ _ h => h) (by rfl) (fun w' hb' => ?_) ?_
    rotate_left
    · (try go_simp); (try with_reducible rfl)
    try simp only [Act.put, List.setIfInBounds_toArray, List.set_cons_zero, List.set_cons_succ]
    refine g_take (i := 1) (d := (some 30)) (v := ?_) rfl rfl (by kernel_rfl) (fun _ _ _ h => h) (by rfl) (fun w' hb' => ?_) ?_
    rotate_left
    · have zk := (hb'.cell (p := ⟨B3, 0, none⟩) (lt_of_block q31)).trans (block_cell q31 0); simp only [List.getElem?_toArray, List.getElem?_cons_zero] at zk; (try go_simp); (try with_reducible rfl)
    try simp only [Act.put, List.setIfInBounds_toArray, List.set_cons_zero, List.set_cons_succ]
    refine g_take (i := 2) (d := (some 31)) (v := ?_) rfl rfl (by kernel_rfl) (fun _ _ _ h => h) (by rfl) (fun w' hb' => ?_) ?_
    rotate_left
    · (try go_simp); (try with_reducible rfl)
    try simp only [Act.put, List.setIfInBounds_toArray, List.set_cons_zero, List.set_cons_succ]
    refine g_take (i := 3) (d := (some 5)) (v := ?_) rfl rfl (by kernel_rfl) (fun _ _ _ h => h) (by rfl) (fun w' hb' => ?_) ?_
    rotate_left
    · (try go_simp); (try with_reducible rfl)
    try simp only [Act.put, List.setIfInBounds_toArray, List.set_cons_zero, List.set_cons_succ]
    refine g_take (i := 4) (d := (some 6)) (v := ?_) rfl rfl (by kernel_rfl) (fun _ _ _ h => h) (by rfl) (fun w' hb' => ?_) ?_
    rotate_left
    · (try go_simp); (try with_reducible rfl)
    try simp only [Act.put, List.setIfInBounds_toArray, List.set_cons_zero, List.set_cons_succ]
    refine g_take (i := 5) (d := (some 7)) (v := ?_) rfl rfl (by kernel_rfl) (fun _ _ _ h => h) (by rfl) (fun w' hb' => ?_) ?_
    rotate_left
    · (try go_simp); (try with_reducible rfl)
    try simp only [Act.put, List.setIfInBounds_toArray, List.set_cons_zero, List.set_cons_succ]
    refine g_done (by kernel_rfl) ?_
    go_wp2_with fail
    show Z (.returned (.tuple #[v1, .int .i64 ver, .int .i64 (E : Int)])) _
    rw [HZ.out]
    refine ⟨v1, by rw [← HCODE.out] <;> rfl, ?_, ?_⟩
    · first | exact own_draw own _ | exact own_keep own (by first | exact below_drewN (Below.refl _ _) | exact Below.drew (Below.refl _ _)) | exact own
    · first | exact bel1 | exact Below.drew bel1 | exact Below.drew (Below.drew bel1) | exact below_drewN bel1
set_option maxRecDepth 100000 in
set_option maxHeartbeats 2000000 in
theorem with_del (cs : Array Value) (lv : Nat → List It) (vs : Nat → Int) (k : List UInt8) (n0 : Nat) (B1 B2 B3 : Nat) (l : List It) (ver : Int) (c : Nat) (w : World) (tab : TabAt w) (h : RdT w cs lv vs) (hsz : SzT lv) (hk : k.length ≤ maxLen)
    (HC : mayTs lv vs 16 = true → isB k = true → ∀ W, Below w.heap.size w W → Calls Tryd.prog 127 #[.int .i64 (bkN k : Int), .pointer (some ⟨B1, 0, none⟩), .pointer (some ⟨B2, 0, none⟩), .pointer (some ⟨B3, 0, none⟩)] W (ChgP W l ver c)) :
    Calls Tryd.prog 126 #[.agg cs, .string (str k), .int .i64 (n0 : Int), .func (.func 127) #[] #[.pointer (some ⟨B1, 0, none⟩), .pointer (some ⟨B2, 0, none⟩), .pointer (some ⟨B3, 0, none⟩)]] w
      (if mayTs lv vs 16 = true then (if isB k = true then (if c = 0 then TrO w cs (bkN k) l ver else TrZ w c) else TrZ w n0) else TrZ w 1) := by
  have hs := infoTc h.size
  have HT := Lib.hid h
  have HS := Lib.hid hsz
  have z0 := zeroT_run
  have z1 := zT_ne
  obtain ⟨q4, q8, -, -⟩ := two_allocs w (.cells cs 26) (.cells zT 26)
  have bel : Below w.heap.size w ((w.alloc (.cells cs 26)).alloc (.cells zT 26)) := ((Below.refl _ w).alloc (Nat.le_refl _) _).alloc (by simp) _
  have BK := bucket_any k hk
  change Ret _ _ (.int .i64 (bk k)) at BK
  have T0 := tab.below bel
  have hlw := Nat.le_refl w.heap.size
  clear h hsz tab
  cases hm : mayTs lv vs 16 with
  | false =>
    rw [if_neg (by simp)]
    have TM0 := fun W t h => tmay_any cs lv vs W t h HS.out
    rw [hm] at TM0
    have TM := Lib.hid TM0
    clear hm TM0 HC
    obtain ⟨Z, hZ⟩ : ∃ Z, Z = TrZ w 1 := ⟨_, rfl⟩
    rw [← hZ]
    have HZ := Lib.hid hZ
    clear hZ
    go_enter Tryd.func126, Tryd.ntmps126
    go_wp2_with (with_reducible refine wpList_load_row (o := ⟨some 14, _, _, _, _, _⟩) rfl 26 (.tmp 4) rfl _ rfl _ cs (0, 0) _ q4 Tryd.underlying26 rfl hs ?_)
    refine (TM.out _ T0 (HT.out.below bel (Nat.le_refl _))).mono ?_
    rintro e w1 ⟨rfl, g⟩
    replace q8 := (g.block _ (lt_of_block q8)).trans q8
    replace bel := chain bel g
    clear g q4
    go_wp2_with (with_reducible refine wpList_store_row (o := ⟨none, _, _, _, _, _⟩) rfl 26 (.tmp 8) (.tmp 17) rfl _ zT rfl rfl _ zT q8 (infoTc zT_size) rfl zT_one ?_)
    rw [setRow_self _ _ _ _ _ q8]
    go_wp2_with fail
    refine bodyPost_ret (v := .tuple #[.agg zT, .int .i64 1]) (results_row_tmp rfl _ _ _ _ zT (0, 0) _ _ rfl rfl q8 Tryd.underlying26 rfl (infoTc zT_size)) rfl ?_
    rw [HZ.out]; exact ⟨rfl, bel⟩
  | true =>
    rw [if_pos rfl]
    have TM0 := fun W t h => tmay_any cs lv vs W t h HS.out
    rw [hm] at TM0
    have TM := Lib.hid TM0
    cases hb : isB k with
    | false =>
      rw [if_neg (by simp)]
      rw [bk_no hb] at BK
      clear hm TM0 HC hb
      obtain ⟨Z, hZ⟩ : ∃ Z, Z = TrZ w n0 := ⟨_, rfl⟩
      rw [← hZ]
      have HZ := Lib.hid hZ
      clear hZ
      go_enter Tryd.func126, Tryd.ntmps126
      go_wp2_with (with_reducible refine wpList_load_row (o := ⟨some 14, _, _, _, _, _⟩) rfl 26 (.tmp 4) rfl _ rfl _ cs (0, 0) _ q4 Tryd.underlying26 rfl hs ?_)
      refine (TM.out _ T0 (HT.out.below bel (Nat.le_refl _))).mono ?_
      rintro e w1 ⟨rfl, g⟩
      replace T0 := T0.below g
      replace q8 := (g.block _ (lt_of_block q8)).trans q8
      replace bel := chain bel g
      clear g q4
      go_wp2_with fail
      refine (BK.at _ T0).mono ?_
      rintro e w2 ⟨rfl, g⟩
      replace q8 := (g.block _ (lt_of_block q8)).trans q8
      replace bel := chain bel g
      clear g
      go_wp2_with (with_reducible refine wpList_store_row (o := ⟨none, _, _, _, _, _⟩) rfl 26 (.tmp 8) (.tmp 22) rfl _ zT rfl rfl _ zT q8 (infoTc zT_size) rfl zT_one ?_)
      rw [setRow_self _ _ _ _ _ q8]
      go_wp2_with fail
      refine bodyPost_ret (v := .tuple #[.agg zT, .int .i64 (n0 : Int)]) (results_row_tmp rfl _ _ _ _ zT (0, 0) _ _ rfl rfl q8 Tryd.underlying26 rfl (infoTc zT_size)) rfl ?_
      rw [HZ.out]; exact ⟨rfl, bel⟩
    | true =>
      rw [if_pos rfl]
      rw [bk_is hb] at BK
      have HCC := Lib.hid (HC hm hb)
      have hb16 := bkN_lt k
      clear hm TM0 HC hb
      obtain ⟨b, hbk⟩ : ∃ b, b = bkN k := ⟨_, rfl⟩
      rw [← hbk] at BK hb16 HCC ⊢
      clear hbk
      obtain ⟨u0, hu0, hru0⟩ := HT.out.leaf b hb16
      have HU := Lib.hid hu0
      have HV := Lib.hid (HT.out.ver b hb16)
      clear hu0 hru0
      by_cases hc : c = 0
      · rw [if_pos hc]
        subst hc
        obtain ⟨Z, hZ⟩ : ∃ Z, Z = TrO w cs b l ver := ⟨_, rfl⟩
        rw [← hZ]
        have HZ := Lib.hid hZ
        clear hZ
        go_enter Tryd.func126, Tryd.ntmps126
        go_wp2_with (with_reducible refine wpList_load_row (o := ⟨some 14, _, _, _, _, _⟩) rfl 26 (.tmp 4) rfl _ rfl _ cs (0, 0) _ q4 Tryd.underlying26 rfl hs ?_)
        refine (TM.out _ T0 (HT.out.below bel (Nat.le_refl _))).mono ?_
        rintro e w1 ⟨rfl, g⟩
        replace T0 := T0.below g
        replace q4 := (g.block _ (lt_of_block q4)).trans q4
        replace q8 := (g.block _ (lt_of_block q8)).trans q8
        replace bel := chain bel g
        clear g
        go_wp2_with fail
        refine (BK.at _ T0).mono ?_
        rintro e w2 ⟨rfl, g⟩
        replace q4 := (g.block _ (lt_of_block q4)).trans q4
        replace q8 := (g.block _ (lt_of_block q8)).trans q8
        replace bel := chain bel g
        clear g
        go_wp2_with fail
        have HL2 := Lib.hid (lt_of_block q8)
        refine (HCC.out _ bel).mono ?_
        rintro e w3 ⟨u, rfl, hru, g⟩
        replace q4 := (g.block _ (lt_of_block q4)).trans q4
        replace q8 := (g.block _ (lt_of_block q8)).trans q8
        replace bel := chain bel g
        clear g
        obtain ⟨a1, n1, c1, rfl⟩ := own_slice hru
        have OWN := Lib.hid hru
        clear hru
        have e1 := (block_cell q4 b).trans HU.out
        have f1 := block_frozen q4 b
        have q41 := set_at (i := b) (u := .slice a1 n1 c1) q4
        have e2 := (block_cell q41 (16 + b)).trans (Array.getElem?_setIfInBounds_ne (by omega) |>.trans HV.out)
        have f2 := block_frozen q41 (16 + b)
        have e3 := e2
        have f3 := f2
        rw [Nat.add_comm 16 b] at e3 f3
        have hl4 := lt_of_block q4
        clear q41
        obtain ⟨CS, hCS⟩ : ∃ CS, CS = (cs.setIfInBounds b (.slice a1 n1 c1)).setIfInBounds (16 + b) (.int .i64 ver) := ⟨_, rfl⟩
        have q4b : ((w3.setCell ⟨w.heap.size, b, none⟩ (.slice a1 n1 c1)).setCell ⟨w.heap.size, 16 + b, none⟩ (.int .i64 ver)).heap[w.heap.size]? = some (.cells CS 26 (0, 0)) := by rw [hCS]; exact two_cells q4
        have q8b : ((w3.setCell ⟨w.heap.size, b, none⟩ (.slice a1 n1 c1)).setCell ⟨w.heap.size, 16 + b, none⟩ (.int .i64 ver)).heap[w.heap.size + 1]? = some (.cells zT 26 (0, 0)) := by rw [set_old (by omega), set_old (by omega)]; exact q8
        have q8c := setRow_heap _ _ _ CS _ _ q8b
        have bel9 := below_row ((bel.setCell (p := ⟨w.heap.size, b, none⟩) (Nat.le_refl _) (.slice a1 n1 c1)).setCell (p := ⟨w.heap.size, 16 + b, none⟩) (Nat.le_refl _) (.int .i64 ver)) (Nat.le_succ w.heap.size) CS
        have own9 := own_moved (w' := (((w3.setCell ⟨w.heap.size, b, none⟩ (.slice a1 n1 c1)).setCell ⟨w.heap.size, 16 + b, none⟩ (.int .i64 ver)).setRow (w.heap.size + 1) CS)) OWN.out (fun g hg => by
          have := HL2.out
          rw [setRow_other _ _ _ _ (by omega), set_old (by omega), set_old (by omega)])
        have RT := (HT.out.below bel9 (Nat.le_refl _)).put hb16 (v := ver) (own_rdk itC_len own9)
        have OWN9 := Lib.hid (own_base (b' := w.heap.size) own9 (by have := HL2.out; omega))
        have HCS := Lib.hid hCS
        rw [← hCS] at RT
        have HC2 := infoTc RT.size
        have hcs2 : zT.size = CS.size := by rw [RT.size]; rfl
        have hone := RT.one
        have RTH := Lib.hid RT
        have BEL9 := Lib.hid bel9
        have Q8C := Lib.hid q8c
        clear RT bel9 q8c hCS own9
        go_wp2_with (first | (with_reducible refine wpList_load_row (o := ⟨some 43, _, _, _, _, _⟩) rfl 26 (.tmp 4) rfl _ rfl _ CS (0, 0) _ q4b Tryd.underlying26 rfl HC2 ?_) | (with_reducible refine wpList_store_row (o := ⟨none, _, _, _, _, _⟩) rfl 26 (.tmp 8) (.tmp 43) rfl _ CS rfl rfl _ zT q8b HC2 hcs2 hone ?_))
        refine bodyPost_ret (v := .tuple #[.agg CS, .int .i64 0]) (results_row_tmp rfl _ _ _ _ CS (0, 0) _ _ rfl rfl Q8C.out Tryd.underlying26 rfl HC2) rfl ?_
        rw [HZ.out]; exact ⟨_, by rw [HCS.out], OWN9.out, BEL9.out⟩
      · rw [if_neg hc]
        have hc1 : ((c : Int) != 0) = true := by rw [bne_iff_ne]; omega
        clear hc
        obtain ⟨Z, hZ⟩ : ∃ Z, Z = TrZ w c := ⟨_, rfl⟩
        rw [← hZ]
        have HZ := Lib.hid hZ
        clear hZ
        go_enter Tryd.func126, Tryd.ntmps126
        go_wp2_with (with_reducible refine wpList_load_row (o := ⟨some 14, _, _, _, _, _⟩) rfl 26 (.tmp 4) rfl _ rfl _ cs (0, 0) _ q4 Tryd.underlying26 rfl hs ?_)
        refine (TM.out _ T0 (HT.out.below bel (Nat.le_refl _))).mono ?_
        rintro e w1 ⟨rfl, g⟩
        replace T0 := T0.below g
        replace q8 := (g.block _ (lt_of_block q8)).trans q8
        replace bel := chain bel g
        clear g q4
        go_wp2_with fail
        refine (BK.at _ T0).mono ?_
        rintro e w2 ⟨rfl, g⟩
        replace q8 := (g.block _ (lt_of_block q8)).trans q8
        replace bel := chain bel g
        clear g
        go_wp2_with fail
        refine (HCC.out _ bel).mono ?_
        rintro e w3 ⟨u, rfl, hru, g⟩
        replace q8 := (g.block _ (lt_of_block q8)).trans q8
        replace bel := chain bel g
        clear g hru
        go_wp2_with (with_reducible refine wpList_store_row (o := ⟨none, _, _, _, _, _⟩) rfl 26 (.tmp 8) (.tmp 33) rfl _ zT rfl rfl _ zT q8 (infoTc zT_size) rfl zT_one ?_)
        rw [setRow_self _ _ _ _ _ q8]
        go_wp2_with fail
        refine bodyPost_ret (v := .tuple #[.agg zT, .int .i64 (c : Int)]) (results_row_tmp rfl _ _ _ _ zT (0, 0) _ _ rfl rfl q8 Tryd.underlying26 rfl (infoTc zT_size)) rfl ?_
        rw [HZ.out]; exact ⟨rfl, bel⟩
end Go.Proofs.YtbdfcgffkonbiaaDoor
