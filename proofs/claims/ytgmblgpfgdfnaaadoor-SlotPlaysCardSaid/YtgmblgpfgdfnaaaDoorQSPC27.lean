/- Slots: the document's Votes and Same, where both are the same. Written by wip/tools/gen29s.py. -/
import Derived.Test.YtgmblgpfgdfnaaaDoorQSPC23
import Derived.Test.YtgmblgpfgdfnaaaDoorQSPC25
namespace Go.Proofs.YtgmblgpfgdfnaaaDoor
open Go Go.RowKit
set_option linter.unusedVariables false
set_option linter.unusedSimpArgs false
set_option maxRecDepth 100000
set_option maxHeartbeats 2000000 in
theorem sameVotes_yes (va vb : Value) (l : List Vt) (w : World) (ha : RdT w va l) (hb : RdT w vb l) : Calls Tryd.prog 31 #[va, vb] w fun e w' => e = .returned (.bool true) ∧ Below w.heap.size w w' := by
  obtain ⟨ax, cx, rfl, h1, h2, ra⟩ := RdK.open ha
  obtain ⟨ay, cy, rfl, h3, h4, rb⟩ := RdK.open hb
  have HA := Lib.hid (show RdT w (.slice ax l.length cx) l from ra)
  have HB := Lib.hid (show RdT w (.slice ay l.length cy) l from rb)
  clear ha hb ra rb
  go_enter Tryd.func31, Tryd.ntmps31
  go_wp2_with fail
  go_loopw [5] (fun i wr => ∃ k : Nat, k ≤ l.length ∧ i = .int .i64 (k : Int) ∧ Below w.heap.size w wr) (fun i _ => l.length - (intOf i).toNat)
  case atStart => exact ⟨0, Nat.zero_le _, rfl, Below.refl _ _⟩
  case round =>
    obtain ⟨k, hk, rfl, bel⟩ := hrel
    by_cases hlt : k < l.length
    · obtain ⟨pb, po, rfl, hpb, C0, C1, C2⟩ := rdt_cells HA.out k hlt
      obtain ⟨qb, qo, rfl, hqb, D0, D1, D2⟩ := rdt_cells HB.out k hlt
      replace C0 := (bel.cell (p := ⟨pb, po + k * 3, none⟩) hpb).trans C0
      replace C1 := (bel.cell (p := ⟨pb, po + k * 3 + 1, none⟩) hpb).trans C1
      replace C2 := (bel.cell (p := ⟨pb, po + k * 3 + 2, none⟩) hpb).trans C2
      replace D0 := (bel.cell (p := ⟨qb, qo + k * 3, none⟩) hqb).trans D0
      replace D1 := (bel.cell (p := ⟨qb, qo + k * 3 + 1, none⟩) hqb).trans D1
      replace D2 := (bel.cell (p := ⟨qb, qo + k * 3 + 2, none⟩) hqb).trans D2
      have hpx := Nat.lt_of_lt_of_le hpb bel.size
      have hqx := Nat.lt_of_lt_of_le hqb bel.size
      go_wp2_with fail
      refine g_start (by kernel_rfl) ?_
      refine g_take (i := 0) (d := (some 17)) (v := ?_) rfl rfl (by kernel_rfl) (fun _ _ _ h => h) (by rfl) (fun w' hb' => ?_) ?_
      rotate_left
      · (try go_simp); (try with_reducible rfl)
      try simp only [Act.put, List.setIfInBounds_toArray, List.set_cons_zero, List.set_cons_succ]
      refine g_take (i := 1) (d := (some 18)) (v := ?_) rfl rfl (by kernel_rfl) (fun _ _ _ h => h) (by rfl) (fun w' hb' => ?_) ?_
      rotate_left
      · (try go_simp); (try with_reducible rfl)
      try simp only [Act.put, List.setIfInBounds_toArray, List.set_cons_zero, List.set_cons_succ]
      refine g_take (i := 2) (d := (some 19)) (v := ?_) rfl rfl (by kernel_rfl) (fun _ _ _ h => h) (by rfl) (fun w' hb' => ?_) ?_
      rotate_left
      · (try go_simp); (try with_reducible rfl)
      try simp only [Act.put, List.setIfInBounds_toArray, List.set_cons_zero, List.set_cons_succ]
      refine g_take (i := 3) (d := (some 20)) (v := ?_) rfl rfl (by kernel_rfl) (fun _ _ _ h => h) (by rfl) (fun w' hb' => ?_) ?_
      rotate_left
      · have c0 := (hb'.cell (p := ⟨pb, po + k * 3, none⟩) hpx).trans C0; have c1 := (hb'.cell (p := ⟨pb, po + k * 3 + 1, none⟩) hpx).trans C1; have c2 := (hb'.cell (p := ⟨pb, po + k * 3 + 2, none⟩) hpx).trans C2; (try go_simp); (try with_reducible rfl)
      try simp only [Act.put, List.setIfInBounds_toArray, List.set_cons_zero, List.set_cons_succ]
      refine g_take (i := 4) (d := (some 21)) (v := ?_) rfl rfl (by kernel_rfl) (fun _ _ _ h => h) (by rfl) (fun w' hb' => ?_) ?_
      rotate_left
      · (try go_simp); (try with_reducible rfl)
      try simp only [Act.put, List.setIfInBounds_toArray, List.set_cons_zero, List.set_cons_succ]
      refine g_take (i := 5) (d := (some 22)) (v := ?_) rfl rfl (by kernel_rfl) (fun _ _ _ h => h) (by rfl) (fun w' hb' => ?_) ?_
      rotate_left
      · (try go_simp); (try with_reducible rfl)
      try simp only [Act.put, List.setIfInBounds_toArray, List.set_cons_zero, List.set_cons_succ]
      refine g_take (i := 6) (d := (some 23)) (v := ?_) rfl rfl (by kernel_rfl) (fun _ _ _ h => h) (by rfl) (fun w' hb' => ?_) ?_
      rotate_left
      · (try go_simp); (try with_reducible rfl)
      try simp only [Act.put, List.setIfInBounds_toArray, List.set_cons_zero, List.set_cons_succ]
      refine g_take (i := 7) (d := (some 24)) (v := ?_) rfl rfl (by kernel_rfl) (fun _ _ _ h => h) (by rfl) (fun w' hb' => ?_) ?_
      rotate_left
      · have c0 := (hb'.cell (p := ⟨qb, qo + k * 3, none⟩) hqx).trans D0; have c1 := (hb'.cell (p := ⟨qb, qo + k * 3 + 1, none⟩) hqx).trans D1; have c2 := (hb'.cell (p := ⟨qb, qo + k * 3 + 2, none⟩) hqx).trans D2; (try go_simp); (try with_reducible rfl)
      try simp only [Act.put, List.setIfInBounds_toArray, List.set_cons_zero, List.set_cons_succ]
      refine g_take (i := 8) (d := (some 25)) (v := ?_) rfl rfl (by kernel_rfl) (fun _ _ _ h => h) (by rfl) (fun w' hb' => ?_) ?_
      rotate_left
      · (try go_simp); (try with_reducible rfl)
      try simp only [Act.put, List.setIfInBounds_toArray, List.set_cons_zero, List.set_cons_succ]
      refine g_done (by kernel_rfl) ?_
      go_wp2_with fail
      exact ⟨⟨k + 1, by omega, by push_cast; rfl, bel.drew⟩, by simp [intOf]; omega⟩
    · have hk2 : k = l.length := by omega
      subst hk2
      go_wp2_with fail
      go_ret
      exact ⟨rfl, bel⟩
set_option maxHeartbeats 2000000 in
theorem same_yes (s : Sl) (vP vC uP uC : Value) (w : World) (h : RdS w s vP vC) (h' : RdS w s uP uC) : Calls Tryd.prog 14 #[sV s vP vC, sV s uP uC] w fun e w' => e = .returned (.bool true) ∧ Below w.heap.size w w' := by
  have P0 := fun w' (g : Below w.heap.size w w') => sameVotes_yes vP uP s.ps w' (h.p.below g (Nat.le_refl _)) (h'.p.below g (Nat.le_refl _))
  have C0 := fun w' (g : Below w.heap.size w w') => sameVotes_yes vC uC s.cs w' (h.c.below g (Nat.le_refl _)) (h'.c.below g (Nat.le_refl _))
  have PS := Lib.hid P0
  have CS := Lib.hid C0
  obtain ⟨has, vw, tm, body, ps, cs⟩ := s
  unfold sV
  simp only
  obtain ⟨S, hS⟩ : ∃ S, S = str body := ⟨_, rfl⟩
  rw [← hS]
  have hal := two_allocs w (.cells #[.bool has, .int .i64 vw, .int .i64 tm, .string S, vP, vC] 24) (.cells #[.bool has, .int .i64 vw, .int .i64 tm, .string S, uP, uC] 24)
  have q0 : ((w.alloc (.cells #[.bool has, .int .i64 vw, .int .i64 tm, .string S, vP, vC] 24)).alloc (.cells #[.bool has, .int .i64 vw, .int .i64 tm, .string S, uP, uC] 24)).heap[w.heap.size]? = some (.cells #[.bool has, .int .i64 vw, .int .i64 tm, .string S, vP, vC] 24 (0, 0)) := hal.1
  have q1 : ((w.alloc (.cells #[.bool has, .int .i64 vw, .int .i64 tm, .string S, vP, vC] 24)).alloc (.cells #[.bool has, .int .i64 vw, .int .i64 tm, .string S, uP, uC] 24)).heap[w.heap.size + 1]? = some (.cells #[.bool has, .int .i64 vw, .int .i64 tm, .string S, uP, uC] 24 (0, 0)) := hal.2.1
  have bel := ((Below.refl w.heap.size w).alloc (Nat.le_refl _) (.cells #[.bool has, .int .i64 vw, .int .i64 tm, .string S, vP, vC] 24)).alloc (by simp) (.cells #[.bool has, .int .i64 vw, .int .i64 tm, .string S, uP, uC] 24)
  obtain ⟨d0, d1, d2, d3, d4, d5, df⟩ := block_cells6 q0
  obtain ⟨e0, e1, e2, e3, e4, e5, ef⟩ := block_cells6 q1
  clear h h' P0 C0 hS hal
  go_enter Tryd.func14, Tryd.ntmps14
  go_wp2_with (first | ((with_reducible refine (PS.out _ bel).mono ?_); rintro e w2 ⟨rfl, g⟩; (replace q0 := (g.block _ (lt_of_block q0)).trans q0); (replace q1 := (g.block _ (lt_of_block q1)).trans q1); (clear d0 d1 d2 d3 d4 d5 df e0 e1 e2 e3 e4 e5 ef); (replace bel := chain bel g); clear g; (obtain ⟨d0, d1, d2, d3, d4, d5, df⟩ := block_cells6 q0); (obtain ⟨e0, e1, e2, e3, e4, e5, ef⟩ := block_cells6 q1)) | ((with_reducible refine (CS.out _ bel).mono ?_); rintro e w2 ⟨rfl, g⟩; (replace bel := chain bel g)))
  go_ret
  exact ⟨rfl, bel⟩
end Go.Proofs.YtgmblgpfgdfnaaaDoor
