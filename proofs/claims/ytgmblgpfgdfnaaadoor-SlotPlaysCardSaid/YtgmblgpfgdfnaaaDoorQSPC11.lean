/- Slots: lists of votes that may be. Written by wip/tools/gen29b.py. -/
import Derived.Test.YtgmblgpfgdfnaaaDoorQSPC10
namespace Go.Proofs.YtgmblgpfgdfnaaaDoor
open Go Go.RowKit
set_option linter.unusedVariables false
set_option linter.unusedSimpArgs false
set_option maxRecDepth 100000
theorem step_vote {l : List Vt} {k : Nat} (h : k < l.length) (hv : voteB l[k] = false) : stepV l k = false := by unfold stepV; rw [getD_at _ h, hv]; rfl
theorem step_first {l : List Vt} (h : 0 < l.length) (hv : voteB l[0] = true) : stepV l 0 = true := by unfold stepV; rw [getD_at _ h, hv]; rfl
theorem step_next {l : List Vt} {j : Nat} (h : j + 1 < l.length) (hv : voteB l[j + 1] = true) : stepV l (j + 1) = decide ((l[j]'(by omega)).fr < l[j + 1].fr) := by
  unfold stepV; rw [getD_at _ h, hv, show j + 1 - 1 = j by omega, getD_at _ (by omega)]; simp
set_option maxHeartbeats 1000000 in
theorem areVotes_any (v : Value) (l : List Vt) (w : World) (h : RdT w v l) : Calls Tryd.prog 32 #[v] w fun e w' => e = .returned (.bool (areB l)) ∧ Below w.heap.size w w' := by
  obtain ⟨ao, cap, rfl, hc, hm, hr⟩ := RdK.open h
  have hr : RdT w (.slice ao l.length cap) l := hr
  have HRD := Lib.hid hr
  obtain ⟨R, hR⟩ : ∃ R, R = areB l := ⟨_, rfl⟩
  rw [← hR]
  have HR := Lib.hid hR
  clear h hr hR
  go_enter Tryd.func32, Tryd.ntmps32
  go_wp2_with fail
  go_loopw [7] (fun i wr => ∃ k : Nat, k ≤ l.length ∧ i = .int .i64 (k : Int) ∧ Hid ((List.range k).all (stepV l) = true) ∧ Below w.heap.size w wr) (fun i _ => l.length - (intOf i).toNat)
  case atStart => exact ⟨0, Nat.zero_le _, rfl, Lib.hid rfl, Below.refl _ _⟩
  case round =>
    obtain ⟨k, hk, rfl, HA, bel⟩ := hrel
    by_cases hlt : k < l.length
    · obtain ⟨pb, po, rfl, hpb, C0, C1, C2⟩ := rdt_cells HRD.out k hlt
      have c0 := (bel.cell (p := ⟨pb, po + k * 3, none⟩) hpb).trans C0
      have c1 := (bel.cell (p := ⟨pb, po + k * 3 + 1, none⟩) hpb).trans C1
      have c2 := (bel.cell (p := ⟨pb, po + k * 3 + 2, none⟩) hpb).trans C2
      obtain ⟨x, hx⟩ : ∃ x, x = l[k] := ⟨_, rfl⟩
      rw [← hx] at C0 C1 C2 c0 c1 c2
      have HX := Lib.hid hx
      have IV0 := fun w => isVote_any x w
      have hv0 : voteB x = voteB x := rfl
      obtain ⟨V, hV⟩ : ∃ V, V = voteB x := ⟨_, rfl⟩
      rw [← hV] at IV0
      have HV := Lib.hid (show voteB l[k] = V by rw [hV, hx])
      clear hv0 hV hx
      obtain ⟨a, b, c⟩ := x
      unfold vtV at IV0
      simp only at C0 C1 C2 c0 c1 c2 IV0
      have IV := Lib.hid IV0
      clear IV0
      obtain ⟨W8, hW8⟩ : ∃ W8, W8 = wr.alloc (.cells #[.int .i64 a, .int .i64 b, .int .i64 c] 26) := ⟨_, rfl⟩
      have q1 : (W8.drew).heap[wr.heap.size]? = some (.cells #[.int .i64 a, .int .i64 b, .int .i64 c] 26 (0, 0)) := by rw [hW8]; exact heap_alloc_new _ _
      have BL : Below w.heap.size w W8.drew := by rw [hW8]; exact (bel.alloc bel.size _).drew
      cases V with
      | false =>
        have RES := Lib.hid (show R = false by rw [HR.out]; exact all_no hlt (step_vote hlt HV.out))
        go_wp2_with fail
        rw [← hW8]
        clear hW8
        refine g_start (by kernel_rfl) ?_
        refine g_take (i := 0) (d := (some 12)) (v := ?_) rfl rfl (by kernel_rfl) (fun _ _ _ h => h) (by rfl) (fun w' hb' => ?_) ?_
        rotate_left
        · obtain ⟨d0, d1, d2, df⟩ := block_cells3 ((hb'.block _ (lt_of_block q1)).trans q1); (try go_simp); (try with_reducible rfl)
        try simp only [Act.put, List.setIfInBounds_toArray, List.set_cons_zero, List.set_cons_succ]
        refine g_run (i := 1) rfl (by kernel_rfl) (by rfl) (fun K hK => ?_)
        go_simp; refine (IV.out _).mono ?_; rintro e w2 ⟨rfl, g⟩; have BL2 := chain BL g; have q2 := (g.block _ (lt_of_block q1)).trans q1; refine hK _ _ ⟨g, ?_⟩; clear hK K g
        try simp only [Act.put, List.setIfInBounds_toArray, List.set_cons_zero, List.set_cons_succ]
        refine g_take (i := 2) (d := (some 14)) (v := ?_) rfl rfl (by kernel_rfl) (fun _ _ _ h => h) (by rfl) (fun w' hb' => ?_) ?_
        rotate_left
        · (try go_simp); (try with_reducible rfl)
        try simp only [Act.put, List.setIfInBounds_toArray, List.set_cons_zero, List.set_cons_succ]
        refine g_take (i := 3) (d := (some 15)) (v := ?_) rfl rfl (by kernel_rfl) (fun _ _ _ h => h) (by rfl) (fun w' hb' => ?_) ?_
        rotate_left
        · (try go_simp); (try with_reducible rfl)
        try simp only [Act.put, List.setIfInBounds_toArray, List.set_cons_zero, List.set_cons_succ]
        refine g_skip (i := 4) (d := (some 16)) rfl rfl (by kernel_rfl) (fun _ _ _ h => h) (by rfl) ?_
        try simp only [Act.put, List.setIfInBounds_toArray, List.set_cons_zero, List.set_cons_succ]
        refine g_skip (i := 5) (d := (some 17)) rfl rfl (by kernel_rfl) (fun _ _ _ h => h) (by rfl) ?_
        try simp only [Act.put, List.setIfInBounds_toArray, List.set_cons_zero, List.set_cons_succ]
        refine g_skip (i := 6) (d := (some 18)) rfl rfl (by kernel_rfl) (fun _ _ _ h => h) (by rfl) ?_
        try simp only [Act.put, List.setIfInBounds_toArray, List.set_cons_zero, List.set_cons_succ]
        refine g_skip (i := 7) (d := (some 19)) rfl rfl (by kernel_rfl) (fun _ _ _ h => h) (by rfl) ?_
        try simp only [Act.put, List.setIfInBounds_toArray, List.set_cons_zero, List.set_cons_succ]
        refine g_skip (i := 8) (d := (some 20)) rfl rfl (by kernel_rfl) (fun _ _ _ h => h) (by rfl) ?_
        try simp only [Act.put, List.setIfInBounds_toArray, List.set_cons_zero, List.set_cons_succ]
        refine g_skip (i := 9) (d := (some 21)) rfl rfl (by kernel_rfl) (fun _ _ _ h => h) (by rfl) ?_
        try simp only [Act.put, List.setIfInBounds_toArray, List.set_cons_zero, List.set_cons_succ]
        refine g_skip (i := 10) (d := (some 22)) rfl rfl (by kernel_rfl) (fun _ _ _ h => h) (by rfl) ?_
        try simp only [Act.put, List.setIfInBounds_toArray, List.set_cons_zero, List.set_cons_succ]
        refine g_skip (i := 11) (d := (some 23)) rfl rfl (by kernel_rfl) (fun _ _ _ h => h) (by rfl) ?_
        try simp only [Act.put, List.setIfInBounds_toArray, List.set_cons_zero, List.set_cons_succ]
        refine g_skip (i := 12) (d := (some 24)) rfl rfl (by kernel_rfl) (fun _ _ _ h => h) (by rfl) ?_
        try simp only [Act.put, List.setIfInBounds_toArray, List.set_cons_zero, List.set_cons_succ]
        refine g_skip (i := 13) (d := (some 25)) rfl rfl (by kernel_rfl) (fun _ _ _ h => h) (by rfl) ?_
        try simp only [Act.put, List.setIfInBounds_toArray, List.set_cons_zero, List.set_cons_succ]
        refine g_skip (i := 14) (d := (some 26)) rfl rfl (by kernel_rfl) (fun _ _ _ h => h) (by rfl) ?_
        try simp only [Act.put, List.setIfInBounds_toArray, List.set_cons_zero, List.set_cons_succ]
        refine g_skip (i := 15) (d := (some 27)) rfl rfl (by kernel_rfl) (fun _ _ _ h => h) (by rfl) ?_
        try simp only [Act.put, List.setIfInBounds_toArray, List.set_cons_zero, List.set_cons_succ]
        refine g_skip (i := 16) (d := (some 28)) rfl rfl (by kernel_rfl) (fun _ _ _ h => h) (by rfl) ?_
        try simp only [Act.put, List.setIfInBounds_toArray, List.set_cons_zero, List.set_cons_succ]
        refine g_take (i := 17) (d := (some 29)) (v := ?_) rfl rfl (by kernel_rfl) (fun _ _ _ h => h) (by rfl) (fun w' hb' => ?_) ?_
        rotate_left
        · (try go_simp); (try with_reducible rfl)
        try simp only [Act.put, List.setIfInBounds_toArray, List.set_cons_zero, List.set_cons_succ]
        refine g_done (by kernel_rfl) ?_
        go_wp2_with fail
        skip
        go_ret
        exact ⟨ret_b RES.out.symm, BL2⟩

      | true =>
        by_cases hk0 : k = 0
        · have ALL := Lib.hid (show (List.range (k + 1)).all (stepV l) = true by
            refine all_up HA.out ?_
            subst hk0
            exact step_first hlt HV.out)
          have F3 := Lib.hid (show decide (0 < (k : Int)) = false by simp; omega)
          have F3N := Lib.hid (show decide (0 < k) = false by simp; omega)
          clear hk0
          go_wp2_with fail
          rw [← hW8]
          clear hW8
          refine g_start (by kernel_rfl) ?_
          refine g_take (i := 0) (d := (some 12)) (v := ?_) rfl rfl (by kernel_rfl) (fun _ _ _ h => h) (by rfl) (fun w' hb' => ?_) ?_
          rotate_left
          · obtain ⟨d0, d1, d2, df⟩ := block_cells3 ((hb'.block _ (lt_of_block q1)).trans q1); (try go_simp); (try with_reducible rfl)
          try simp only [Act.put, List.setIfInBounds_toArray, List.set_cons_zero, List.set_cons_succ]
          refine g_run (i := 1) rfl (by kernel_rfl) (by rfl) (fun K hK => ?_)
          go_simp; refine (IV.out _).mono ?_; rintro e w2 ⟨rfl, g⟩; have BL2 := chain BL g; have q2 := (g.block _ (lt_of_block q1)).trans q1; refine hK _ _ ⟨g, ?_⟩; clear hK K g
          try simp only [Act.put, List.setIfInBounds_toArray, List.set_cons_zero, List.set_cons_succ]
          refine g_take (i := 2) (d := (some 14)) (v := ?_) rfl rfl (by kernel_rfl) (fun _ _ _ h => h) (by rfl) (fun w' hb' => ?_) ?_
          rotate_left
          · (try go_simp); (try with_reducible rfl)
          try simp only [Act.put, List.setIfInBounds_toArray, List.set_cons_zero, List.set_cons_succ]
          refine g_take (i := 3) (d := (some 15)) (v := ?_) rfl rfl (by kernel_rfl) (fun _ _ _ h => h) (by rfl) (fun w' hb' => ?_) ?_
          rotate_left
          · (try go_simp); (try with_reducible rfl)
          try simp only [Act.put, List.setIfInBounds_toArray, List.set_cons_zero, List.set_cons_succ]
          refine g_take (i := 4) (d := (some 16)) (v := ?_) rfl rfl (by kernel_rfl) (fun _ _ _ h => h) (by rfl) (fun w' hb' => ?_) ?_
          rotate_left
          · (try go_simp); (try with_reducible rfl)
          try simp only [Act.put, List.setIfInBounds_toArray, List.set_cons_zero, List.set_cons_succ]
          refine g_take (i := 5) (d := (some 17)) (v := ?_) rfl rfl (by kernel_rfl) (fun _ _ _ h => h) (by rfl) (fun w' hb' => ?_) ?_
          rotate_left
          · have f3 := F3.out; have f3n := F3N.out; (try go_simp); (try with_reducible rfl)
          try simp only [Act.put, List.setIfInBounds_toArray, List.set_cons_zero, List.set_cons_succ]
          refine g_take (i := 6) (d := (some 18)) (v := ?_) rfl rfl (by kernel_rfl) (fun _ _ _ h => h) (by rfl) (fun w' hb' => ?_) ?_
          rotate_left
          · (try go_simp); (try with_reducible rfl)
          try simp only [Act.put, List.setIfInBounds_toArray, List.set_cons_zero, List.set_cons_succ]
          refine g_skip (i := 7) (d := (some 19)) rfl rfl (by kernel_rfl) (fun _ _ _ h => h) (by rfl) ?_
          try simp only [Act.put, List.setIfInBounds_toArray, List.set_cons_zero, List.set_cons_succ]
          refine g_skip (i := 8) (d := (some 20)) rfl rfl (by kernel_rfl) (fun _ _ _ h => h) (by rfl) ?_
          try simp only [Act.put, List.setIfInBounds_toArray, List.set_cons_zero, List.set_cons_succ]
          refine g_skip (i := 9) (d := (some 21)) rfl rfl (by kernel_rfl) (fun _ _ _ h => h) (by rfl) ?_
          try simp only [Act.put, List.setIfInBounds_toArray, List.set_cons_zero, List.set_cons_succ]
          refine g_skip (i := 10) (d := (some 22)) rfl rfl (by kernel_rfl) (fun _ _ _ h => h) (by rfl) ?_
          try simp only [Act.put, List.setIfInBounds_toArray, List.set_cons_zero, List.set_cons_succ]
          refine g_skip (i := 11) (d := (some 23)) rfl rfl (by kernel_rfl) (fun _ _ _ h => h) (by rfl) ?_
          try simp only [Act.put, List.setIfInBounds_toArray, List.set_cons_zero, List.set_cons_succ]
          refine g_skip (i := 12) (d := (some 24)) rfl rfl (by kernel_rfl) (fun _ _ _ h => h) (by rfl) ?_
          try simp only [Act.put, List.setIfInBounds_toArray, List.set_cons_zero, List.set_cons_succ]
          refine g_skip (i := 13) (d := (some 25)) rfl rfl (by kernel_rfl) (fun _ _ _ h => h) (by rfl) ?_
          try simp only [Act.put, List.setIfInBounds_toArray, List.set_cons_zero, List.set_cons_succ]
          refine g_skip (i := 14) (d := (some 26)) rfl rfl (by kernel_rfl) (fun _ _ _ h => h) (by rfl) ?_
          try simp only [Act.put, List.setIfInBounds_toArray, List.set_cons_zero, List.set_cons_succ]
          refine g_skip (i := 15) (d := (some 27)) rfl rfl (by kernel_rfl) (fun _ _ _ h => h) (by rfl) ?_
          try simp only [Act.put, List.setIfInBounds_toArray, List.set_cons_zero, List.set_cons_succ]
          refine g_take (i := 16) (d := (some 28)) (v := ?_) rfl rfl (by kernel_rfl) (fun _ _ _ h => h) (by rfl) (fun w' hb' => ?_) ?_
          rotate_left
          · (try go_simp); (try with_reducible rfl)
          try simp only [Act.put, List.setIfInBounds_toArray, List.set_cons_zero, List.set_cons_succ]
          refine g_take (i := 17) (d := (some 29)) (v := ?_) rfl rfl (by kernel_rfl) (fun _ _ _ h => h) (by rfl) (fun w' hb' => ?_) ?_
          rotate_left
          · (try go_simp); (try with_reducible rfl)
          try simp only [Act.put, List.setIfInBounds_toArray, List.set_cons_zero, List.set_cons_succ]
          refine g_done (by kernel_rfl) ?_
          go_wp2_with fail
          exact ⟨⟨k + 1, by omega, by push_cast; rfl, ALL, BL2⟩, by simp [intOf]; omega⟩

        · obtain ⟨j, hj⟩ : ∃ j, k = j + 1 := ⟨k - 1, by omega⟩
          have hjl : j < l.length := by omega
          obtain ⟨b', o', hbo, -, P0, -⟩ := rdt_cells HRD.out j hjl
          cases hbo
          obtain ⟨y, hy⟩ : ∃ y, y = (l[j]'hjl).fr := ⟨_, rfl⟩
          rw [← hy] at P0
          have F1 := Lib.hid (show IntKind.i64.wrap (j : Int) = (j : Int) by rw [IntKind.wrap_i64]; omega)
          have F2 := Lib.hid (show (k : Int) - 1 = (j : Int) by omega)
          have F3 := Lib.hid (show decide (0 < (k : Int)) = true by simp; omega)
          have F3N := Lib.hid (show decide (0 < k) = true by simp; omega)
          have F4 := Lib.hid (show (j : Int) < l.length by omega)
          have ST := Lib.hid (show stepV l k = decide (y < a) by
            subst hj
            rw [step_next hlt HV.out, ← hy, ← HX.out])
          clear hj hy hk0
          by_cases ho : y < a
          · have ALL := Lib.hid (show (List.range (k + 1)).all (stepV l) = true from all_up HA.out (by rw [ST.out]; simpa using ho))
            have F5 := Lib.hid (show decide (a ≤ y) = false by simp; omega)
            clear ho
            go_wp2_with fail
            rw [← hW8]
            clear hW8
            refine g_start (by kernel_rfl) ?_
            refine g_take (i := 0) (d := (some 12)) (v := ?_) rfl rfl (by kernel_rfl) (fun _ _ _ h => h) (by rfl) (fun w' hb' => ?_) ?_
            rotate_left
            · obtain ⟨d0, d1, d2, df⟩ := block_cells3 ((hb'.block _ (lt_of_block q1)).trans q1); (try go_simp); (try with_reducible rfl)
            try simp only [Act.put, List.setIfInBounds_toArray, List.set_cons_zero, List.set_cons_succ]
            refine g_run (i := 1) rfl (by kernel_rfl) (by rfl) (fun K hK => ?_)
            go_simp; refine (IV.out _).mono ?_; rintro e w2 ⟨rfl, g⟩; have BL2 := chain BL g; have q2 := (g.block _ (lt_of_block q1)).trans q1; refine hK _ _ ⟨g, ?_⟩; clear hK K g
            try simp only [Act.put, List.setIfInBounds_toArray, List.set_cons_zero, List.set_cons_succ]
            refine g_take (i := 2) (d := (some 14)) (v := ?_) rfl rfl (by kernel_rfl) (fun _ _ _ h => h) (by rfl) (fun w' hb' => ?_) ?_
            rotate_left
            · (try go_simp); (try with_reducible rfl)
            try simp only [Act.put, List.setIfInBounds_toArray, List.set_cons_zero, List.set_cons_succ]
            refine g_take (i := 3) (d := (some 15)) (v := ?_) rfl rfl (by kernel_rfl) (fun _ _ _ h => h) (by rfl) (fun w' hb' => ?_) ?_
            rotate_left
            · (try go_simp); (try with_reducible rfl)
            try simp only [Act.put, List.setIfInBounds_toArray, List.set_cons_zero, List.set_cons_succ]
            refine g_take (i := 4) (d := (some 16)) (v := ?_) rfl rfl (by kernel_rfl) (fun _ _ _ h => h) (by rfl) (fun w' hb' => ?_) ?_
            rotate_left
            · (try go_simp); (try with_reducible rfl)
            try simp only [Act.put, List.setIfInBounds_toArray, List.set_cons_zero, List.set_cons_succ]
            refine g_take (i := 5) (d := (some 17)) (v := ?_) rfl rfl (by kernel_rfl) (fun _ _ _ h => h) (by rfl) (fun w' hb' => ?_) ?_
            rotate_left
            · have f3 := F3.out; have f3n := F3N.out; (try go_simp); (try with_reducible rfl)
            try simp only [Act.put, List.setIfInBounds_toArray, List.set_cons_zero, List.set_cons_succ]
            refine g_take (i := 6) (d := (some 18)) (v := ?_) rfl rfl (by kernel_rfl) (fun _ _ _ h => h) (by rfl) (fun w' hb' => ?_) ?_
            rotate_left
            · (try go_simp); (try with_reducible rfl)
            try simp only [Act.put, List.setIfInBounds_toArray, List.set_cons_zero, List.set_cons_succ]
            refine g_take (i := 7) (d := (some 19)) (v := ?_) rfl rfl (by kernel_rfl) (fun _ _ _ h => h) (by rfl) (fun w' hb' => ?_) ?_
            rotate_left
            · (try go_simp); (try with_reducible rfl)
            try simp only [Act.put, List.setIfInBounds_toArray, List.set_cons_zero, List.set_cons_succ]
            refine g_take (i := 8) (d := (some 20)) (v := ?_) rfl rfl (by kernel_rfl) (fun _ _ _ h => h) (by rfl) (fun w' hb' => ?_) ?_
            rotate_left
            · obtain ⟨d0, d1, d2, df⟩ := block_cells3 ((hb'.block _ (lt_of_block q2)).trans q2); (try go_simp); (try with_reducible rfl)
            try simp only [Act.put, List.setIfInBounds_toArray, List.set_cons_zero, List.set_cons_succ]
            refine g_take (i := 9) (d := (some 21)) (v := ?_) rfl rfl (by kernel_rfl) (fun _ _ _ h => h) (by rfl) (fun w' hb' => ?_) ?_
            rotate_left
            · (try go_simp); (try with_reducible rfl)
            try simp only [Act.put, List.setIfInBounds_toArray, List.set_cons_zero, List.set_cons_succ]
            refine g_take (i := 10) (d := (some 22)) (v := ?_) rfl rfl (by kernel_rfl) (fun _ _ _ h => h) (by rfl) (fun w' hb' => ?_) ?_
            rotate_left
            · (try go_simp); (try with_reducible rfl)
            try simp only [Act.put, List.setIfInBounds_toArray, List.set_cons_zero, List.set_cons_succ]
            refine g_take (i := 11) (d := (some 23)) (v := ?_) rfl rfl (by kernel_rfl) (fun _ _ _ h => h) (by rfl) (fun w' hb' => ?_) ?_
            rotate_left
            · have f1 := F1.out; have f2 := F2.out; (try go_simp); (try with_reducible rfl)
            try simp only [Act.put, List.setIfInBounds_toArray, List.set_cons_zero, List.set_cons_succ]
            refine g_take (i := 12) (d := (some 24)) (v := ?_) rfl rfl (by kernel_rfl) (fun _ _ _ h => h) (by rfl) (fun w' hb' => ?_) ?_
            rotate_left
            · have f4 := F4.out; (try go_simp); (try with_reducible rfl)
            try simp only [Act.put, List.setIfInBounds_toArray, List.set_cons_zero, List.set_cons_succ]
            refine g_take (i := 13) (d := (some 25)) (v := ?_) rfl rfl (by kernel_rfl) (fun _ _ _ h => h) (by rfl) (fun w' hb' => ?_) ?_
            rotate_left
            · (try go_simp); (try with_reducible rfl)
            try simp only [Act.put, List.setIfInBounds_toArray, List.set_cons_zero, List.set_cons_succ]
            refine g_take (i := 14) (d := (some 26)) (v := ?_) rfl rfl (by kernel_rfl) (fun _ _ _ h => h) (by rfl) (fun w' hb' => ?_) ?_
            rotate_left
            · have p0 := ((chain BL2 hb').cell (p := ⟨pb, po + j * 3, none⟩) hpb).trans P0; (try go_simp); (try with_reducible rfl)
            try simp only [Act.put, List.setIfInBounds_toArray, List.set_cons_zero, List.set_cons_succ]
            refine g_take (i := 15) (d := (some 27)) (v := ?_) rfl rfl (by kernel_rfl) (fun _ _ _ h => h) (by rfl) (fun w' hb' => ?_) ?_
            rotate_left
            · have f5 := F5.out; (try go_simp); (try with_reducible rfl)
            try simp only [Act.put, List.setIfInBounds_toArray, List.set_cons_zero, List.set_cons_succ]
            refine g_take (i := 16) (d := (some 28)) (v := ?_) rfl rfl (by kernel_rfl) (fun _ _ _ h => h) (by rfl) (fun w' hb' => ?_) ?_
            rotate_left
            · (try go_simp); (try with_reducible rfl)
            try simp only [Act.put, List.setIfInBounds_toArray, List.set_cons_zero, List.set_cons_succ]
            refine g_take (i := 17) (d := (some 29)) (v := ?_) rfl rfl (by kernel_rfl) (fun _ _ _ h => h) (by rfl) (fun w' hb' => ?_) ?_
            rotate_left
            · (try go_simp); (try with_reducible rfl)
            try simp only [Act.put, List.setIfInBounds_toArray, List.set_cons_zero, List.set_cons_succ]
            refine g_done (by kernel_rfl) ?_
            go_wp2_with fail
            exact ⟨⟨k + 1, by omega, by push_cast; rfl, ALL, BL2⟩, by simp [intOf]; omega⟩

          · have RES := Lib.hid (show R = false by rw [HR.out]; exact all_no hlt (by rw [ST.out]; simpa using ho))
            have F5 := Lib.hid (show decide (a ≤ y) = true by simp; omega)
            clear ho
            go_wp2_with fail
            rw [← hW8]
            clear hW8
            refine g_start (by kernel_rfl) ?_
            refine g_take (i := 0) (d := (some 12)) (v := ?_) rfl rfl (by kernel_rfl) (fun _ _ _ h => h) (by rfl) (fun w' hb' => ?_) ?_
            rotate_left
            · obtain ⟨d0, d1, d2, df⟩ := block_cells3 ((hb'.block _ (lt_of_block q1)).trans q1); (try go_simp); (try with_reducible rfl)
            try simp only [Act.put, List.setIfInBounds_toArray, List.set_cons_zero, List.set_cons_succ]
            refine g_run (i := 1) rfl (by kernel_rfl) (by rfl) (fun K hK => ?_)
            go_simp; refine (IV.out _).mono ?_; rintro e w2 ⟨rfl, g⟩; have BL2 := chain BL g; have q2 := (g.block _ (lt_of_block q1)).trans q1; refine hK _ _ ⟨g, ?_⟩; clear hK K g
            try simp only [Act.put, List.setIfInBounds_toArray, List.set_cons_zero, List.set_cons_succ]
            refine g_take (i := 2) (d := (some 14)) (v := ?_) rfl rfl (by kernel_rfl) (fun _ _ _ h => h) (by rfl) (fun w' hb' => ?_) ?_
            rotate_left
            · (try go_simp); (try with_reducible rfl)
            try simp only [Act.put, List.setIfInBounds_toArray, List.set_cons_zero, List.set_cons_succ]
            refine g_take (i := 3) (d := (some 15)) (v := ?_) rfl rfl (by kernel_rfl) (fun _ _ _ h => h) (by rfl) (fun w' hb' => ?_) ?_
            rotate_left
            · (try go_simp); (try with_reducible rfl)
            try simp only [Act.put, List.setIfInBounds_toArray, List.set_cons_zero, List.set_cons_succ]
            refine g_take (i := 4) (d := (some 16)) (v := ?_) rfl rfl (by kernel_rfl) (fun _ _ _ h => h) (by rfl) (fun w' hb' => ?_) ?_
            rotate_left
            · (try go_simp); (try with_reducible rfl)
            try simp only [Act.put, List.setIfInBounds_toArray, List.set_cons_zero, List.set_cons_succ]
            refine g_take (i := 5) (d := (some 17)) (v := ?_) rfl rfl (by kernel_rfl) (fun _ _ _ h => h) (by rfl) (fun w' hb' => ?_) ?_
            rotate_left
            · have f3 := F3.out; have f3n := F3N.out; (try go_simp); (try with_reducible rfl)
            try simp only [Act.put, List.setIfInBounds_toArray, List.set_cons_zero, List.set_cons_succ]
            refine g_take (i := 6) (d := (some 18)) (v := ?_) rfl rfl (by kernel_rfl) (fun _ _ _ h => h) (by rfl) (fun w' hb' => ?_) ?_
            rotate_left
            · (try go_simp); (try with_reducible rfl)
            try simp only [Act.put, List.setIfInBounds_toArray, List.set_cons_zero, List.set_cons_succ]
            refine g_take (i := 7) (d := (some 19)) (v := ?_) rfl rfl (by kernel_rfl) (fun _ _ _ h => h) (by rfl) (fun w' hb' => ?_) ?_
            rotate_left
            · (try go_simp); (try with_reducible rfl)
            try simp only [Act.put, List.setIfInBounds_toArray, List.set_cons_zero, List.set_cons_succ]
            refine g_take (i := 8) (d := (some 20)) (v := ?_) rfl rfl (by kernel_rfl) (fun _ _ _ h => h) (by rfl) (fun w' hb' => ?_) ?_
            rotate_left
            · obtain ⟨d0, d1, d2, df⟩ := block_cells3 ((hb'.block _ (lt_of_block q2)).trans q2); (try go_simp); (try with_reducible rfl)
            try simp only [Act.put, List.setIfInBounds_toArray, List.set_cons_zero, List.set_cons_succ]
            refine g_take (i := 9) (d := (some 21)) (v := ?_) rfl rfl (by kernel_rfl) (fun _ _ _ h => h) (by rfl) (fun w' hb' => ?_) ?_
            rotate_left
            · (try go_simp); (try with_reducible rfl)
            try simp only [Act.put, List.setIfInBounds_toArray, List.set_cons_zero, List.set_cons_succ]
            refine g_take (i := 10) (d := (some 22)) (v := ?_) rfl rfl (by kernel_rfl) (fun _ _ _ h => h) (by rfl) (fun w' hb' => ?_) ?_
            rotate_left
            · (try go_simp); (try with_reducible rfl)
            try simp only [Act.put, List.setIfInBounds_toArray, List.set_cons_zero, List.set_cons_succ]
            refine g_take (i := 11) (d := (some 23)) (v := ?_) rfl rfl (by kernel_rfl) (fun _ _ _ h => h) (by rfl) (fun w' hb' => ?_) ?_
            rotate_left
            · have f1 := F1.out; have f2 := F2.out; (try go_simp); (try with_reducible rfl)
            try simp only [Act.put, List.setIfInBounds_toArray, List.set_cons_zero, List.set_cons_succ]
            refine g_take (i := 12) (d := (some 24)) (v := ?_) rfl rfl (by kernel_rfl) (fun _ _ _ h => h) (by rfl) (fun w' hb' => ?_) ?_
            rotate_left
            · have f4 := F4.out; (try go_simp); (try with_reducible rfl)
            try simp only [Act.put, List.setIfInBounds_toArray, List.set_cons_zero, List.set_cons_succ]
            refine g_take (i := 13) (d := (some 25)) (v := ?_) rfl rfl (by kernel_rfl) (fun _ _ _ h => h) (by rfl) (fun w' hb' => ?_) ?_
            rotate_left
            · (try go_simp); (try with_reducible rfl)
            try simp only [Act.put, List.setIfInBounds_toArray, List.set_cons_zero, List.set_cons_succ]
            refine g_take (i := 14) (d := (some 26)) (v := ?_) rfl rfl (by kernel_rfl) (fun _ _ _ h => h) (by rfl) (fun w' hb' => ?_) ?_
            rotate_left
            · have p0 := ((chain BL2 hb').cell (p := ⟨pb, po + j * 3, none⟩) hpb).trans P0; (try go_simp); (try with_reducible rfl)
            try simp only [Act.put, List.setIfInBounds_toArray, List.set_cons_zero, List.set_cons_succ]
            refine g_take (i := 15) (d := (some 27)) (v := ?_) rfl rfl (by kernel_rfl) (fun _ _ _ h => h) (by rfl) (fun w' hb' => ?_) ?_
            rotate_left
            · have f5 := F5.out; (try go_simp); (try with_reducible rfl)
            try simp only [Act.put, List.setIfInBounds_toArray, List.set_cons_zero, List.set_cons_succ]
            refine g_take (i := 16) (d := (some 28)) (v := ?_) rfl rfl (by kernel_rfl) (fun _ _ _ h => h) (by rfl) (fun w' hb' => ?_) ?_
            rotate_left
            · (try go_simp); (try with_reducible rfl)
            try simp only [Act.put, List.setIfInBounds_toArray, List.set_cons_zero, List.set_cons_succ]
            refine g_take (i := 17) (d := (some 29)) (v := ?_) rfl rfl (by kernel_rfl) (fun _ _ _ h => h) (by rfl) (fun w' hb' => ?_) ?_
            rotate_left
            · (try go_simp); (try with_reducible rfl)
            try simp only [Act.put, List.setIfInBounds_toArray, List.set_cons_zero, List.set_cons_succ]
            refine g_done (by kernel_rfl) ?_
            go_wp2_with fail
            skip
            go_ret
            exact ⟨ret_b RES.out.symm, BL2⟩

    · obtain rfl : k = l.length := by omega
      have RES := Lib.hid (show R = true by rw [HR.out]; exact HA.out)
      go_wp2_with fail
      go_ret
      exact ⟨ret_b RES.out.symm, bel⟩
set_option maxHeartbeats 1000000 in
theorem refVotes_any (v : Value) (l : List Vt) (w : World) (h : RdT w v l) : Calls Tryd.prog 33 #[v] w fun e w' => e = .returned (.bool (areB l)) ∧ Below w.heap.size w w' := by
  obtain ⟨ao, cap, rfl, hc, hm, hr⟩ := RdK.open h
  have hr : RdT w (.slice ao l.length cap) l := hr
  have HRD := Lib.hid hr
  obtain ⟨R, hR⟩ : ∃ R, R = areB l := ⟨_, rfl⟩
  rw [← hR]
  have HR := Lib.hid hR
  clear h hr hR
  go_enter Tryd.func33, Tryd.ntmps33
  go_wp2_with fail
  go_loopw [3] (fun i wr => ∃ k : Nat, k ≤ l.length ∧ i = .int .i64 (k : Int) ∧ Hid ((List.range k).all (stepV l) = true) ∧ Below w.heap.size w wr) (fun i _ => l.length - (intOf i).toNat)
  case atStart => exact ⟨0, Nat.zero_le _, rfl, Lib.hid rfl, Below.refl _ _⟩
  case round =>
    obtain ⟨k, hk, rfl, HA, bel⟩ := hrel
    by_cases hlt : k < l.length
    · obtain ⟨pb, po, rfl, hpb, C0, C1, C2⟩ := rdt_cells HRD.out k hlt
      have c0 := (bel.cell (p := ⟨pb, po + k * 3, none⟩) hpb).trans C0
      have c1 := (bel.cell (p := ⟨pb, po + k * 3 + 1, none⟩) hpb).trans C1
      have c2 := (bel.cell (p := ⟨pb, po + k * 3 + 2, none⟩) hpb).trans C2
      obtain ⟨x, hx⟩ : ∃ x, x = l[k] := ⟨_, rfl⟩
      rw [← hx] at C0 C1 C2 c0 c1 c2
      have HX := Lib.hid hx
      have IV0 := fun w => refVote_any x w
      have hv0 : voteB x = voteB x := rfl
      obtain ⟨V, hV⟩ : ∃ V, V = voteB x := ⟨_, rfl⟩
      rw [← hV] at IV0
      have HV := Lib.hid (show voteB l[k] = V by rw [hV, hx])
      clear hv0 hV hx
      obtain ⟨a, b, c⟩ := x
      unfold vtV at IV0
      simp only at C0 C1 C2 c0 c1 c2 IV0
      have IV := Lib.hid IV0
      clear IV0
      have BL := bel.drew
      cases V with
      | false =>
        have RES := Lib.hid (show R = false by rw [HR.out]; exact all_no hlt (step_vote hlt HV.out))
        go_wp2_with fail

        refine g_start (by kernel_rfl) ?_
        refine g_take (i := 0) (d := (some 10)) (v := ?_) rfl rfl (by kernel_rfl) (fun _ _ _ h => h) (by rfl) (fun w' hb' => ?_) ?_
        rotate_left
        · (try go_simp); (try with_reducible rfl)
        try simp only [Act.put, List.setIfInBounds_toArray, List.set_cons_zero, List.set_cons_succ]
        refine g_take (i := 1) (d := (some 11)) (v := ?_) rfl rfl (by kernel_rfl) (fun _ _ _ h => h) (by rfl) (fun w' hb' => ?_) ?_
        rotate_left
        · (try go_simp); (try with_reducible rfl)
        try simp only [Act.put, List.setIfInBounds_toArray, List.set_cons_zero, List.set_cons_succ]
        refine g_take (i := 2) (d := (some 12)) (v := ?_) rfl rfl (by kernel_rfl) (fun _ _ _ h => h) (by rfl) (fun w' hb' => ?_) ?_
        rotate_left
        · (try go_simp); (try with_reducible rfl)
        try simp only [Act.put, List.setIfInBounds_toArray, List.set_cons_zero, List.set_cons_succ]
        refine g_take (i := 3) (d := (some 13)) (v := ?_) rfl rfl (by kernel_rfl) (fun _ _ _ h => h) (by rfl) (fun w' hb' => ?_) ?_
        rotate_left
        · have e0 := ((chain BL hb').cell (p := ⟨pb, po + k * 3, none⟩) hpb).trans C0; have e1 := ((chain BL hb').cell (p := ⟨pb, po + k * 3 + 1, none⟩) hpb).trans C1; have e2 := ((chain BL hb').cell (p := ⟨pb, po + k * 3 + 2, none⟩) hpb).trans C2; (try go_simp); (try with_reducible rfl)
        try simp only [Act.put, List.setIfInBounds_toArray, List.set_cons_zero, List.set_cons_succ]
        refine g_run (i := 4) rfl (by kernel_rfl) (by rfl) (fun K hK => ?_)
        go_simp; refine (IV.out _).mono ?_; rintro e w2 ⟨rfl, g⟩; have BL2 := chain BL g; refine hK _ _ ⟨g, ?_⟩; clear hK K g
        try simp only [Act.put, List.setIfInBounds_toArray, List.set_cons_zero, List.set_cons_succ]
        refine g_take (i := 5) (d := (some 15)) (v := ?_) rfl rfl (by kernel_rfl) (fun _ _ _ h => h) (by rfl) (fun w' hb' => ?_) ?_
        rotate_left
        · (try go_simp); (try with_reducible rfl)
        try simp only [Act.put, List.setIfInBounds_toArray, List.set_cons_zero, List.set_cons_succ]
        refine g_take (i := 6) (d := (some 16)) (v := ?_) rfl rfl (by kernel_rfl) (fun _ _ _ h => h) (by rfl) (fun w' hb' => ?_) ?_
        rotate_left
        · (try go_simp); (try with_reducible rfl)
        try simp only [Act.put, List.setIfInBounds_toArray, List.set_cons_zero, List.set_cons_succ]
        refine g_skip (i := 7) (d := (some 17)) rfl rfl (by kernel_rfl) (fun _ _ _ h => h) (by rfl) ?_
        try simp only [Act.put, List.setIfInBounds_toArray, List.set_cons_zero, List.set_cons_succ]
        refine g_skip (i := 8) (d := (some 18)) rfl rfl (by kernel_rfl) (fun _ _ _ h => h) (by rfl) ?_
        try simp only [Act.put, List.setIfInBounds_toArray, List.set_cons_zero, List.set_cons_succ]
        refine g_skip (i := 9) (d := (some 19)) rfl rfl (by kernel_rfl) (fun _ _ _ h => h) (by rfl) ?_
        try simp only [Act.put, List.setIfInBounds_toArray, List.set_cons_zero, List.set_cons_succ]
        refine g_skip (i := 10) (d := (some 20)) rfl rfl (by kernel_rfl) (fun _ _ _ h => h) (by rfl) ?_
        try simp only [Act.put, List.setIfInBounds_toArray, List.set_cons_zero, List.set_cons_succ]
        refine g_skip (i := 11) (d := (some 21)) rfl rfl (by kernel_rfl) (fun _ _ _ h => h) (by rfl) ?_
        try simp only [Act.put, List.setIfInBounds_toArray, List.set_cons_zero, List.set_cons_succ]
        refine g_skip (i := 12) (d := (some 22)) rfl rfl (by kernel_rfl) (fun _ _ _ h => h) (by rfl) ?_
        try simp only [Act.put, List.setIfInBounds_toArray, List.set_cons_zero, List.set_cons_succ]
        refine g_skip (i := 13) (d := (some 23)) rfl rfl (by kernel_rfl) (fun _ _ _ h => h) (by rfl) ?_
        try simp only [Act.put, List.setIfInBounds_toArray, List.set_cons_zero, List.set_cons_succ]
        refine g_skip (i := 14) (d := (some 24)) rfl rfl (by kernel_rfl) (fun _ _ _ h => h) (by rfl) ?_
        try simp only [Act.put, List.setIfInBounds_toArray, List.set_cons_zero, List.set_cons_succ]
        refine g_skip (i := 15) (d := (some 25)) rfl rfl (by kernel_rfl) (fun _ _ _ h => h) (by rfl) ?_
        try simp only [Act.put, List.setIfInBounds_toArray, List.set_cons_zero, List.set_cons_succ]
        refine g_skip (i := 16) (d := (some 26)) rfl rfl (by kernel_rfl) (fun _ _ _ h => h) (by rfl) ?_
        try simp only [Act.put, List.setIfInBounds_toArray, List.set_cons_zero, List.set_cons_succ]
        refine g_skip (i := 17) (d := (some 27)) rfl rfl (by kernel_rfl) (fun _ _ _ h => h) (by rfl) ?_
        try simp only [Act.put, List.setIfInBounds_toArray, List.set_cons_zero, List.set_cons_succ]
        refine g_skip (i := 18) (d := (some 28)) rfl rfl (by kernel_rfl) (fun _ _ _ h => h) (by rfl) ?_
        try simp only [Act.put, List.setIfInBounds_toArray, List.set_cons_zero, List.set_cons_succ]
        refine g_skip (i := 19) (d := (some 29)) rfl rfl (by kernel_rfl) (fun _ _ _ h => h) (by rfl) ?_
        try simp only [Act.put, List.setIfInBounds_toArray, List.set_cons_zero, List.set_cons_succ]
        refine g_skip (i := 20) (d := (some 30)) rfl rfl (by kernel_rfl) (fun _ _ _ h => h) (by rfl) ?_
        try simp only [Act.put, List.setIfInBounds_toArray, List.set_cons_zero, List.set_cons_succ]
        refine g_skip (i := 21) (d := (some 31)) rfl rfl (by kernel_rfl) (fun _ _ _ h => h) (by rfl) ?_
        try simp only [Act.put, List.setIfInBounds_toArray, List.set_cons_zero, List.set_cons_succ]
        refine g_skip (i := 22) (d := (some 32)) rfl rfl (by kernel_rfl) (fun _ _ _ h => h) (by rfl) ?_
        try simp only [Act.put, List.setIfInBounds_toArray, List.set_cons_zero, List.set_cons_succ]
        refine g_take (i := 23) (d := (some 33)) (v := ?_) rfl rfl (by kernel_rfl) (fun _ _ _ h => h) (by rfl) (fun w' hb' => ?_) ?_
        rotate_left
        · (try go_simp); (try with_reducible rfl)
        try simp only [Act.put, List.setIfInBounds_toArray, List.set_cons_zero, List.set_cons_succ]
        refine g_done (by kernel_rfl) ?_
        go_wp2_with fail
        skip
        go_ret
        exact ⟨ret_b RES.out.symm, BL2⟩

      | true =>
        by_cases hk0 : k = 0
        · have ALL := Lib.hid (show (List.range (k + 1)).all (stepV l) = true by
            refine all_up HA.out ?_
            subst hk0
            exact step_first hlt HV.out)
          have F3 := Lib.hid (show decide (0 < (k : Int)) = false by simp; omega)
          have F3N := Lib.hid (show decide (0 < k) = false by simp; omega)
          clear hk0
          go_wp2_with fail

          refine g_start (by kernel_rfl) ?_
          refine g_take (i := 0) (d := (some 10)) (v := ?_) rfl rfl (by kernel_rfl) (fun _ _ _ h => h) (by rfl) (fun w' hb' => ?_) ?_
          rotate_left
          · (try go_simp); (try with_reducible rfl)
          try simp only [Act.put, List.setIfInBounds_toArray, List.set_cons_zero, List.set_cons_succ]
          refine g_take (i := 1) (d := (some 11)) (v := ?_) rfl rfl (by kernel_rfl) (fun _ _ _ h => h) (by rfl) (fun w' hb' => ?_) ?_
          rotate_left
          · (try go_simp); (try with_reducible rfl)
          try simp only [Act.put, List.setIfInBounds_toArray, List.set_cons_zero, List.set_cons_succ]
          refine g_take (i := 2) (d := (some 12)) (v := ?_) rfl rfl (by kernel_rfl) (fun _ _ _ h => h) (by rfl) (fun w' hb' => ?_) ?_
          rotate_left
          · (try go_simp); (try with_reducible rfl)
          try simp only [Act.put, List.setIfInBounds_toArray, List.set_cons_zero, List.set_cons_succ]
          refine g_take (i := 3) (d := (some 13)) (v := ?_) rfl rfl (by kernel_rfl) (fun _ _ _ h => h) (by rfl) (fun w' hb' => ?_) ?_
          rotate_left
          · have e0 := ((chain BL hb').cell (p := ⟨pb, po + k * 3, none⟩) hpb).trans C0; have e1 := ((chain BL hb').cell (p := ⟨pb, po + k * 3 + 1, none⟩) hpb).trans C1; have e2 := ((chain BL hb').cell (p := ⟨pb, po + k * 3 + 2, none⟩) hpb).trans C2; (try go_simp); (try with_reducible rfl)
          try simp only [Act.put, List.setIfInBounds_toArray, List.set_cons_zero, List.set_cons_succ]
          refine g_run (i := 4) rfl (by kernel_rfl) (by rfl) (fun K hK => ?_)
          go_simp; refine (IV.out _).mono ?_; rintro e w2 ⟨rfl, g⟩; have BL2 := chain BL g; refine hK _ _ ⟨g, ?_⟩; clear hK K g
          try simp only [Act.put, List.setIfInBounds_toArray, List.set_cons_zero, List.set_cons_succ]
          refine g_take (i := 5) (d := (some 15)) (v := ?_) rfl rfl (by kernel_rfl) (fun _ _ _ h => h) (by rfl) (fun w' hb' => ?_) ?_
          rotate_left
          · (try go_simp); (try with_reducible rfl)
          try simp only [Act.put, List.setIfInBounds_toArray, List.set_cons_zero, List.set_cons_succ]
          refine g_take (i := 6) (d := (some 16)) (v := ?_) rfl rfl (by kernel_rfl) (fun _ _ _ h => h) (by rfl) (fun w' hb' => ?_) ?_
          rotate_left
          · (try go_simp); (try with_reducible rfl)
          try simp only [Act.put, List.setIfInBounds_toArray, List.set_cons_zero, List.set_cons_succ]
          refine g_take (i := 7) (d := (some 17)) (v := ?_) rfl rfl (by kernel_rfl) (fun _ _ _ h => h) (by rfl) (fun w' hb' => ?_) ?_
          rotate_left
          · (try go_simp); (try with_reducible rfl)
          try simp only [Act.put, List.setIfInBounds_toArray, List.set_cons_zero, List.set_cons_succ]
          refine g_take (i := 8) (d := (some 18)) (v := ?_) rfl rfl (by kernel_rfl) (fun _ _ _ h => h) (by rfl) (fun w' hb' => ?_) ?_
          rotate_left
          · have f3 := F3.out; have f3n := F3N.out; (try go_simp); (try with_reducible rfl)
          try simp only [Act.put, List.setIfInBounds_toArray, List.set_cons_zero, List.set_cons_succ]
          refine g_take (i := 9) (d := (some 19)) (v := ?_) rfl rfl (by kernel_rfl) (fun _ _ _ h => h) (by rfl) (fun w' hb' => ?_) ?_
          rotate_left
          · (try go_simp); (try with_reducible rfl)
          try simp only [Act.put, List.setIfInBounds_toArray, List.set_cons_zero, List.set_cons_succ]
          refine g_skip (i := 10) (d := (some 20)) rfl rfl (by kernel_rfl) (fun _ _ _ h => h) (by rfl) ?_
          try simp only [Act.put, List.setIfInBounds_toArray, List.set_cons_zero, List.set_cons_succ]
          refine g_skip (i := 11) (d := (some 21)) rfl rfl (by kernel_rfl) (fun _ _ _ h => h) (by rfl) ?_
          try simp only [Act.put, List.setIfInBounds_toArray, List.set_cons_zero, List.set_cons_succ]
          refine g_skip (i := 12) (d := (some 22)) rfl rfl (by kernel_rfl) (fun _ _ _ h => h) (by rfl) ?_
          try simp only [Act.put, List.setIfInBounds_toArray, List.set_cons_zero, List.set_cons_succ]
          refine g_skip (i := 13) (d := (some 23)) rfl rfl (by kernel_rfl) (fun _ _ _ h => h) (by rfl) ?_
          try simp only [Act.put, List.setIfInBounds_toArray, List.set_cons_zero, List.set_cons_succ]
          refine g_skip (i := 14) (d := (some 24)) rfl rfl (by kernel_rfl) (fun _ _ _ h => h) (by rfl) ?_
          try simp only [Act.put, List.setIfInBounds_toArray, List.set_cons_zero, List.set_cons_succ]
          refine g_skip (i := 15) (d := (some 25)) rfl rfl (by kernel_rfl) (fun _ _ _ h => h) (by rfl) ?_
          try simp only [Act.put, List.setIfInBounds_toArray, List.set_cons_zero, List.set_cons_succ]
          refine g_skip (i := 16) (d := (some 26)) rfl rfl (by kernel_rfl) (fun _ _ _ h => h) (by rfl) ?_
          try simp only [Act.put, List.setIfInBounds_toArray, List.set_cons_zero, List.set_cons_succ]
          refine g_skip (i := 17) (d := (some 27)) rfl rfl (by kernel_rfl) (fun _ _ _ h => h) (by rfl) ?_
          try simp only [Act.put, List.setIfInBounds_toArray, List.set_cons_zero, List.set_cons_succ]
          refine g_skip (i := 18) (d := (some 28)) rfl rfl (by kernel_rfl) (fun _ _ _ h => h) (by rfl) ?_
          try simp only [Act.put, List.setIfInBounds_toArray, List.set_cons_zero, List.set_cons_succ]
          refine g_skip (i := 19) (d := (some 29)) rfl rfl (by kernel_rfl) (fun _ _ _ h => h) (by rfl) ?_
          try simp only [Act.put, List.setIfInBounds_toArray, List.set_cons_zero, List.set_cons_succ]
          refine g_skip (i := 20) (d := (some 30)) rfl rfl (by kernel_rfl) (fun _ _ _ h => h) (by rfl) ?_
          try simp only [Act.put, List.setIfInBounds_toArray, List.set_cons_zero, List.set_cons_succ]
          refine g_skip (i := 21) (d := (some 31)) rfl rfl (by kernel_rfl) (fun _ _ _ h => h) (by rfl) ?_
          try simp only [Act.put, List.setIfInBounds_toArray, List.set_cons_zero, List.set_cons_succ]
          refine g_take (i := 22) (d := (some 32)) (v := ?_) rfl rfl (by kernel_rfl) (fun _ _ _ h => h) (by rfl) (fun w' hb' => ?_) ?_
          rotate_left
          · (try go_simp); (try with_reducible rfl)
          try simp only [Act.put, List.setIfInBounds_toArray, List.set_cons_zero, List.set_cons_succ]
          refine g_take (i := 23) (d := (some 33)) (v := ?_) rfl rfl (by kernel_rfl) (fun _ _ _ h => h) (by rfl) (fun w' hb' => ?_) ?_
          rotate_left
          · (try go_simp); (try with_reducible rfl)
          try simp only [Act.put, List.setIfInBounds_toArray, List.set_cons_zero, List.set_cons_succ]
          refine g_done (by kernel_rfl) ?_
          go_wp2_with fail
          exact ⟨⟨k + 1, by omega, by push_cast; rfl, ALL, BL2⟩, by simp [intOf]; omega⟩

        · obtain ⟨j, hj⟩ : ∃ j, k = j + 1 := ⟨k - 1, by omega⟩
          have hjl : j < l.length := by omega
          obtain ⟨b', o', hbo, -, P0, -⟩ := rdt_cells HRD.out j hjl
          cases hbo
          obtain ⟨y, hy⟩ : ∃ y, y = (l[j]'hjl).fr := ⟨_, rfl⟩
          rw [← hy] at P0
          have F1 := Lib.hid (show IntKind.i64.wrap (j : Int) = (j : Int) by rw [IntKind.wrap_i64]; omega)
          have F2 := Lib.hid (show (k : Int) - 1 = (j : Int) by omega)
          have F3 := Lib.hid (show decide (0 < (k : Int)) = true by simp; omega)
          have F3N := Lib.hid (show decide (0 < k) = true by simp; omega)
          have F4 := Lib.hid (show (j : Int) < l.length by omega)
          have ST := Lib.hid (show stepV l k = decide (y < a) by
            subst hj
            rw [step_next hlt HV.out, ← hy, ← HX.out])
          clear hj hy hk0
          by_cases ho : y < a
          · have ALL := Lib.hid (show (List.range (k + 1)).all (stepV l) = true from all_up HA.out (by rw [ST.out]; simpa using ho))
            have F5 := Lib.hid (show decide (a ≤ y) = false by simp; omega)
            clear ho
            go_wp2_with fail

            refine g_start (by kernel_rfl) ?_
            refine g_take (i := 0) (d := (some 10)) (v := ?_) rfl rfl (by kernel_rfl) (fun _ _ _ h => h) (by rfl) (fun w' hb' => ?_) ?_
            rotate_left
            · (try go_simp); (try with_reducible rfl)
            try simp only [Act.put, List.setIfInBounds_toArray, List.set_cons_zero, List.set_cons_succ]
            refine g_take (i := 1) (d := (some 11)) (v := ?_) rfl rfl (by kernel_rfl) (fun _ _ _ h => h) (by rfl) (fun w' hb' => ?_) ?_
            rotate_left
            · (try go_simp); (try with_reducible rfl)
            try simp only [Act.put, List.setIfInBounds_toArray, List.set_cons_zero, List.set_cons_succ]
            refine g_take (i := 2) (d := (some 12)) (v := ?_) rfl rfl (by kernel_rfl) (fun _ _ _ h => h) (by rfl) (fun w' hb' => ?_) ?_
            rotate_left
            · (try go_simp); (try with_reducible rfl)
            try simp only [Act.put, List.setIfInBounds_toArray, List.set_cons_zero, List.set_cons_succ]
            refine g_take (i := 3) (d := (some 13)) (v := ?_) rfl rfl (by kernel_rfl) (fun _ _ _ h => h) (by rfl) (fun w' hb' => ?_) ?_
            rotate_left
            · have e0 := ((chain BL hb').cell (p := ⟨pb, po + k * 3, none⟩) hpb).trans C0; have e1 := ((chain BL hb').cell (p := ⟨pb, po + k * 3 + 1, none⟩) hpb).trans C1; have e2 := ((chain BL hb').cell (p := ⟨pb, po + k * 3 + 2, none⟩) hpb).trans C2; (try go_simp); (try with_reducible rfl)
            try simp only [Act.put, List.setIfInBounds_toArray, List.set_cons_zero, List.set_cons_succ]
            refine g_run (i := 4) rfl (by kernel_rfl) (by rfl) (fun K hK => ?_)
            go_simp; refine (IV.out _).mono ?_; rintro e w2 ⟨rfl, g⟩; have BL2 := chain BL g; refine hK _ _ ⟨g, ?_⟩; clear hK K g
            try simp only [Act.put, List.setIfInBounds_toArray, List.set_cons_zero, List.set_cons_succ]
            refine g_take (i := 5) (d := (some 15)) (v := ?_) rfl rfl (by kernel_rfl) (fun _ _ _ h => h) (by rfl) (fun w' hb' => ?_) ?_
            rotate_left
            · (try go_simp); (try with_reducible rfl)
            try simp only [Act.put, List.setIfInBounds_toArray, List.set_cons_zero, List.set_cons_succ]
            refine g_take (i := 6) (d := (some 16)) (v := ?_) rfl rfl (by kernel_rfl) (fun _ _ _ h => h) (by rfl) (fun w' hb' => ?_) ?_
            rotate_left
            · (try go_simp); (try with_reducible rfl)
            try simp only [Act.put, List.setIfInBounds_toArray, List.set_cons_zero, List.set_cons_succ]
            refine g_take (i := 7) (d := (some 17)) (v := ?_) rfl rfl (by kernel_rfl) (fun _ _ _ h => h) (by rfl) (fun w' hb' => ?_) ?_
            rotate_left
            · (try go_simp); (try with_reducible rfl)
            try simp only [Act.put, List.setIfInBounds_toArray, List.set_cons_zero, List.set_cons_succ]
            refine g_take (i := 8) (d := (some 18)) (v := ?_) rfl rfl (by kernel_rfl) (fun _ _ _ h => h) (by rfl) (fun w' hb' => ?_) ?_
            rotate_left
            · have f3 := F3.out; have f3n := F3N.out; (try go_simp); (try with_reducible rfl)
            try simp only [Act.put, List.setIfInBounds_toArray, List.set_cons_zero, List.set_cons_succ]
            refine g_take (i := 9) (d := (some 19)) (v := ?_) rfl rfl (by kernel_rfl) (fun _ _ _ h => h) (by rfl) (fun w' hb' => ?_) ?_
            rotate_left
            · (try go_simp); (try with_reducible rfl)
            try simp only [Act.put, List.setIfInBounds_toArray, List.set_cons_zero, List.set_cons_succ]
            refine g_take (i := 10) (d := (some 20)) (v := ?_) rfl rfl (by kernel_rfl) (fun _ _ _ h => h) (by rfl) (fun w' hb' => ?_) ?_
            rotate_left
            · (try go_simp); (try with_reducible rfl)
            try simp only [Act.put, List.setIfInBounds_toArray, List.set_cons_zero, List.set_cons_succ]
            refine g_take (i := 11) (d := (some 21)) (v := ?_) rfl rfl (by kernel_rfl) (fun _ _ _ h => h) (by rfl) (fun w' hb' => ?_) ?_
            rotate_left
            · (try go_simp); (try with_reducible rfl)
            try simp only [Act.put, List.setIfInBounds_toArray, List.set_cons_zero, List.set_cons_succ]
            refine g_take (i := 12) (d := (some 22)) (v := ?_) rfl rfl (by kernel_rfl) (fun _ _ _ h => h) (by rfl) (fun w' hb' => ?_) ?_
            rotate_left
            · have f1 := F1.out; have f2 := F2.out; (try go_simp); (try with_reducible rfl)
            try simp only [Act.put, List.setIfInBounds_toArray, List.set_cons_zero, List.set_cons_succ]
            refine g_take (i := 13) (d := (some 23)) (v := ?_) rfl rfl (by kernel_rfl) (fun _ _ _ h => h) (by rfl) (fun w' hb' => ?_) ?_
            rotate_left
            · have f4 := F4.out; (try go_simp); (try with_reducible rfl)
            try simp only [Act.put, List.setIfInBounds_toArray, List.set_cons_zero, List.set_cons_succ]
            refine g_take (i := 14) (d := (some 24)) (v := ?_) rfl rfl (by kernel_rfl) (fun _ _ _ h => h) (by rfl) (fun w' hb' => ?_) ?_
            rotate_left
            · (try go_simp); (try with_reducible rfl)
            try simp only [Act.put, List.setIfInBounds_toArray, List.set_cons_zero, List.set_cons_succ]
            refine g_take (i := 15) (d := (some 25)) (v := ?_) rfl rfl (by kernel_rfl) (fun _ _ _ h => h) (by rfl) (fun w' hb' => ?_) ?_
            rotate_left
            · have p0 := ((chain BL2 hb').cell (p := ⟨pb, po + j * 3, none⟩) hpb).trans P0; (try go_simp); (try with_reducible rfl)
            try simp only [Act.put, List.setIfInBounds_toArray, List.set_cons_zero, List.set_cons_succ]
            refine g_take (i := 16) (d := (some 26)) (v := ?_) rfl rfl (by kernel_rfl) (fun _ _ _ h => h) (by rfl) (fun w' hb' => ?_) ?_
            rotate_left
            · (try go_simp); (try with_reducible rfl)
            try simp only [Act.put, List.setIfInBounds_toArray, List.set_cons_zero, List.set_cons_succ]
            refine g_take (i := 17) (d := (some 27)) (v := ?_) rfl rfl (by kernel_rfl) (fun _ _ _ h => h) (by rfl) (fun w' hb' => ?_) ?_
            rotate_left
            · (try go_simp); (try with_reducible rfl)
            try simp only [Act.put, List.setIfInBounds_toArray, List.set_cons_zero, List.set_cons_succ]
            refine g_take (i := 18) (d := (some 28)) (v := ?_) rfl rfl (by kernel_rfl) (fun _ _ _ h => h) (by rfl) (fun w' hb' => ?_) ?_
            rotate_left
            · (try go_simp); (try with_reducible rfl)
            try simp only [Act.put, List.setIfInBounds_toArray, List.set_cons_zero, List.set_cons_succ]
            refine g_take (i := 19) (d := (some 29)) (v := ?_) rfl rfl (by kernel_rfl) (fun _ _ _ h => h) (by rfl) (fun w' hb' => ?_) ?_
            rotate_left
            · (try go_simp); (try with_reducible rfl)
            try simp only [Act.put, List.setIfInBounds_toArray, List.set_cons_zero, List.set_cons_succ]
            refine g_take (i := 20) (d := (some 30)) (v := ?_) rfl rfl (by kernel_rfl) (fun _ _ _ h => h) (by rfl) (fun w' hb' => ?_) ?_
            rotate_left
            · have e0 := ((chain BL2 hb').cell (p := ⟨pb, po + k * 3, none⟩) hpb).trans C0; have e1 := ((chain BL2 hb').cell (p := ⟨pb, po + k * 3 + 1, none⟩) hpb).trans C1; have e2 := ((chain BL2 hb').cell (p := ⟨pb, po + k * 3 + 2, none⟩) hpb).trans C2; (try go_simp); (try with_reducible rfl)
            try simp only [Act.put, List.setIfInBounds_toArray, List.set_cons_zero, List.set_cons_succ]
            refine g_take (i := 21) (d := (some 31)) (v := ?_) rfl rfl (by kernel_rfl) (fun _ _ _ h => h) (by rfl) (fun w' hb' => ?_) ?_
            rotate_left
            · have f5 := F5.out; (try go_simp); (try with_reducible rfl)
            try simp only [Act.put, List.setIfInBounds_toArray, List.set_cons_zero, List.set_cons_succ]
            refine g_take (i := 22) (d := (some 32)) (v := ?_) rfl rfl (by kernel_rfl) (fun _ _ _ h => h) (by rfl) (fun w' hb' => ?_) ?_
            rotate_left
            · (try go_simp); (try with_reducible rfl)
            try simp only [Act.put, List.setIfInBounds_toArray, List.set_cons_zero, List.set_cons_succ]
            refine g_take (i := 23) (d := (some 33)) (v := ?_) rfl rfl (by kernel_rfl) (fun _ _ _ h => h) (by rfl) (fun w' hb' => ?_) ?_
            rotate_left
            · (try go_simp); (try with_reducible rfl)
            try simp only [Act.put, List.setIfInBounds_toArray, List.set_cons_zero, List.set_cons_succ]
            refine g_done (by kernel_rfl) ?_
            go_wp2_with fail
            exact ⟨⟨k + 1, by omega, by push_cast; rfl, ALL, BL2⟩, by simp [intOf]; omega⟩

          · have RES := Lib.hid (show R = false by rw [HR.out]; exact all_no hlt (by rw [ST.out]; simpa using ho))
            have F5 := Lib.hid (show decide (a ≤ y) = true by simp; omega)
            clear ho
            go_wp2_with fail

            refine g_start (by kernel_rfl) ?_
            refine g_take (i := 0) (d := (some 10)) (v := ?_) rfl rfl (by kernel_rfl) (fun _ _ _ h => h) (by rfl) (fun w' hb' => ?_) ?_
            rotate_left
            · (try go_simp); (try with_reducible rfl)
            try simp only [Act.put, List.setIfInBounds_toArray, List.set_cons_zero, List.set_cons_succ]
            refine g_take (i := 1) (d := (some 11)) (v := ?_) rfl rfl (by kernel_rfl) (fun _ _ _ h => h) (by rfl) (fun w' hb' => ?_) ?_
            rotate_left
            · (try go_simp); (try with_reducible rfl)
            try simp only [Act.put, List.setIfInBounds_toArray, List.set_cons_zero, List.set_cons_succ]
            refine g_take (i := 2) (d := (some 12)) (v := ?_) rfl rfl (by kernel_rfl) (fun _ _ _ h => h) (by rfl) (fun w' hb' => ?_) ?_
            rotate_left
            · (try go_simp); (try with_reducible rfl)
            try simp only [Act.put, List.setIfInBounds_toArray, List.set_cons_zero, List.set_cons_succ]
            refine g_take (i := 3) (d := (some 13)) (v := ?_) rfl rfl (by kernel_rfl) (fun _ _ _ h => h) (by rfl) (fun w' hb' => ?_) ?_
            rotate_left
            · have e0 := ((chain BL hb').cell (p := ⟨pb, po + k * 3, none⟩) hpb).trans C0; have e1 := ((chain BL hb').cell (p := ⟨pb, po + k * 3 + 1, none⟩) hpb).trans C1; have e2 := ((chain BL hb').cell (p := ⟨pb, po + k * 3 + 2, none⟩) hpb).trans C2; (try go_simp); (try with_reducible rfl)
            try simp only [Act.put, List.setIfInBounds_toArray, List.set_cons_zero, List.set_cons_succ]
            refine g_run (i := 4) rfl (by kernel_rfl) (by rfl) (fun K hK => ?_)
            go_simp; refine (IV.out _).mono ?_; rintro e w2 ⟨rfl, g⟩; have BL2 := chain BL g; refine hK _ _ ⟨g, ?_⟩; clear hK K g
            try simp only [Act.put, List.setIfInBounds_toArray, List.set_cons_zero, List.set_cons_succ]
            refine g_take (i := 5) (d := (some 15)) (v := ?_) rfl rfl (by kernel_rfl) (fun _ _ _ h => h) (by rfl) (fun w' hb' => ?_) ?_
            rotate_left
            · (try go_simp); (try with_reducible rfl)
            try simp only [Act.put, List.setIfInBounds_toArray, List.set_cons_zero, List.set_cons_succ]
            refine g_take (i := 6) (d := (some 16)) (v := ?_) rfl rfl (by kernel_rfl) (fun _ _ _ h => h) (by rfl) (fun w' hb' => ?_) ?_
            rotate_left
            · (try go_simp); (try with_reducible rfl)
            try simp only [Act.put, List.setIfInBounds_toArray, List.set_cons_zero, List.set_cons_succ]
            refine g_take (i := 7) (d := (some 17)) (v := ?_) rfl rfl (by kernel_rfl) (fun _ _ _ h => h) (by rfl) (fun w' hb' => ?_) ?_
            rotate_left
            · (try go_simp); (try with_reducible rfl)
            try simp only [Act.put, List.setIfInBounds_toArray, List.set_cons_zero, List.set_cons_succ]
            refine g_take (i := 8) (d := (some 18)) (v := ?_) rfl rfl (by kernel_rfl) (fun _ _ _ h => h) (by rfl) (fun w' hb' => ?_) ?_
            rotate_left
            · have f3 := F3.out; have f3n := F3N.out; (try go_simp); (try with_reducible rfl)
            try simp only [Act.put, List.setIfInBounds_toArray, List.set_cons_zero, List.set_cons_succ]
            refine g_take (i := 9) (d := (some 19)) (v := ?_) rfl rfl (by kernel_rfl) (fun _ _ _ h => h) (by rfl) (fun w' hb' => ?_) ?_
            rotate_left
            · (try go_simp); (try with_reducible rfl)
            try simp only [Act.put, List.setIfInBounds_toArray, List.set_cons_zero, List.set_cons_succ]
            refine g_take (i := 10) (d := (some 20)) (v := ?_) rfl rfl (by kernel_rfl) (fun _ _ _ h => h) (by rfl) (fun w' hb' => ?_) ?_
            rotate_left
            · (try go_simp); (try with_reducible rfl)
            try simp only [Act.put, List.setIfInBounds_toArray, List.set_cons_zero, List.set_cons_succ]
            refine g_take (i := 11) (d := (some 21)) (v := ?_) rfl rfl (by kernel_rfl) (fun _ _ _ h => h) (by rfl) (fun w' hb' => ?_) ?_
            rotate_left
            · (try go_simp); (try with_reducible rfl)
            try simp only [Act.put, List.setIfInBounds_toArray, List.set_cons_zero, List.set_cons_succ]
            refine g_take (i := 12) (d := (some 22)) (v := ?_) rfl rfl (by kernel_rfl) (fun _ _ _ h => h) (by rfl) (fun w' hb' => ?_) ?_
            rotate_left
            · have f1 := F1.out; have f2 := F2.out; (try go_simp); (try with_reducible rfl)
            try simp only [Act.put, List.setIfInBounds_toArray, List.set_cons_zero, List.set_cons_succ]
            refine g_take (i := 13) (d := (some 23)) (v := ?_) rfl rfl (by kernel_rfl) (fun _ _ _ h => h) (by rfl) (fun w' hb' => ?_) ?_
            rotate_left
            · have f4 := F4.out; (try go_simp); (try with_reducible rfl)
            try simp only [Act.put, List.setIfInBounds_toArray, List.set_cons_zero, List.set_cons_succ]
            refine g_take (i := 14) (d := (some 24)) (v := ?_) rfl rfl (by kernel_rfl) (fun _ _ _ h => h) (by rfl) (fun w' hb' => ?_) ?_
            rotate_left
            · (try go_simp); (try with_reducible rfl)
            try simp only [Act.put, List.setIfInBounds_toArray, List.set_cons_zero, List.set_cons_succ]
            refine g_take (i := 15) (d := (some 25)) (v := ?_) rfl rfl (by kernel_rfl) (fun _ _ _ h => h) (by rfl) (fun w' hb' => ?_) ?_
            rotate_left
            · have p0 := ((chain BL2 hb').cell (p := ⟨pb, po + j * 3, none⟩) hpb).trans P0; (try go_simp); (try with_reducible rfl)
            try simp only [Act.put, List.setIfInBounds_toArray, List.set_cons_zero, List.set_cons_succ]
            refine g_take (i := 16) (d := (some 26)) (v := ?_) rfl rfl (by kernel_rfl) (fun _ _ _ h => h) (by rfl) (fun w' hb' => ?_) ?_
            rotate_left
            · (try go_simp); (try with_reducible rfl)
            try simp only [Act.put, List.setIfInBounds_toArray, List.set_cons_zero, List.set_cons_succ]
            refine g_take (i := 17) (d := (some 27)) (v := ?_) rfl rfl (by kernel_rfl) (fun _ _ _ h => h) (by rfl) (fun w' hb' => ?_) ?_
            rotate_left
            · (try go_simp); (try with_reducible rfl)
            try simp only [Act.put, List.setIfInBounds_toArray, List.set_cons_zero, List.set_cons_succ]
            refine g_take (i := 18) (d := (some 28)) (v := ?_) rfl rfl (by kernel_rfl) (fun _ _ _ h => h) (by rfl) (fun w' hb' => ?_) ?_
            rotate_left
            · (try go_simp); (try with_reducible rfl)
            try simp only [Act.put, List.setIfInBounds_toArray, List.set_cons_zero, List.set_cons_succ]
            refine g_take (i := 19) (d := (some 29)) (v := ?_) rfl rfl (by kernel_rfl) (fun _ _ _ h => h) (by rfl) (fun w' hb' => ?_) ?_
            rotate_left
            · (try go_simp); (try with_reducible rfl)
            try simp only [Act.put, List.setIfInBounds_toArray, List.set_cons_zero, List.set_cons_succ]
            refine g_take (i := 20) (d := (some 30)) (v := ?_) rfl rfl (by kernel_rfl) (fun _ _ _ h => h) (by rfl) (fun w' hb' => ?_) ?_
            rotate_left
            · have e0 := ((chain BL2 hb').cell (p := ⟨pb, po + k * 3, none⟩) hpb).trans C0; have e1 := ((chain BL2 hb').cell (p := ⟨pb, po + k * 3 + 1, none⟩) hpb).trans C1; have e2 := ((chain BL2 hb').cell (p := ⟨pb, po + k * 3 + 2, none⟩) hpb).trans C2; (try go_simp); (try with_reducible rfl)
            try simp only [Act.put, List.setIfInBounds_toArray, List.set_cons_zero, List.set_cons_succ]
            refine g_take (i := 21) (d := (some 31)) (v := ?_) rfl rfl (by kernel_rfl) (fun _ _ _ h => h) (by rfl) (fun w' hb' => ?_) ?_
            rotate_left
            · have f5 := F5.out; (try go_simp); (try with_reducible rfl)
            try simp only [Act.put, List.setIfInBounds_toArray, List.set_cons_zero, List.set_cons_succ]
            refine g_take (i := 22) (d := (some 32)) (v := ?_) rfl rfl (by kernel_rfl) (fun _ _ _ h => h) (by rfl) (fun w' hb' => ?_) ?_
            rotate_left
            · (try go_simp); (try with_reducible rfl)
            try simp only [Act.put, List.setIfInBounds_toArray, List.set_cons_zero, List.set_cons_succ]
            refine g_take (i := 23) (d := (some 33)) (v := ?_) rfl rfl (by kernel_rfl) (fun _ _ _ h => h) (by rfl) (fun w' hb' => ?_) ?_
            rotate_left
            · (try go_simp); (try with_reducible rfl)
            try simp only [Act.put, List.setIfInBounds_toArray, List.set_cons_zero, List.set_cons_succ]
            refine g_done (by kernel_rfl) ?_
            go_wp2_with fail
            skip
            go_ret
            exact ⟨ret_b RES.out.symm, BL2⟩

    · obtain rfl : k = l.length := by omega
      have RES := Lib.hid (show R = true by rw [HR.out]; exact HA.out)
      go_wp2_with fail
      go_ret
      exact ⟨ret_b RES.out.symm, bel⟩
end Go.Proofs.YtgmblgpfgdfnaaaDoor
