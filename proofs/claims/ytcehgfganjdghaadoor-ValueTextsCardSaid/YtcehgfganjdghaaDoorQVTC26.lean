/- Values: the chapter's examples. Written by wip/tools/gen7l.py. -/
import Derived.Test.YtcehgfganjdghaaDoorQVTC15
import Derived.Test.YtcehgfganjdghaaDoorQVTC23
import Derived.Test.YtcehgfganjdghaaDoorQVTC25
import Derived.Deep.DeepCutAuto
namespace Go.Proofs.YtcehgfganjdghaaDoor.V7
open Go Go.RowKit
set_option linter.unusedVariables false
set_option linter.unusedSimpArgs false
theorem refBool_any (b : Bool) (w : World) :
    Calls Tryd.prog 45 #[.bool b] w fun e w' => e = .returned (.agg #[.int .i64 1, .int .i64 (if b then 1 else 0), .string (str [])]) ∧ Below w.heap.size w w' := by
  cases b
  all_goals
    go_enter Tryd.func45, Tryd.ntmps45
    go_wp2_with fail
    refine bodyPost_ret (v := .agg #[.int .i64 1, .int .i64 _, .string (str [])]) (by simp [results, Tryd.results45, go_sem, str_e]) rfl ⟨rfl, ?_⟩
    exact ((Below.refl _ _).alloc (Nat.le_refl _) _).alloc (by simp) _
theorem val_eq (k i : Int) (s : List UInt8) (w : World) : (binOp .eql 30 (.agg #[.int .i64 k, .int .i64 i, .string (str s)]) (.agg #[.int .i64 k, .int .i64 i, .string (str s)])).run Tryd.prog w = .ok (.bool true) w := by
  go_simp
theorem val_guard : Tryd.prog.eqGuardType Tryd.prog.depth 30 = false := by kernel_rfl
theorem val_eq_op (op : Oper) (a : Act) (x y : Operand) (T' : TypeId) (k i : Int) (s : List UInt8) (ho : op.op = .binOp .eql 30 x y T') (hx : a.eval x = .agg #[.int .i64 k, .int .i64 i, .string (str s)]) (hy : a.eval y = .agg #[.int .i64 k, .int .i64 i, .string (str s)]) (w : World) :
    (execOp a.eval op).run Tryd.prog w = .ok (.value (.bool true)) w := by
  have h := val_eq k i s w
  simp only [execOp, ho, hx, hy]
  have g := val_guard
  go_simp
theorem cv {w : World} {v : Value} {l : List UInt8} (h : Rd w v l) : (convert 58 9 v).run Tryd.prog w = .ok (.string (str l)) w :=
  conv_rd h 58 5 9 Tryd.underlying58 Tryd.underlying5 Tryd.underlying9
set_option maxRecDepth 100000 in
set_option maxHeartbeats 4000000 in
theorem awake_any (w : World) :
    Calls Tryd.prog 42 #[] w fun e w' => e = .returned (.bool true) ∧ Below w.heap.size w w' := by
  have I := int_any
  have A1 := fun w => add_any 2 2 [] 2 3 [] (by decide) (by decide) (by decide) (by decide) w
  have A2 := fun w => add_any 2 2 [] 3 0 [97] (by decide) (by decide) (by decide) (by decide) w
  have D1 := fun w => div_any 2 (-7) [] 2 2 [] (by decide) (by decide) w
  have M1 := fun w => mod_any 2 (-7) [] 2 2 [] (by decide) (by decide) w
  have T1 := fun w => text_short [97] w (by decide)
  have T2 := fun w => text_short [97, 98] w (by decide)
  have N := nil_any
  have C1 := fun w => compare_any 0 0 0 [] 2 0 [] (by decide) (by decide) w
  have C2 := fun w => compare_any 2 0 0 [] 2 0 [] (by decide) (by decide) w
  rw [show opV (expE 2 ⟨2, 2, []⟩ ⟨2, 3, []⟩) (overE (2 + 3)) (wrap64 (2 + 3)) = .tuple #[.agg #[.int .i64 2, .int .i64 5, .string (str [])], .int .i64 0] from by simp [opV, expE, mayB, overE, fits, cmpK, cmpI, cmpE, wrap64]] at A1
  rw [show opV (expE 2 ⟨2, 2, []⟩ ⟨3, 0, [97]⟩) (overE (2 + 0)) (wrap64 (2 + 0)) = .tuple #[.agg #[.int .i64 0, .int .i64 0, .string (str [])], .int .i64 10] from by simp [opV, expE, mayB, overE, fits, cmpK, cmpI, cmpE, wrap64, divN, divE, modN, modE, cmpV, nilT, boolT, n01, cmpB, ordV, sgn3]] at A2
  rw [show opV (expE 2 ⟨2, -7, []⟩ ⟨2, 2, []⟩) (divE (-7) 2) (divN (-7) 2) = .tuple #[.agg #[.int .i64 2, .int .i64 (-3), .string (str [])], .int .i64 0] from by simp [opV, expE, mayB, overE, fits, cmpK, cmpI, cmpE, wrap64, divN, divE, modN, modE, cmpV, nilT, boolT, n01, cmpB, ordV, sgn3]] at D1
  rw [show opV (expE 2 ⟨2, -7, []⟩ ⟨2, 2, []⟩) (modE 2) (modN (-7) 2) = .tuple #[.agg #[.int .i64 2, .int .i64 (-1), .string (str [])], .int .i64 0] from by simp [opV, expE, mayB, overE, fits, cmpK, cmpI, cmpE, wrap64, divN, divE, modN, modE, cmpV, nilT, boolT, n01, cmpB, ordV, sgn3]] at M1
  rw [show cmpV 0 ⟨0, 0, []⟩ ⟨2, 0, []⟩ = .tuple #[.agg #[.int .i64 1, .int .i64 0, .string (str [])], .int .i64 0] from by simp [opV, expE, mayB, overE, fits, cmpK, cmpI, cmpE, wrap64, divN, divE, modN, modE, cmpV, nilT, boolT, n01, cmpB, ordV, sgn3]] at C1
  rw [show cmpV 2 ⟨0, 0, []⟩ ⟨2, 0, []⟩ = .tuple #[.agg #[.int .i64 0, .int .i64 0, .string (str [])], .int .i64 10] from by simp [opV, expE, mayB, overE, fits, cmpK, cmpI, cmpE, wrap64, divN, divE, modN, modE, cmpV, nilT, boolT, n01, cmpB, ordV, sgn3]] at C2
  have bel := Below.refl w.heap.size w
  go_enter Tryd.func42, Tryd.ntmps42
  go_wp2_with fail
  refine (I 2 _).mono ?_
  rintro e w1 ⟨rfl, g⟩
  replace bel := chain bel g
  clear g
  go_wp2_with fail
  refine (I 3 _).mono ?_
  rintro e w2 ⟨rfl, g⟩
  replace bel := chain bel g
  clear g
  go_wp2_with fail
  refine (A1 _).mono ?_
  rintro e w3 ⟨rfl, g⟩
  replace bel := chain bel g
  clear g
  have qa := heap_alloc_new w3 (.cells #[.int .i64 (2), .int .i64 (5), .string (str [])] 30)
  replace bel := bel.alloc bel.size (.cells #[.int .i64 (2), .int .i64 (5), .string (str [])] 30)
  obtain ⟨qac0, qac1, qac2⟩ := cells3 qa
  have qal := lt_of_block qa
  go_wp2_with fail
  refine (T1 _).mono ?_
  rintro e w4 ⟨rfl, g⟩
  clear qac0 qac1 qac2 qal
  replace qa := (g.block _ (lt_of_block qa)).trans qa
  replace bel := chain bel g
  clear g
  obtain ⟨qac0, qac1, qac2⟩ := cells3 qa
  have qal := lt_of_block qa
  clear qac0 qac1 qac2 qal
  replace qa := (heap_alloc_old w4 (.cells #[.int .i64 (3), .int .i64 (0), .string (str [97])] 30) (lt_of_block qa)).trans qa
  have qx := heap_alloc_new w4 (.cells #[.int .i64 (3), .int .i64 (0), .string (str [97])] 30)
  replace bel := bel.alloc bel.size (.cells #[.int .i64 (3), .int .i64 (0), .string (str [97])] 30)
  obtain ⟨qac0, qac1, qac2⟩ := cells3 qa
  have qal := lt_of_block qa
  obtain ⟨qxc0, qxc1, qxc2⟩ := cells3 qx
  have qxl := lt_of_block qx
  clear qac0 qac1 qac2 qal qxc0 qxc1 qxc2 qxl
  go_upto_region 3 with fail
  obtain ⟨W0, hW0⟩ : ∃ W0, W0 = w4.alloc (.cells #[.int .i64 (3), .int .i64 (0), .string (str [97])] 30) := ⟨_, rfl⟩
  have zX : w4.heap.size < W0.heap.size := by rw [hW0]; simp
  rw [← hW0] at qa qx bel ⊢
  clear hW0
  go_cut [6] (fun s6 wx => s6 = .int .i64 10 ∧ wx.heap[w3.heap.size]? = some (.cells #[.int .i64 (2), .int .i64 (5), .string (str [])] 30 (0, 0)) ∧ Below w.heap.size w wx)
  case first =>
    have hS := (below_drewN (k := 1) (Below.refl W0.heap.size W0) : Below W0.heap.size W0 W0.drew)
    refine gs_start (S := fun w' => Below W0.heap.size W0 w') (by kernel_rfl) ?_
    refine gs_take (i := 1) (d := (some 29)) (v := ?_) rfl rfl (by kernel_rfl) (fun _ _ _ h => h) (by rfl) hS (fun w' hb' => ?_) ?_
    rotate_left
    · have zz := (hb'.block _ (lt_of_block qx)).trans qx; obtain ⟨c0, c1, c2⟩ := cells3 zz; (try go_simp); (try with_reducible rfl)
    try simp only [Act.put, List.setIfInBounds_toArray, List.set_cons_zero, List.set_cons_succ]
    refine gs_run2 (i := 0) (k := 6) rfl rfl (by kernel_rfl) (by rfl) (by rfl) (fun K hK => ?_) (fun K hK => ?_)
    · skip
      go_simp
      refine (I 2 _).mono ?_
      rintro e v1 ⟨rfl, gg⟩
      have hS := hS.trans (gg.mono hS.size)
      refine hK _ _ ⟨hS, ?_⟩
      clear hK K gg
      try simp only [Act.put, List.setIfInBounds_toArray, List.set_cons_zero, List.set_cons_succ]
      refine gs_run2 (i := 2) (k := 6) rfl rfl (by kernel_rfl) (by rfl) (by rfl) (fun K hK => ?_) (fun K hK => ?_)
      · skip
        go_simp
        refine (A2 _).mono ?_
        rintro e v2 ⟨rfl, gg⟩
        have hS := hS.trans (gg.mono hS.size)
        refine hK _ _ ⟨hS, ?_⟩
        clear hK K gg
        try simp only [Act.put, List.setIfInBounds_toArray, List.set_cons_zero, List.set_cons_succ]
        refine gs_take (i := 3) (d := (some 27)) (v := ?_) rfl rfl (by kernel_rfl) (fun _ _ _ h => h) (by rfl) hS (fun w' hb' => ?_) ?_
        rotate_left
        · (try go_simp); (try with_reducible rfl)
        try simp only [Act.put, List.setIfInBounds_toArray, List.set_cons_zero, List.set_cons_succ]
        refine gs_take (i := 4) (d := (some 31)) (v := ?_) rfl rfl (by kernel_rfl) (fun _ _ _ h => h) (by rfl) hS (fun w' hb' => ?_) ?_
        rotate_left
        · (try go_simp); (try with_reducible rfl)
        try simp only [Act.put, List.setIfInBounds_toArray, List.set_cons_zero, List.set_cons_succ]
        refine gs_take (i := 5) (d := (some 32)) (v := ?_) rfl rfl (by kernel_rfl) (fun _ _ _ h => h) (by rfl) hS (fun w' hb' => ?_) ?_
        rotate_left
        · (try go_simp); (try with_reducible rfl)
        try simp only [Act.put, List.setIfInBounds_toArray, List.set_cons_zero, List.set_cons_succ]
        refine gs_run (i := 6) rfl (by kernel_rfl) (by rfl) (fun K hK => ?_)
        go_simp
        have hz : (World.alloc v2 (Obj.cells #[Value.int .i64 0, Value.int .i64 0, Value.string (ByteArray.mk #[])] 30)).heap[v2.heap.size]? = some (.cells #[.int .i64 0, .int .i64 0, .string (str [])] 30 (0, 0)) := heap_alloc_new v2 _
        have hnb : W0.heap.size ≤ v2.heap.size := hS.size
        have hS : Below W0.heap.size W0 (World.alloc v2 (Obj.cells #[Value.int .i64 0, Value.int .i64 0, Value.string (ByteArray.mk #[])] 30)) := hS.alloc hS.size _
        refine hK _ _ ⟨hS, ?_⟩
        clear hK K
        obtain ⟨v3, hv3⟩ : ∃ W, W = (World.alloc v2 (Obj.cells #[Value.int .i64 0, Value.int .i64 0, Value.string (ByteArray.mk #[])] 30)) := ⟨_, rfl⟩
        rw [← hv3]
        rw [← hv3] at hz hS
        clear hv3
        obtain ⟨nb, hnbe⟩ : ∃ n, n = v2.heap.size := ⟨_, rfl⟩
        rw [← hnbe] at hz hnb ⊢
        clear hnbe
        try simp only [Act.put, List.setIfInBounds_toArray, List.set_cons_zero, List.set_cons_succ]
        refine gs_run (i := 7) rfl (by kernel_rfl) (by rfl) (fun K hK => ?_)
        obtain ⟨c0, c1, c2⟩ := cells3 hz
        have cf := frozen3 hz
        have hl := lt_of_block hz
        go_simp
        refine hK _ _ ⟨((hS.setCell (p := ⟨nb, 0, none⟩) hnb _).setCell (p := ⟨nb, 1, none⟩) hnb _).setCell (p := ⟨nb, 2, none⟩) hnb _, ?_⟩
        have hS := ((hS.setCell (p := ⟨nb, 0, none⟩) hnb (.int .i64 0)).setCell (p := ⟨nb, 1, none⟩) hnb (.int .i64 0)).setCell (p := ⟨nb, 2, none⟩) hnb (.string (str []))
        clear hK K c0 c1 c2 cf hl
        try simp only [Act.put, List.setIfInBounds_toArray, List.set_cons_zero, List.set_cons_succ]
        refine gs_take (i := 8) (d := (some 6)) (v := ?_) rfl rfl (by kernel_rfl) (fun _ _ _ h => h) (by rfl) hS (fun w' hb' => ?_) ?_
        rotate_left
        · (try go_simp); (try with_reducible rfl)
        try simp only [Act.put, List.setIfInBounds_toArray, List.set_cons_zero, List.set_cons_succ]
        refine gs_done (by kernel_rfl) ?_
        have qa := (hS.block _ (lt_of_block qa)).trans qa
        have bel := chain bel hS
        go_wp2_with fail
        go_meet
        exact ⟨rfl, qa, bel⟩
      · skip
        go_simp
        have hz : (World.alloc v1 (Obj.cells #[Value.int .i64 0, Value.int .i64 0, Value.string (ByteArray.mk #[])] 30)).heap[v1.heap.size]? = some (.cells #[.int .i64 0, .int .i64 0, .string (str [])] 30 (0, 0)) := heap_alloc_new v1 _
        have hnb : W0.heap.size ≤ v1.heap.size := hS.size
        have hS : Below W0.heap.size W0 (World.alloc v1 (Obj.cells #[Value.int .i64 0, Value.int .i64 0, Value.string (ByteArray.mk #[])] 30)) := hS.alloc hS.size _
        refine hK _ _ ⟨hS, ?_⟩
        clear hK K
        obtain ⟨v5, hv5⟩ : ∃ W, W = (World.alloc v1 (Obj.cells #[Value.int .i64 0, Value.int .i64 0, Value.string (ByteArray.mk #[])] 30)) := ⟨_, rfl⟩
        rw [← hv5]
        rw [← hv5] at hz hS
        clear hv5
        obtain ⟨nb, hnbe⟩ : ∃ n, n = v1.heap.size := ⟨_, rfl⟩
        rw [← hnbe] at hz hnb ⊢
        clear hnbe
        try simp only [Act.put, List.setIfInBounds_toArray, List.set_cons_zero, List.set_cons_succ]
        refine gs_run (i := 2) rfl (by kernel_rfl) (by rfl) (fun K hK => ?_)
        go_simp
        refine (A2 _).mono ?_
        rintro e v6 ⟨rfl, gg⟩
        have hz := (gg.block _ (lt_of_block hz)).trans hz
        have hS := hS.trans (gg.mono hS.size)
        refine hK _ _ ⟨hS, ?_⟩
        clear hK K gg
        try simp only [Act.put, List.setIfInBounds_toArray, List.set_cons_zero, List.set_cons_succ]
        refine gs_take (i := 3) (d := (some 27)) (v := ?_) rfl rfl (by kernel_rfl) (fun _ _ _ h => h) (by rfl) hS (fun w' hb' => ?_) ?_
        rotate_left
        · (try go_simp); (try with_reducible rfl)
        try simp only [Act.put, List.setIfInBounds_toArray, List.set_cons_zero, List.set_cons_succ]
        refine gs_take (i := 4) (d := (some 31)) (v := ?_) rfl rfl (by kernel_rfl) (fun _ _ _ h => h) (by rfl) hS (fun w' hb' => ?_) ?_
        rotate_left
        · (try go_simp); (try with_reducible rfl)
        try simp only [Act.put, List.setIfInBounds_toArray, List.set_cons_zero, List.set_cons_succ]
        refine gs_take (i := 5) (d := (some 32)) (v := ?_) rfl rfl (by kernel_rfl) (fun _ _ _ h => h) (by rfl) hS (fun w' hb' => ?_) ?_
        rotate_left
        · (try go_simp); (try with_reducible rfl)
        try simp only [Act.put, List.setIfInBounds_toArray, List.set_cons_zero, List.set_cons_succ]
        refine gs_run (i := 7) rfl (by kernel_rfl) (by rfl) (fun K hK => ?_)
        obtain ⟨c0, c1, c2⟩ := cells3 hz
        have cf := frozen3 hz
        have hl := lt_of_block hz
        go_simp
        refine hK _ _ ⟨((hS.setCell (p := ⟨nb, 0, none⟩) hnb _).setCell (p := ⟨nb, 1, none⟩) hnb _).setCell (p := ⟨nb, 2, none⟩) hnb _, ?_⟩
        have hS := ((hS.setCell (p := ⟨nb, 0, none⟩) hnb (.int .i64 0)).setCell (p := ⟨nb, 1, none⟩) hnb (.int .i64 0)).setCell (p := ⟨nb, 2, none⟩) hnb (.string (str []))
        clear hK K c0 c1 c2 cf hl
        try simp only [Act.put, List.setIfInBounds_toArray, List.set_cons_zero, List.set_cons_succ]
        refine gs_take (i := 8) (d := (some 6)) (v := ?_) rfl rfl (by kernel_rfl) (fun _ _ _ h => h) (by rfl) hS (fun w' hb' => ?_) ?_
        rotate_left
        · (try go_simp); (try with_reducible rfl)
        try simp only [Act.put, List.setIfInBounds_toArray, List.set_cons_zero, List.set_cons_succ]
        refine gs_done (by kernel_rfl) ?_
        have qa := (hS.block _ (lt_of_block qa)).trans qa
        have bel := chain bel hS
        go_wp2_with fail
        go_meet
        exact ⟨rfl, qa, bel⟩
    · skip
      go_simp
      have hz : ((World.alloc W0 (Obj.cells #[Value.int .i64 0, Value.int .i64 0, Value.string (ByteArray.mk #[])] 30)).drew).heap[W0.heap.size]? = some (.cells #[.int .i64 0, .int .i64 0, .string (str [])] 30 (0, 0)) := heap_alloc_new W0 _
      have hnb : W0.heap.size ≤ W0.heap.size := hS.size
      have hS : Below W0.heap.size W0 ((World.alloc W0 (Obj.cells #[Value.int .i64 0, Value.int .i64 0, Value.string (ByteArray.mk #[])] 30)).drew) := hS.alloc hS.size _
      refine hK _ _ ⟨hS, ?_⟩
      clear hK K
      obtain ⟨v8, hv8⟩ : ∃ W, W = ((World.alloc W0 (Obj.cells #[Value.int .i64 0, Value.int .i64 0, Value.string (ByteArray.mk #[])] 30)).drew) := ⟨_, rfl⟩
      rw [← hv8]
      rw [← hv8] at hz hS
      clear hv8
      try simp only [Act.put, List.setIfInBounds_toArray, List.set_cons_zero, List.set_cons_succ]
      refine gs_run (i := 0) rfl (by kernel_rfl) (by rfl) (fun K hK => ?_)
      go_simp
      refine (I 2 _).mono ?_
      rintro e v9 ⟨rfl, gg⟩
      have hz := (gg.block _ (lt_of_block hz)).trans hz
      have hS := hS.trans (gg.mono hS.size)
      refine hK _ _ ⟨hS, ?_⟩
      clear hK K gg
      try simp only [Act.put, List.setIfInBounds_toArray, List.set_cons_zero, List.set_cons_succ]
      refine gs_run (i := 2) rfl (by kernel_rfl) (by rfl) (fun K hK => ?_)
      go_simp
      refine (A2 _).mono ?_
      rintro e v10 ⟨rfl, gg⟩
      have hz := (gg.block _ (lt_of_block hz)).trans hz
      have hS := hS.trans (gg.mono hS.size)
      refine hK _ _ ⟨hS, ?_⟩
      clear hK K gg
      try simp only [Act.put, List.setIfInBounds_toArray, List.set_cons_zero, List.set_cons_succ]
      refine gs_take (i := 3) (d := (some 27)) (v := ?_) rfl rfl (by kernel_rfl) (fun _ _ _ h => h) (by rfl) hS (fun w' hb' => ?_) ?_
      rotate_left
      · (try go_simp); (try with_reducible rfl)
      try simp only [Act.put, List.setIfInBounds_toArray, List.set_cons_zero, List.set_cons_succ]
      refine gs_take (i := 4) (d := (some 31)) (v := ?_) rfl rfl (by kernel_rfl) (fun _ _ _ h => h) (by rfl) hS (fun w' hb' => ?_) ?_
      rotate_left
      · (try go_simp); (try with_reducible rfl)
      try simp only [Act.put, List.setIfInBounds_toArray, List.set_cons_zero, List.set_cons_succ]
      refine gs_take (i := 5) (d := (some 32)) (v := ?_) rfl rfl (by kernel_rfl) (fun _ _ _ h => h) (by rfl) hS (fun w' hb' => ?_) ?_
      rotate_left
      · (try go_simp); (try with_reducible rfl)
      try simp only [Act.put, List.setIfInBounds_toArray, List.set_cons_zero, List.set_cons_succ]
      refine gs_run (i := 7) rfl (by kernel_rfl) (by rfl) (fun K hK => ?_)
      obtain ⟨c0, c1, c2⟩ := cells3 hz
      have cf := frozen3 hz
      have hl := lt_of_block hz
      go_simp
      refine hK _ _ ⟨((hS.setCell (p := ⟨W0.heap.size, 0, none⟩) hnb _).setCell (p := ⟨W0.heap.size, 1, none⟩) hnb _).setCell (p := ⟨W0.heap.size, 2, none⟩) hnb _, ?_⟩
      have hS := ((hS.setCell (p := ⟨W0.heap.size, 0, none⟩) hnb (.int .i64 0)).setCell (p := ⟨W0.heap.size, 1, none⟩) hnb (.int .i64 0)).setCell (p := ⟨W0.heap.size, 2, none⟩) hnb (.string (str []))
      clear hK K c0 c1 c2 cf hl
      try simp only [Act.put, List.setIfInBounds_toArray, List.set_cons_zero, List.set_cons_succ]
      refine gs_take (i := 8) (d := (some 6)) (v := ?_) rfl rfl (by kernel_rfl) (fun _ _ _ h => h) (by rfl) hS (fun w' hb' => ?_) ?_
      rotate_left
      · (try go_simp); (try with_reducible rfl)
      try simp only [Act.put, List.setIfInBounds_toArray, List.set_cons_zero, List.set_cons_succ]
      refine gs_done (by kernel_rfl) ?_
      have qa := (hS.block _ (lt_of_block qa)).trans qa
      have bel := chain bel hS
      go_wp2_with fail
      go_meet
      exact ⟨rfl, qa, bel⟩
  case rest =>
    obtain ⟨rfl, qa, bel⟩ := hcut
    clear qx zX
    obtain ⟨qac0, qac1, qac2⟩ := cells3 qa
    have qal := lt_of_block qa
    go_wp2_with fail
    refine (I (-7) _).mono ?_
    rintro e w5 ⟨rfl, g⟩
    clear qac0 qac1 qac2 qal
    replace qa := (g.block _ (lt_of_block qa)).trans qa
    replace bel := chain bel g
    clear g
    obtain ⟨qac0, qac1, qac2⟩ := cells3 qa
    have qal := lt_of_block qa
    go_wp2_with fail
    refine (I 2 _).mono ?_
    rintro e w6 ⟨rfl, g⟩
    clear qac0 qac1 qac2 qal
    replace qa := (g.block _ (lt_of_block qa)).trans qa
    replace bel := chain bel g
    clear g
    obtain ⟨qac0, qac1, qac2⟩ := cells3 qa
    have qal := lt_of_block qa
    go_wp2_with fail
    refine (D1 _).mono ?_
    rintro e w7 ⟨rfl, g⟩
    clear qac0 qac1 qac2 qal
    replace qa := (g.block _ (lt_of_block qa)).trans qa
    replace bel := chain bel g
    clear g
    obtain ⟨qac0, qac1, qac2⟩ := cells3 qa
    have qal := lt_of_block qa
    clear qac0 qac1 qac2 qal
    replace qa := (heap_alloc_old w7 (.cells #[.int .i64 (2), .int .i64 (-3), .string (str [])] 30) (lt_of_block qa)).trans qa
    have qb := heap_alloc_new w7 (.cells #[.int .i64 (2), .int .i64 (-3), .string (str [])] 30)
    replace bel := bel.alloc bel.size (.cells #[.int .i64 (2), .int .i64 (-3), .string (str [])] 30)
    obtain ⟨qac0, qac1, qac2⟩ := cells3 qa
    have qal := lt_of_block qa
    obtain ⟨qbc0, qbc1, qbc2⟩ := cells3 qb
    have qbl := lt_of_block qb
    go_wp2_with fail
    refine (I (-7) _).mono ?_
    rintro e w8 ⟨rfl, g⟩
    clear qac0 qac1 qac2 qal
    replace qa := (g.block _ (lt_of_block qa)).trans qa
    clear qbc0 qbc1 qbc2 qbl
    replace qb := (g.block _ (lt_of_block qb)).trans qb
    replace bel := chain bel g
    clear g
    obtain ⟨qac0, qac1, qac2⟩ := cells3 qa
    have qal := lt_of_block qa
    obtain ⟨qbc0, qbc1, qbc2⟩ := cells3 qb
    have qbl := lt_of_block qb
    go_wp2_with fail
    refine (I 2 _).mono ?_
    rintro e w9 ⟨rfl, g⟩
    clear qac0 qac1 qac2 qal
    replace qa := (g.block _ (lt_of_block qa)).trans qa
    clear qbc0 qbc1 qbc2 qbl
    replace qb := (g.block _ (lt_of_block qb)).trans qb
    replace bel := chain bel g
    clear g
    obtain ⟨qac0, qac1, qac2⟩ := cells3 qa
    have qal := lt_of_block qa
    obtain ⟨qbc0, qbc1, qbc2⟩ := cells3 qb
    have qbl := lt_of_block qb
    go_wp2_with fail
    refine (M1 _).mono ?_
    rintro e w10 ⟨rfl, g⟩
    clear qac0 qac1 qac2 qal
    replace qa := (g.block _ (lt_of_block qa)).trans qa
    clear qbc0 qbc1 qbc2 qbl
    replace qb := (g.block _ (lt_of_block qb)).trans qb
    replace bel := chain bel g
    clear g
    obtain ⟨qac0, qac1, qac2⟩ := cells3 qa
    have qal := lt_of_block qa
    obtain ⟨qbc0, qbc1, qbc2⟩ := cells3 qb
    have qbl := lt_of_block qb
    clear qac0 qac1 qac2 qal
    replace qa := (heap_alloc_old w10 (.cells #[.int .i64 (2), .int .i64 (-1), .string (str [])] 30) (lt_of_block qa)).trans qa
    clear qbc0 qbc1 qbc2 qbl
    replace qb := (heap_alloc_old w10 (.cells #[.int .i64 (2), .int .i64 (-1), .string (str [])] 30) (lt_of_block qb)).trans qb
    have qc := heap_alloc_new w10 (.cells #[.int .i64 (2), .int .i64 (-1), .string (str [])] 30)
    replace bel := bel.alloc bel.size (.cells #[.int .i64 (2), .int .i64 (-1), .string (str [])] 30)
    obtain ⟨qac0, qac1, qac2⟩ := cells3 qa
    have qal := lt_of_block qa
    obtain ⟨qbc0, qbc1, qbc2⟩ := cells3 qb
    have qbl := lt_of_block qb
    obtain ⟨qcc0, qcc1, qcc2⟩ := cells3 qc
    have qcl := lt_of_block qc
    go_wp2_with fail
    refine (N _).mono ?_
    rintro e w11 ⟨rfl, g⟩
    clear qac0 qac1 qac2 qal
    replace qa := (g.block _ (lt_of_block qa)).trans qa
    clear qbc0 qbc1 qbc2 qbl
    replace qb := (g.block _ (lt_of_block qb)).trans qb
    clear qcc0 qcc1 qcc2 qcl
    replace qc := (g.block _ (lt_of_block qc)).trans qc
    replace bel := chain bel g
    clear g
    obtain ⟨qac0, qac1, qac2⟩ := cells3 qa
    have qal := lt_of_block qa
    obtain ⟨qbc0, qbc1, qbc2⟩ := cells3 qb
    have qbl := lt_of_block qb
    obtain ⟨qcc0, qcc1, qcc2⟩ := cells3 qc
    have qcl := lt_of_block qc
    go_wp2_with fail
    refine (I 0 _).mono ?_
    rintro e w12 ⟨rfl, g⟩
    clear qac0 qac1 qac2 qal
    replace qa := (g.block _ (lt_of_block qa)).trans qa
    clear qbc0 qbc1 qbc2 qbl
    replace qb := (g.block _ (lt_of_block qb)).trans qb
    clear qcc0 qcc1 qcc2 qcl
    replace qc := (g.block _ (lt_of_block qc)).trans qc
    replace bel := chain bel g
    clear g
    obtain ⟨qac0, qac1, qac2⟩ := cells3 qa
    have qal := lt_of_block qa
    obtain ⟨qbc0, qbc1, qbc2⟩ := cells3 qb
    have qbl := lt_of_block qb
    obtain ⟨qcc0, qcc1, qcc2⟩ := cells3 qc
    have qcl := lt_of_block qc
    go_wp2_with fail
    refine (C1 _).mono ?_
    rintro e w13 ⟨rfl, g⟩
    clear qac0 qac1 qac2 qal
    replace qa := (g.block _ (lt_of_block qa)).trans qa
    clear qbc0 qbc1 qbc2 qbl
    replace qb := (g.block _ (lt_of_block qb)).trans qb
    clear qcc0 qcc1 qcc2 qcl
    replace qc := (g.block _ (lt_of_block qc)).trans qc
    replace bel := chain bel g
    clear g
    obtain ⟨qac0, qac1, qac2⟩ := cells3 qa
    have qal := lt_of_block qa
    obtain ⟨qbc0, qbc1, qbc2⟩ := cells3 qb
    have qbl := lt_of_block qb
    obtain ⟨qcc0, qcc1, qcc2⟩ := cells3 qc
    have qcl := lt_of_block qc
    clear qac0 qac1 qac2 qal
    replace qa := (heap_alloc_old w13 (.cells #[.int .i64 (1), .int .i64 (0), .string (str [])] 30) (lt_of_block qa)).trans qa
    clear qbc0 qbc1 qbc2 qbl
    replace qb := (heap_alloc_old w13 (.cells #[.int .i64 (1), .int .i64 (0), .string (str [])] 30) (lt_of_block qb)).trans qb
    clear qcc0 qcc1 qcc2 qcl
    replace qc := (heap_alloc_old w13 (.cells #[.int .i64 (1), .int .i64 (0), .string (str [])] 30) (lt_of_block qc)).trans qc
    have qd := heap_alloc_new w13 (.cells #[.int .i64 (1), .int .i64 (0), .string (str [])] 30)
    replace bel := bel.alloc bel.size (.cells #[.int .i64 (1), .int .i64 (0), .string (str [])] 30)
    obtain ⟨qac0, qac1, qac2⟩ := cells3 qa
    have qal := lt_of_block qa
    obtain ⟨qbc0, qbc1, qbc2⟩ := cells3 qb
    have qbl := lt_of_block qb
    obtain ⟨qcc0, qcc1, qcc2⟩ := cells3 qc
    have qcl := lt_of_block qc
    obtain ⟨qdc0, qdc1, qdc2⟩ := cells3 qd
    have qdl := lt_of_block qd
    go_wp2_with fail
    refine (N _).mono ?_
    rintro e w14 ⟨rfl, g⟩
    clear qac0 qac1 qac2 qal
    replace qa := (g.block _ (lt_of_block qa)).trans qa
    clear qbc0 qbc1 qbc2 qbl
    replace qb := (g.block _ (lt_of_block qb)).trans qb
    clear qcc0 qcc1 qcc2 qcl
    replace qc := (g.block _ (lt_of_block qc)).trans qc
    clear qdc0 qdc1 qdc2 qdl
    replace qd := (g.block _ (lt_of_block qd)).trans qd
    replace bel := chain bel g
    clear g
    obtain ⟨qac0, qac1, qac2⟩ := cells3 qa
    have qal := lt_of_block qa
    obtain ⟨qbc0, qbc1, qbc2⟩ := cells3 qb
    have qbl := lt_of_block qb
    obtain ⟨qcc0, qcc1, qcc2⟩ := cells3 qc
    have qcl := lt_of_block qc
    obtain ⟨qdc0, qdc1, qdc2⟩ := cells3 qd
    have qdl := lt_of_block qd
    go_wp2_with fail
    refine (I 0 _).mono ?_
    rintro e w15 ⟨rfl, g⟩
    clear qac0 qac1 qac2 qal
    replace qa := (g.block _ (lt_of_block qa)).trans qa
    clear qbc0 qbc1 qbc2 qbl
    replace qb := (g.block _ (lt_of_block qb)).trans qb
    clear qcc0 qcc1 qcc2 qcl
    replace qc := (g.block _ (lt_of_block qc)).trans qc
    clear qdc0 qdc1 qdc2 qdl
    replace qd := (g.block _ (lt_of_block qd)).trans qd
    replace bel := chain bel g
    clear g
    obtain ⟨qac0, qac1, qac2⟩ := cells3 qa
    have qal := lt_of_block qa
    obtain ⟨qbc0, qbc1, qbc2⟩ := cells3 qb
    have qbl := lt_of_block qb
    obtain ⟨qcc0, qcc1, qcc2⟩ := cells3 qc
    have qcl := lt_of_block qc
    obtain ⟨qdc0, qdc1, qdc2⟩ := cells3 qd
    have qdl := lt_of_block qd
    go_wp2_with fail
    refine (C2 _).mono ?_
    rintro e w16 ⟨rfl, g⟩
    clear qac0 qac1 qac2 qal
    replace qa := (g.block _ (lt_of_block qa)).trans qa
    clear qbc0 qbc1 qbc2 qbl
    replace qb := (g.block _ (lt_of_block qb)).trans qb
    clear qcc0 qcc1 qcc2 qcl
    replace qc := (g.block _ (lt_of_block qc)).trans qc
    clear qdc0 qdc1 qdc2 qdl
    replace qd := (g.block _ (lt_of_block qd)).trans qd
    replace bel := chain bel g
    clear g
    obtain ⟨qac0, qac1, qac2⟩ := cells3 qa
    have qal := lt_of_block qa
    obtain ⟨qbc0, qbc1, qbc2⟩ := cells3 qb
    have qbl := lt_of_block qb
    obtain ⟨qcc0, qcc1, qcc2⟩ := cells3 qc
    have qcl := lt_of_block qc
    obtain ⟨qdc0, qdc1, qdc2⟩ := cells3 qd
    have qdl := lt_of_block qd
    clear qac0 qac1 qac2 qal
    replace qa := (heap_alloc_old w16 (.cells #[.int .i64 (0), .int .i64 (0), .string (str [])] 30) (lt_of_block qa)).trans qa
    clear qbc0 qbc1 qbc2 qbl
    replace qb := (heap_alloc_old w16 (.cells #[.int .i64 (0), .int .i64 (0), .string (str [])] 30) (lt_of_block qb)).trans qb
    clear qcc0 qcc1 qcc2 qcl
    replace qc := (heap_alloc_old w16 (.cells #[.int .i64 (0), .int .i64 (0), .string (str [])] 30) (lt_of_block qc)).trans qc
    clear qdc0 qdc1 qdc2 qdl
    replace qd := (heap_alloc_old w16 (.cells #[.int .i64 (0), .int .i64 (0), .string (str [])] 30) (lt_of_block qd)).trans qd
    have qe := heap_alloc_new w16 (.cells #[.int .i64 (0), .int .i64 (0), .string (str [])] 30)
    replace bel := bel.alloc bel.size (.cells #[.int .i64 (0), .int .i64 (0), .string (str [])] 30)
    obtain ⟨qac0, qac1, qac2⟩ := cells3 qa
    have qal := lt_of_block qa
    obtain ⟨qbc0, qbc1, qbc2⟩ := cells3 qb
    have qbl := lt_of_block qb
    obtain ⟨qcc0, qcc1, qcc2⟩ := cells3 qc
    have qcl := lt_of_block qc
    obtain ⟨qdc0, qdc1, qdc2⟩ := cells3 qd
    have qdl := lt_of_block qd
    obtain ⟨qec0, qec1, qec2⟩ := cells3 qe
    have qel := lt_of_block qe
    clear qe qel qec0 qec1 qec2
    go_wp2_with fail
    refine (T2 _).mono ?_
    rintro e w17 ⟨rfl, g⟩
    clear qac0 qac1 qac2 qal
    replace qa := (g.block _ (lt_of_block qa)).trans qa
    clear qbc0 qbc1 qbc2 qbl
    replace qb := (g.block _ (lt_of_block qb)).trans qb
    clear qcc0 qcc1 qcc2 qcl
    replace qc := (g.block _ (lt_of_block qc)).trans qc
    clear qdc0 qdc1 qdc2 qdl
    replace qd := (g.block _ (lt_of_block qd)).trans qd
    replace bel := chain bel g
    clear g
    obtain ⟨qac0, qac1, qac2⟩ := cells3 qa
    have qal := lt_of_block qa
    obtain ⟨qbc0, qbc1, qbc2⟩ := cells3 qb
    have qbl := lt_of_block qb
    obtain ⟨qcc0, qcc1, qcc2⟩ := cells3 qc
    have qcl := lt_of_block qc
    obtain ⟨qdc0, qdc1, qdc2⟩ := cells3 qd
    have qdl := lt_of_block qd
    clear qac0 qac1 qac2 qal
    replace qa := (heap_alloc_old w17 (.cells #[.int .i64 (3), .int .i64 (0), .string (str [97, 98])] 30) (lt_of_block qa)).trans qa
    clear qbc0 qbc1 qbc2 qbl
    replace qb := (heap_alloc_old w17 (.cells #[.int .i64 (3), .int .i64 (0), .string (str [97, 98])] 30) (lt_of_block qb)).trans qb
    clear qcc0 qcc1 qcc2 qcl
    replace qc := (heap_alloc_old w17 (.cells #[.int .i64 (3), .int .i64 (0), .string (str [97, 98])] 30) (lt_of_block qc)).trans qc
    clear qdc0 qdc1 qdc2 qdl
    replace qd := (heap_alloc_old w17 (.cells #[.int .i64 (3), .int .i64 (0), .string (str [97, 98])] 30) (lt_of_block qd)).trans qd
    have qf := heap_alloc_new w17 (.cells #[.int .i64 (3), .int .i64 (0), .string (str [97, 98])] 30)
    replace bel := bel.alloc bel.size (.cells #[.int .i64 (3), .int .i64 (0), .string (str [97, 98])] 30)
    obtain ⟨qac0, qac1, qac2⟩ := cells3 qa
    have qal := lt_of_block qa
    obtain ⟨qbc0, qbc1, qbc2⟩ := cells3 qb
    have qbl := lt_of_block qb
    obtain ⟨qcc0, qcc1, qcc2⟩ := cells3 qc
    have qcl := lt_of_block qc
    obtain ⟨qdc0, qdc1, qdc2⟩ := cells3 qd
    have qdl := lt_of_block qd
    obtain ⟨qfc0, qfc1, qfc2⟩ := cells3 qf
    have qfl := lt_of_block qf
    go_wp2_with fail
    clear qac0 qac1 qac2 qal
    clear qbc0 qbc1 qbc2 qbl
    clear qcc0 qcc1 qcc2 qcl
    clear qdc0 qdc1 qdc2 qdl
    clear qfc0 qfc1 qfc2 qfl
    clear I A1 A2 D1 M1 T1 T2 N C1 C2
    have bel := below_drewN (k := 1) bel
    refine g_start (by kernel_rfl) ?_
    refine g_take (i := 0) (d := (some 61)) (v := ?_) rfl rfl (by kernel_rfl) (fun _ _ _ h => h) (by rfl) (fun w' hb' => ?_) ?_
    rotate_left
    · have zz := (hb'.block _ (lt_of_block qa)).trans qa; obtain ⟨c0, c1, c2⟩ := cells3 zz; (try go_simp); (try with_reducible rfl)
    try simp only [Act.put, List.setIfInBounds_toArray, List.set_cons_zero, List.set_cons_succ]
    refine g_run (i := 1) rfl (by kernel_rfl) (by rfl) (fun K hK => ?_)
    go_simp
    refine (refInt_any 5 _).mono ?_
    rintro e x1 ⟨rfl, gg⟩
    have qa := (gg.block _ (lt_of_block qa)).trans qa
    have qb := (gg.block _ (lt_of_block qb)).trans qb
    have qc := (gg.block _ (lt_of_block qc)).trans qc
    have qd := (gg.block _ (lt_of_block qd)).trans qd
    have qf := (gg.block _ (lt_of_block qf)).trans qf
    have bel := chain bel gg
    refine hK _ _ ⟨gg, ?_⟩
    clear hK K gg
    try simp only [Act.put, List.setIfInBounds_toArray, List.set_cons_zero, List.set_cons_succ]
    refine g_take (i := 2) (d := (some 63)) (v := ?_) rfl rfl (by kernel_rfl) (fun _ _ _ h => h) (by rfl) (fun w' hb' => ?_) ?_
    rotate_left
    · (refine val_eq_op _ _ (.tmp 61) (.tmp 62) 30 2 5 [] ?_ ?_ ?_ w' <;> rfl); (try go_simp); (try with_reducible rfl)
    try simp only [Act.put, List.setIfInBounds_toArray, List.set_cons_zero, List.set_cons_succ]
    refine g_take (i := 3) (d := (some 64)) (v := ?_) rfl rfl (by kernel_rfl) (fun _ _ _ h => h) (by rfl) (fun w' hb' => ?_) ?_
    rotate_left
    · (try go_simp); (try with_reducible rfl)
    try simp only [Act.put, List.setIfInBounds_toArray, List.set_cons_zero, List.set_cons_succ]
    refine g_take (i := 4) (d := (some 65)) (v := ?_) rfl rfl (by kernel_rfl) (fun _ _ _ h => h) (by rfl) (fun w' hb' => ?_) ?_
    rotate_left
    · (try go_simp); (try with_reducible rfl)
    try simp only [Act.put, List.setIfInBounds_toArray, List.set_cons_zero, List.set_cons_succ]
    refine g_take (i := 5) (d := (some 66)) (v := ?_) rfl rfl (by kernel_rfl) (fun _ _ _ h => h) (by rfl) (fun w' hb' => ?_) ?_
    rotate_left
    · (try go_simp); (try with_reducible rfl)
    try simp only [Act.put, List.setIfInBounds_toArray, List.set_cons_zero, List.set_cons_succ]
    refine g_take (i := 6) (d := (some 67)) (v := ?_) rfl rfl (by kernel_rfl) (fun _ _ _ h => h) (by rfl) (fun w' hb' => ?_) ?_
    rotate_left
    · (try go_simp); (try with_reducible rfl)
    try simp only [Act.put, List.setIfInBounds_toArray, List.set_cons_zero, List.set_cons_succ]
    refine g_take (i := 7) (d := (some 68)) (v := ?_) rfl rfl (by kernel_rfl) (fun _ _ _ h => h) (by rfl) (fun w' hb' => ?_) ?_
    rotate_left
    · (try go_simp); (try with_reducible rfl)
    try simp only [Act.put, List.setIfInBounds_toArray, List.set_cons_zero, List.set_cons_succ]
    refine g_take (i := 8) (d := (some 69)) (v := ?_) rfl rfl (by kernel_rfl) (fun _ _ _ h => h) (by rfl) (fun w' hb' => ?_) ?_
    rotate_left
    · (try go_simp); (try with_reducible rfl)
    try simp only [Act.put, List.setIfInBounds_toArray, List.set_cons_zero, List.set_cons_succ]
    refine g_take (i := 9) (d := (some 70)) (v := ?_) rfl rfl (by kernel_rfl) (fun _ _ _ h => h) (by rfl) (fun w' hb' => ?_) ?_
    rotate_left
    · (try go_simp); (try with_reducible rfl)
    try simp only [Act.put, List.setIfInBounds_toArray, List.set_cons_zero, List.set_cons_succ]
    refine g_take (i := 10) (d := (some 71)) (v := ?_) rfl rfl (by kernel_rfl) (fun _ _ _ h => h) (by rfl) (fun w' hb' => ?_) ?_
    rotate_left
    · (try go_simp); (try with_reducible rfl)
    try simp only [Act.put, List.setIfInBounds_toArray, List.set_cons_zero, List.set_cons_succ]
    refine g_take (i := 11) (d := (some 72)) (v := ?_) rfl rfl (by kernel_rfl) (fun _ _ _ h => h) (by rfl) (fun w' hb' => ?_) ?_
    rotate_left
    · (try go_simp); (try with_reducible rfl)
    try simp only [Act.put, List.setIfInBounds_toArray, List.set_cons_zero, List.set_cons_succ]
    refine g_take (i := 12) (d := (some 73)) (v := ?_) rfl rfl (by kernel_rfl) (fun _ _ _ h => h) (by rfl) (fun w' hb' => ?_) ?_
    rotate_left
    · have zz := (hb'.block _ (lt_of_block qb)).trans qb; obtain ⟨c0, c1, c2⟩ := cells3 zz; (try go_simp); (try with_reducible rfl)
    try simp only [Act.put, List.setIfInBounds_toArray, List.set_cons_zero, List.set_cons_succ]
    refine g_run (i := 13) rfl (by kernel_rfl) (by rfl) (fun K hK => ?_)
    go_simp
    refine (refInt_any (-3) _).mono ?_
    rintro e x2 ⟨rfl, gg⟩
    have qa := (gg.block _ (lt_of_block qa)).trans qa
    have qb := (gg.block _ (lt_of_block qb)).trans qb
    have qc := (gg.block _ (lt_of_block qc)).trans qc
    have qd := (gg.block _ (lt_of_block qd)).trans qd
    have qf := (gg.block _ (lt_of_block qf)).trans qf
    have bel := chain bel gg
    refine hK _ _ ⟨gg, ?_⟩
    clear hK K gg
    try simp only [Act.put, List.setIfInBounds_toArray, List.set_cons_zero, List.set_cons_succ]
    refine g_take (i := 14) (d := (some 75)) (v := ?_) rfl rfl (by kernel_rfl) (fun _ _ _ h => h) (by rfl) (fun w' hb' => ?_) ?_
    rotate_left
    · (refine val_eq_op _ _ (.tmp 73) (.tmp 74) 30 2 (-3) [] ?_ ?_ ?_ w' <;> rfl); (try go_simp); (try with_reducible rfl)
    try simp only [Act.put, List.setIfInBounds_toArray, List.set_cons_zero, List.set_cons_succ]
    refine g_take (i := 15) (d := (some 76)) (v := ?_) rfl rfl (by kernel_rfl) (fun _ _ _ h => h) (by rfl) (fun w' hb' => ?_) ?_
    rotate_left
    · (try go_simp); (try with_reducible rfl)
    try simp only [Act.put, List.setIfInBounds_toArray, List.set_cons_zero, List.set_cons_succ]
    refine g_take (i := 16) (d := (some 77)) (v := ?_) rfl rfl (by kernel_rfl) (fun _ _ _ h => h) (by rfl) (fun w' hb' => ?_) ?_
    rotate_left
    · (try go_simp); (try with_reducible rfl)
    try simp only [Act.put, List.setIfInBounds_toArray, List.set_cons_zero, List.set_cons_succ]
    refine g_take (i := 17) (d := (some 78)) (v := ?_) rfl rfl (by kernel_rfl) (fun _ _ _ h => h) (by rfl) (fun w' hb' => ?_) ?_
    rotate_left
    · have zz := (hb'.block _ (lt_of_block qc)).trans qc; obtain ⟨c0, c1, c2⟩ := cells3 zz; (try go_simp); (try with_reducible rfl)
    try simp only [Act.put, List.setIfInBounds_toArray, List.set_cons_zero, List.set_cons_succ]
    refine g_run (i := 18) rfl (by kernel_rfl) (by rfl) (fun K hK => ?_)
    go_simp
    refine (refInt_any (-1) _).mono ?_
    rintro e x3 ⟨rfl, gg⟩
    have qa := (gg.block _ (lt_of_block qa)).trans qa
    have qb := (gg.block _ (lt_of_block qb)).trans qb
    have qc := (gg.block _ (lt_of_block qc)).trans qc
    have qd := (gg.block _ (lt_of_block qd)).trans qd
    have qf := (gg.block _ (lt_of_block qf)).trans qf
    have bel := chain bel gg
    refine hK _ _ ⟨gg, ?_⟩
    clear hK K gg
    try simp only [Act.put, List.setIfInBounds_toArray, List.set_cons_zero, List.set_cons_succ]
    refine g_take (i := 19) (d := (some 80)) (v := ?_) rfl rfl (by kernel_rfl) (fun _ _ _ h => h) (by rfl) (fun w' hb' => ?_) ?_
    rotate_left
    · (refine val_eq_op _ _ (.tmp 78) (.tmp 79) 30 2 (-1) [] ?_ ?_ ?_ w' <;> rfl); (try go_simp); (try with_reducible rfl)
    try simp only [Act.put, List.setIfInBounds_toArray, List.set_cons_zero, List.set_cons_succ]
    refine g_take (i := 20) (d := (some 81)) (v := ?_) rfl rfl (by kernel_rfl) (fun _ _ _ h => h) (by rfl) (fun w' hb' => ?_) ?_
    rotate_left
    · (try go_simp); (try with_reducible rfl)
    try simp only [Act.put, List.setIfInBounds_toArray, List.set_cons_zero, List.set_cons_succ]
    refine g_take (i := 21) (d := (some 82)) (v := ?_) rfl rfl (by kernel_rfl) (fun _ _ _ h => h) (by rfl) (fun w' hb' => ?_) ?_
    rotate_left
    · (try go_simp); (try with_reducible rfl)
    try simp only [Act.put, List.setIfInBounds_toArray, List.set_cons_zero, List.set_cons_succ]
    refine g_take (i := 22) (d := (some 83)) (v := ?_) rfl rfl (by kernel_rfl) (fun _ _ _ h => h) (by rfl) (fun w' hb' => ?_) ?_
    rotate_left
    · have zz := (hb'.block _ (lt_of_block qd)).trans qd; obtain ⟨c0, c1, c2⟩ := cells3 zz; (try go_simp); (try with_reducible rfl)
    try simp only [Act.put, List.setIfInBounds_toArray, List.set_cons_zero, List.set_cons_succ]
    refine g_run (i := 23) rfl (by kernel_rfl) (by rfl) (fun K hK => ?_)
    go_simp
    refine (refBool_any false _).mono ?_
    rintro e x4 ⟨rfl, gg⟩
    have qa := (gg.block _ (lt_of_block qa)).trans qa
    have qb := (gg.block _ (lt_of_block qb)).trans qb
    have qc := (gg.block _ (lt_of_block qc)).trans qc
    have qd := (gg.block _ (lt_of_block qd)).trans qd
    have qf := (gg.block _ (lt_of_block qf)).trans qf
    have bel := chain bel gg
    refine hK _ _ ⟨gg, ?_⟩
    clear hK K gg
    try simp only [Act.put, List.setIfInBounds_toArray, List.set_cons_zero, List.set_cons_succ]
    refine g_take (i := 24) (d := (some 85)) (v := ?_) rfl rfl (by kernel_rfl) (fun _ _ _ h => h) (by rfl) (fun w' hb' => ?_) ?_
    rotate_left
    · (refine val_eq_op _ _ (.tmp 83) (.tmp 84) 30 1 0 [] ?_ ?_ ?_ w' <;> rfl); (try go_simp); (try with_reducible rfl)
    try simp only [Act.put, List.setIfInBounds_toArray, List.set_cons_zero, List.set_cons_succ]
    refine g_take (i := 25) (d := (some 86)) (v := ?_) rfl rfl (by kernel_rfl) (fun _ _ _ h => h) (by rfl) (fun w' hb' => ?_) ?_
    rotate_left
    · (try go_simp); (try with_reducible rfl)
    try simp only [Act.put, List.setIfInBounds_toArray, List.set_cons_zero, List.set_cons_succ]
    refine g_take (i := 26) (d := (some 87)) (v := ?_) rfl rfl (by kernel_rfl) (fun _ _ _ h => h) (by rfl) (fun w' hb' => ?_) ?_
    rotate_left
    · (try go_simp); (try with_reducible rfl)
    try simp only [Act.put, List.setIfInBounds_toArray, List.set_cons_zero, List.set_cons_succ]
    refine g_take (i := 27) (d := (some 88)) (v := ?_) rfl rfl (by kernel_rfl) (fun _ _ _ h => h) (by rfl) (fun w' hb' => ?_) ?_
    rotate_left
    · (try go_simp); (try with_reducible rfl)
    try simp only [Act.put, List.setIfInBounds_toArray, List.set_cons_zero, List.set_cons_succ]
    refine g_take (i := 28) (d := (some 89)) (v := ?_) rfl rfl (by kernel_rfl) (fun _ _ _ h => h) (by rfl) (fun w' hb' => ?_) ?_
    rotate_left
    · (try go_simp); (try with_reducible rfl)
    try simp only [Act.put, List.setIfInBounds_toArray, List.set_cons_zero, List.set_cons_succ]
    refine g_take (i := 29) (d := (some 90)) (v := ?_) rfl rfl (by kernel_rfl) (fun _ _ _ h => h) (by rfl) (fun w' hb' => ?_) ?_
    rotate_left
    · (try go_simp); (try with_reducible rfl)
    try simp only [Act.put, List.setIfInBounds_toArray, List.set_cons_zero, List.set_cons_succ]
    refine g_take (i := 30) (d := (some 91)) (v := ?_) rfl rfl (by kernel_rfl) (fun _ _ _ h => h) (by rfl) (fun w' hb' => ?_) ?_
    rotate_left
    · (try go_simp); (try with_reducible rfl)
    try simp only [Act.put, List.setIfInBounds_toArray, List.set_cons_zero, List.set_cons_succ]
    refine g_take (i := 31) (d := (some 92)) (v := ?_) rfl rfl (by kernel_rfl) (fun _ _ _ h => h) (by rfl) (fun w' hb' => ?_) ?_
    rotate_left
    · (try go_simp); (try with_reducible rfl)
    try simp only [Act.put, List.setIfInBounds_toArray, List.set_cons_zero, List.set_cons_succ]
    refine g_take (i := 32) (d := (some 93)) (v := ?_) rfl rfl (by kernel_rfl) (fun _ _ _ h => h) (by rfl) (fun w' hb' => ?_) ?_
    rotate_left
    · (try go_simp); (try with_reducible rfl)
    try simp only [Act.put, List.setIfInBounds_toArray, List.set_cons_zero, List.set_cons_succ]
    refine g_take (i := 33) (d := (some 94)) (v := ?_) rfl rfl (by kernel_rfl) (fun _ _ _ h => h) (by rfl) (fun w' hb' => ?_) ?_
    rotate_left
    · (try go_simp); (try with_reducible rfl)
    try simp only [Act.put, List.setIfInBounds_toArray, List.set_cons_zero, List.set_cons_succ]
    refine g_take (i := 34) (d := (some 95)) (v := ?_) rfl rfl (by kernel_rfl) (fun _ _ _ h => h) (by rfl) (fun w' hb' => ?_) ?_
    rotate_left
    · (try go_simp); (try with_reducible rfl)
    try simp only [Act.put, List.setIfInBounds_toArray, List.set_cons_zero, List.set_cons_succ]
    refine g_run (i := 35) rfl (by kernel_rfl) (by rfl) (fun K hK => ?_)
    go_simp
    refine (int_any (-1) _).mono ?_
    rintro e x5 ⟨rfl, gg⟩
    have qa := (gg.block _ (lt_of_block qa)).trans qa
    have qb := (gg.block _ (lt_of_block qb)).trans qb
    have qc := (gg.block _ (lt_of_block qc)).trans qc
    have qd := (gg.block _ (lt_of_block qd)).trans qd
    have qf := (gg.block _ (lt_of_block qf)).trans qf
    have bel := chain bel gg
    refine hK _ _ ⟨gg, ?_⟩
    clear hK K gg
    try simp only [Act.put, List.setIfInBounds_toArray, List.set_cons_zero, List.set_cons_succ]
    refine g_run (i := 36) rfl (by kernel_rfl) (by rfl) (fun K hK => ?_)
    go_simp
    refine (encode_any 2 (-1) [] _ (by decide) ⟨by decide, by decide⟩).mono ?_
    rintro e x6 ⟨vx36, rfl, rx36, -, gg⟩
    rw [show encL ⟨2, -1, []⟩ = [2, 1] from by decide +kernel] at rx36
    have qa := (gg.block _ (lt_of_block qa)).trans qa
    have qb := (gg.block _ (lt_of_block qb)).trans qb
    have qc := (gg.block _ (lt_of_block qc)).trans qc
    have qd := (gg.block _ (lt_of_block qd)).trans qd
    have qf := (gg.block _ (lt_of_block qf)).trans qf
    have bel := chain bel gg
    refine hK _ _ ⟨gg, ?_⟩
    clear hK K gg
    try simp only [Act.put, List.setIfInBounds_toArray, List.set_cons_zero, List.set_cons_succ]
    refine g_take (i := 37) (d := (some 98)) (v := ?_) rfl rfl (by kernel_rfl) (fun _ _ _ h => h) (by rfl) (fun w' hb' => ?_) ?_
    rotate_left
    · have cc := cv (rx36.below hb' (Nat.le_refl _)); (try go_simp); (try with_reducible rfl)
    try simp only [Act.put, List.setIfInBounds_toArray, List.set_cons_zero, List.set_cons_succ]
    refine g_take (i := 38) (d := (some 99)) (v := ?_) rfl rfl (by kernel_rfl) (fun _ _ _ h => h) (by rfl) (fun w' hb' => ?_) ?_
    rotate_left
    · have e1 := str_tl [2, 1]; (try go_simp); (try with_reducible rfl)
    try simp only [Act.put, List.setIfInBounds_toArray, List.set_cons_zero, List.set_cons_succ]
    refine g_take (i := 39) (d := (some 100)) (v := ?_) rfl rfl (by kernel_rfl) (fun _ _ _ h => h) (by rfl) (fun w' hb' => ?_) ?_
    rotate_left
    · (try go_simp); (try with_reducible rfl)
    try simp only [Act.put, List.setIfInBounds_toArray, List.set_cons_zero, List.set_cons_succ]
    refine g_take (i := 40) (d := (some 101)) (v := ?_) rfl rfl (by kernel_rfl) (fun _ _ _ h => h) (by rfl) (fun w' hb' => ?_) ?_
    rotate_left
    · (try go_simp); (try with_reducible rfl)
    try simp only [Act.put, List.setIfInBounds_toArray, List.set_cons_zero, List.set_cons_succ]
    refine g_run (i := 41) rfl (by kernel_rfl) (by rfl) (fun K hK => ?_)
    go_simp
    refine (bool_any true _).mono ?_
    rintro e x7 ⟨rfl, gg⟩
    have qa := (gg.block _ (lt_of_block qa)).trans qa
    have qb := (gg.block _ (lt_of_block qb)).trans qb
    have qc := (gg.block _ (lt_of_block qc)).trans qc
    have qd := (gg.block _ (lt_of_block qd)).trans qd
    have qf := (gg.block _ (lt_of_block qf)).trans qf
    have rx36 := rx36.below gg (Nat.le_refl _)
    have bel := chain bel gg
    refine hK _ _ ⟨gg, ?_⟩
    clear hK K gg
    try simp only [Act.put, List.setIfInBounds_toArray, List.set_cons_zero, List.set_cons_succ]
    refine g_run (i := 42) rfl (by kernel_rfl) (by rfl) (fun K hK => ?_)
    go_simp
    refine (encode_any 1 1 [] _ (by decide) ⟨by decide, by decide⟩).mono ?_
    rintro e x8 ⟨vx42, rfl, rx42, -, gg⟩
    rw [show encL ⟨1, 1, []⟩ = [1, 1] from by decide +kernel] at rx42
    have qa := (gg.block _ (lt_of_block qa)).trans qa
    have qb := (gg.block _ (lt_of_block qb)).trans qb
    have qc := (gg.block _ (lt_of_block qc)).trans qc
    have qd := (gg.block _ (lt_of_block qd)).trans qd
    have qf := (gg.block _ (lt_of_block qf)).trans qf
    have rx36 := rx36.below gg (Nat.le_refl _)
    have bel := chain bel gg
    refine hK _ _ ⟨gg, ?_⟩
    clear hK K gg
    try simp only [Act.put, List.setIfInBounds_toArray, List.set_cons_zero, List.set_cons_succ]
    refine g_take (i := 43) (d := (some 104)) (v := ?_) rfl rfl (by kernel_rfl) (fun _ _ _ h => h) (by rfl) (fun w' hb' => ?_) ?_
    rotate_left
    · have cc := cv (rx42.below hb' (Nat.le_refl _)); (try go_simp); (try with_reducible rfl)
    try simp only [Act.put, List.setIfInBounds_toArray, List.set_cons_zero, List.set_cons_succ]
    refine g_take (i := 44) (d := (some 105)) (v := ?_) rfl rfl (by kernel_rfl) (fun _ _ _ h => h) (by rfl) (fun w' hb' => ?_) ?_
    rotate_left
    · have e1 := str_tl [1, 1]; (try go_simp); (try with_reducible rfl)
    try simp only [Act.put, List.setIfInBounds_toArray, List.set_cons_zero, List.set_cons_succ]
    refine g_take (i := 45) (d := (some 106)) (v := ?_) rfl rfl (by kernel_rfl) (fun _ _ _ h => h) (by rfl) (fun w' hb' => ?_) ?_
    rotate_left
    · (try go_simp); (try with_reducible rfl)
    try simp only [Act.put, List.setIfInBounds_toArray, List.set_cons_zero, List.set_cons_succ]
    refine g_take (i := 46) (d := (some 107)) (v := ?_) rfl rfl (by kernel_rfl) (fun _ _ _ h => h) (by rfl) (fun w' hb' => ?_) ?_
    rotate_left
    · (try go_simp); (try with_reducible rfl)
    try simp only [Act.put, List.setIfInBounds_toArray, List.set_cons_zero, List.set_cons_succ]
    refine g_take (i := 47) (d := (some 108)) (v := ?_) rfl rfl (by kernel_rfl) (fun _ _ _ h => h) (by rfl) (fun w' hb' => ?_) ?_
    rotate_left
    · have zz := (hb'.block _ (lt_of_block qf)).trans qf; obtain ⟨c0, c1, c2⟩ := cells3 zz; (try go_simp); (try with_reducible rfl)
    try simp only [Act.put, List.setIfInBounds_toArray, List.set_cons_zero, List.set_cons_succ]
    refine g_run (i := 48) rfl (by kernel_rfl) (by rfl) (fun K hK => ?_)
    go_simp
    refine (encode_any 3 0 [97, 98] _ (by decide) ⟨by decide, by decide⟩).mono ?_
    rintro e x9 ⟨vx48, rfl, rx48, -, gg⟩
    rw [show encL ⟨3, 0, [97, 98]⟩ = [3, 2, 97, 98] from by decide +kernel] at rx48
    have qa := (gg.block _ (lt_of_block qa)).trans qa
    have qb := (gg.block _ (lt_of_block qb)).trans qb
    have qc := (gg.block _ (lt_of_block qc)).trans qc
    have qd := (gg.block _ (lt_of_block qd)).trans qd
    have qf := (gg.block _ (lt_of_block qf)).trans qf
    have rx36 := rx36.below gg (Nat.le_refl _)
    have rx42 := rx42.below gg (Nat.le_refl _)
    have bel := chain bel gg
    refine hK _ _ ⟨gg, ?_⟩
    clear hK K gg
    try simp only [Act.put, List.setIfInBounds_toArray, List.set_cons_zero, List.set_cons_succ]
    refine g_take (i := 49) (d := (some 110)) (v := ?_) rfl rfl (by kernel_rfl) (fun _ _ _ h => h) (by rfl) (fun w' hb' => ?_) ?_
    rotate_left
    · have cc := cv (rx48.below hb' (Nat.le_refl _)); (try go_simp); (try with_reducible rfl)
    try simp only [Act.put, List.setIfInBounds_toArray, List.set_cons_zero, List.set_cons_succ]
    refine g_take (i := 50) (d := (some 111)) (v := ?_) rfl rfl (by kernel_rfl) (fun _ _ _ h => h) (by rfl) (fun w' hb' => ?_) ?_
    rotate_left
    · have e1 := str_tl [3, 2, 97, 98]; (try go_simp); (try with_reducible rfl)
    try simp only [Act.put, List.setIfInBounds_toArray, List.set_cons_zero, List.set_cons_succ]
    refine g_take (i := 51) (d := (some 112)) (v := ?_) rfl rfl (by kernel_rfl) (fun _ _ _ h => h) (by rfl) (fun w' hb' => ?_) ?_
    rotate_left
    · (try go_simp); (try with_reducible rfl)
    try simp only [Act.put, List.setIfInBounds_toArray, List.set_cons_zero, List.set_cons_succ]
    refine g_take (i := 52) (d := (some 0)) (v := ?_) rfl rfl (by kernel_rfl) (fun _ _ _ h => h) (by rfl) (fun w' hb' => ?_) ?_
    rotate_left
    · (try go_simp); (try with_reducible rfl)
    try simp only [Act.put, List.setIfInBounds_toArray, List.set_cons_zero, List.set_cons_succ]
    refine g_done (by kernel_rfl) ?_
    go_wp2_with fail
    go_ret
    exact ⟨rfl, bel⟩
end Go.Proofs.YtcehgfganjdghaaDoor.V7
