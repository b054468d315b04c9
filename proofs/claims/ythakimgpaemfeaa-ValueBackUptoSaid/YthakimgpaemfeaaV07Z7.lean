/- Values: what is encoded is cut as it was; what is cut has just these bytes; the law ValueBack. Written by wip/tools/gen7v.py. -/
import Derived.Test.YthakimgpaemfeaaV07Z8
import Derived.Test.YthakimgpaemfeaaMath01b
import Derived.Test.YthakimgpaemfeaaV07N
namespace Go.Proofs.Ythakimgpaemfeaa
open Go Go.RowKit
set_option linter.unusedVariables false
set_option linter.unusedSimpArgs false
set_option maxRecDepth 100000 in
set_option maxHeartbeats 1000000 in
theorem back_to (ka ia : Int) (sa la : List UInt8) (v : Value) (l : List UInt8) (L : List UInt8) (k i : Int) (s : List UInt8) (n : Nat) (w : World) (hR : Rd w v l)
    (FA : ∀ w, Calls Try.prog 10 #[.agg #[.int .i64 ka, .int .i64 ia, .string (str sa)]] w fun e w' => e = .returned (.agg #[.int .i64 ka, .int .i64 ia, .string (str la)]) ∧ Below w.heap.size w w')
    (RMA : ∀ w, Calls Try.prog 11 #[.agg #[.int .i64 ka, .int .i64 ia, .string (str la)]] w fun e w' => e = .returned (.bool true) ∧ Below w.heap.size w w')
    (VE : ∀ w, Calls Try.prog 35 #[.agg #[.int .i64 ka, .int .i64 ia, .string (str la)]] w (EncR w L)) (hL : 0 < L.length) (hL2 : L.length ≤ 100)
    (VC : ∀ v w, Rd w v (L ++ l) → Calls Try.prog 33 #[v] w fun e w' => e = .returned (.tuple #[.agg #[.int .i64 ka, .int .i64 ia, .string (str la)], .int .i64 (L.length : Nat), .int .i64 0]) ∧ Below w.heap.size w w')
    (VD : ∀ v w, Rd w v l → Calls Try.prog 33 #[v] w fun e w' => e = .returned (.tuple #[.agg #[.int .i64 k, .int .i64 i, .string (str s)], .int .i64 (n : Nat), .int .i64 0]) ∧ Below w.heap.size w w')
    (RMB : ∀ w, Calls Try.prog 11 #[.agg #[.int .i64 k, .int .i64 i, .string (str s)]] w fun e w' => e = .returned (.bool true) ∧ Below w.heap.size w w')
    (VF : ∀ w, Calls Try.prog 35 #[.agg #[.int .i64 k, .int .i64 i, .string (str s)]] w (EncR w (l.take n))) (hn1 : 1 ≤ n) (hn2 : n ≤ l.length)
    (hlen : l.length ≤ 1048576) :
    Calls Try.prog 7 #[.agg #[.int .i64 ka, .int .i64 ia, .string (str sa)], v] w fun e w' => e = .returned (.bool true) ∧ Below w.heap.size w w' := by
  have AW := awake_any
  obtain ⟨i0, hi, hz0, hz1, hz2⟩ := info_parts u8info
  have RB : Hid (∀ w', Below w.heap.size w w' → Rd w' v l) := Lib.hid (fun w' h => hR.below h (Nat.le_refl _))
  obtain ⟨ao, cap, rfl, hl, hm, hn, hx0⟩ := hR
  have hm2 := hm
  unfold maxLen at hm
  clear hn hx0
  have qa := heap_alloc_new w (.cells #[.int .i64 ka, .int .i64 ia, .string (str sa)] 23)
  have bel : Below w.heap.size w (w.alloc (.cells #[.int .i64 ka, .int .i64 ia, .string (str sa)] 23)) := (Below.refl _ _).alloc (Nat.le_refl _) _
  have nl : ((n : Nat) : Int) ≤ ((l.length : Nat) : Int) := by omega
  have n1 : (1 : Int) ≤ ((n : Nat) : Int) := by omega
  go_enter Try.func7, Try.ntmps7
  obtain ⟨qac0, qac1, qac2⟩ := cells3 qa
  have qal := lt_of_block qa
  go_wp2_with fail
  refine (FA _).mono ?_
  rintro e w1 ⟨rfl, g⟩
  clear qac0 qac1 qac2 qal
  replace qa := (g.block _ (lt_of_block qa)).trans qa
  replace bel := chain bel g
  clear g
  obtain ⟨qac0, qac1, qac2⟩ := cells3 qa
  have qal := lt_of_block qa
  have fz := frozen3 qa
  go_wp2_with fail
  clear fz
  clear qac0 qac1 qac2 qal
  replace qa := put3 (.int .i64 ka) (.int .i64 ia) (.string (str la)) qa
  replace bel := put3_below (B := w.heap.size) (u0 := .int .i64 ka) (u1 := .int .i64 ia) (u2 := .string (str la)) bel (by omega)
  obtain ⟨qac0, qac1, qac2⟩ := cells3 qa
  have qal := lt_of_block qa
  refine (RMA _).mono ?_
  rintro e w2 ⟨rfl, g⟩
  clear qac0 qac1 qac2 qal
  replace qa := (g.block _ (lt_of_block qa)).trans qa
  replace bel := chain bel g
  clear g
  obtain ⟨qac0, qac1, qac2⟩ := cells3 qa
  have qal := lt_of_block qa
  go_wp2_with fail
  refine (VE _).mono ?_
  rintro e w3 ⟨vE, rfl, hE, oE, g⟩
  clear qac0 qac1 qac2 qal
  replace qa := (g.block _ (lt_of_block qa)).trans qa
  replace bel := chain bel g
  clear g
  obtain ⟨qac0, qac1, qac2⟩ := cells3 qa
  have qal := lt_of_block qa
  obtain ⟨g1, cap1, rfl, hc1, hc2⟩ := slice_of_own oE hL
  clear oE
  unfold maxLen at hc2
  go_wp2_with (first
    | (at_builtin; refine wpList_app_rd w3 rfl (.tmp 19) (.tmp 20) 43 rfl w3.heap.size 5 i0 (.int .u8 0) 1 Try.underlying43 hi hz0 hz1 hz2 rfl _ 0 [] rfl (World.ownsRow_lit _ #[] 0 (Nat.le_refl _) (by decide) rfl) _ L rfl (hE.below ((Below.refl _ _).alloc (Nat.le_refl _) _) (Nat.le_refl _)) (by unfold maxLen; omega) (by omega) (Nat.le_refl _) ((Below.refl _ _).alloc (Nat.le_refl _) _) ?_; intro v1 W2 o2 B2; rw [Nat.zero_add, List.nil_append] at o2)
    | (at_builtin; refine wpList_app_rd w3 rfl (.tmp 21) (.tmp 22) 43 rfl w3.heap.size 5 i0 (.int .u8 0) 1 Try.underlying43 hi hz0 hz1 hz2 rfl _ L.length (L.map bv) rfl o2 _ l rfl (RB.out _ (chain bel B2)) (by unfold maxLen; omega) (by omega) (Nat.le_refl _) B2 ?_; intro v2 W3 o3 B3; clear o2; rw [← List.map_append] at o3; obtain ⟨g3, cap3, rfl, _, _⟩ := slice_of_own o3 (by omega); have r3 := own_rd o3; clear o3))
  clear B2 hE
  clear qac0 qac1 qac2 qal
  replace qa := (B3.block _ (lt_of_block qa)).trans qa
  replace bel := chain bel B3
  clear B3
  obtain ⟨qac0, qac1, qac2⟩ := cells3 qa
  have qal := lt_of_block qa
  refine (VC _ _ r3).mono ?_
  rintro e w4 ⟨rfl, g⟩
  clear qac0 qac1 qac2 qal
  replace qa := (g.block _ (lt_of_block qa)).trans qa
  replace bel := chain bel g
  clear g
  obtain ⟨qac0, qac1, qac2⟩ := cells3 qa
  have qal := lt_of_block qa
  clear r3
  clear qac0 qac1 qac2 qal
  replace qa := (heap_alloc_old w4 (.cells #[.int .i64 ka, .int .i64 ia, .string (str la)] 23) (lt_of_block qa)).trans qa
  have qv := heap_alloc_new w4 (.cells #[.int .i64 ka, .int .i64 ia, .string (str la)] 23)
  replace bel := bel.alloc bel.size (.cells #[.int .i64 ka, .int .i64 ia, .string (str la)] 23)
  obtain ⟨qac0, qac1, qac2⟩ := cells3 qa
  have qal := lt_of_block qa
  obtain ⟨qvc0, qvc1, qvc2⟩ := cells3 qv
  have qvl := lt_of_block qv
  go_wp2_with fail
  refine (VD _ _ (RB.out _ bel)).mono ?_
  rintro e w5 ⟨rfl, g⟩
  clear qac0 qac1 qac2 qal
  replace qa := (g.block _ (lt_of_block qa)).trans qa
  clear qvc0 qvc1 qvc2 qvl
  replace qv := (g.block _ (lt_of_block qv)).trans qv
  replace bel := chain bel g
  clear g
  obtain ⟨qac0, qac1, qac2⟩ := cells3 qa
  have qal := lt_of_block qa
  obtain ⟨qvc0, qvc1, qvc2⟩ := cells3 qv
  have qvl := lt_of_block qv
  clear qv qvl qvc0 qvc1 qvc2
  clear qa qal qac0 qac1 qac2
  have qw := heap_alloc_new w5 (.cells #[.int .i64 k, .int .i64 i, .string (str s)] 23)
  replace bel := bel.alloc bel.size (.cells #[.int .i64 k, .int .i64 i, .string (str s)] 23)
  obtain ⟨qwc0, qwc1, qwc2⟩ := cells3 qw
  have qwl := lt_of_block qw
  go_wp2_with fail
  clear qwc0 qwc1 qwc2 qwl
  obtain ⟨W1, hW1⟩ : ∃ W1, W1 = World.alloc w5 (.cells #[.int .i64 k, .int .i64 i, .string (str s)] 23) := ⟨_, rfl⟩
  rw [← hW1] at qw bel ⊢
  clear hW1
  have bel := below_drewN (k := 1) bel
  have RC := Lib.hid (fun w' h => rd_slV (RB.out w' h) n hn2 hl)
  refine g_start (by kernel_rfl) ?_
  refine g_take (i := 0) (d := (some 59)) (v := ?_) rfl rfl (by kernel_rfl) (fun _ _ _ h => h) (by rfl) (fun w' hb' => ?_) ?_
  rotate_left
  · have zz := (hb'.block _ (lt_of_block qw)).trans qw; obtain ⟨c0, c1, c2⟩ := cells3 zz; (try go_simp); (try with_reducible rfl)
  try simp only [Act.put, List.setIfInBounds_toArray, List.set_cons_zero, List.set_cons_succ]
  refine g_run (i := 1) rfl (by kernel_rfl) (by rfl) (fun K hK => ?_)
  go_simp
  refine (RMB _).mono ?_
  rintro e x1 ⟨rfl, gg⟩
  have qw := (gg.block _ (lt_of_block qw)).trans qw
  have bel := chain bel gg
  refine hK _ _ ⟨gg, ?_⟩
  clear hK K gg
  try simp only [Act.put, List.setIfInBounds_toArray, List.set_cons_zero, List.set_cons_succ]
  refine g_take (i := 2) (d := (some 61)) (v := ?_) rfl rfl (by kernel_rfl) (fun _ _ _ h => h) (by rfl) (fun w' hb' => ?_) ?_
  rotate_left
  · (try go_simp); (try with_reducible rfl)
  try simp only [Act.put, List.setIfInBounds_toArray, List.set_cons_zero, List.set_cons_succ]
  refine g_take (i := 3) (d := (some 62)) (v := ?_) rfl rfl (by kernel_rfl) (fun _ _ _ h => h) (by rfl) (fun w' hb' => ?_) ?_
  rotate_left
  · (try go_simp); (try with_reducible rfl)
  try simp only [Act.put, List.setIfInBounds_toArray, List.set_cons_zero, List.set_cons_succ]
  refine g_take (i := 4) (d := (some 63)) (v := ?_) rfl rfl (by kernel_rfl) (fun _ _ _ h => h) (by rfl) (fun w' hb' => ?_) ?_
  rotate_left
  · (try go_simp); (try with_reducible rfl)
  try simp only [Act.put, List.setIfInBounds_toArray, List.set_cons_zero, List.set_cons_succ]
  refine g_take (i := 5) (d := (some 64)) (v := ?_) rfl rfl (by kernel_rfl) (fun _ _ _ h => h) (by rfl) (fun w' hb' => ?_) ?_
  rotate_left
  · (try go_simp); (try with_reducible rfl)
  try simp only [Act.put, List.setIfInBounds_toArray, List.set_cons_zero, List.set_cons_succ]
  refine g_take (i := 6) (d := (some 65)) (v := ?_) rfl rfl (by kernel_rfl) (fun _ _ _ h => h) (by rfl) (fun w' hb' => ?_) ?_
  rotate_left
  · (try go_simp); (try with_reducible rfl)
  try simp only [Act.put, List.setIfInBounds_toArray, List.set_cons_zero, List.set_cons_succ]
  refine g_take (i := 7) (d := (some 66)) (v := ?_) rfl rfl (by kernel_rfl) (fun _ _ _ h => h) (by rfl) (fun w' hb' => ?_) ?_
  rotate_left
  · (try go_simp); (try with_reducible rfl)
  try simp only [Act.put, List.setIfInBounds_toArray, List.set_cons_zero, List.set_cons_succ]
  refine g_take (i := 8) (d := (some 67)) (v := ?_) rfl rfl (by kernel_rfl) (fun _ _ _ h => h) (by rfl) (fun w' hb' => ?_) ?_
  rotate_left
  · (try go_simp); (try with_reducible rfl)
  try simp only [Act.put, List.setIfInBounds_toArray, List.set_cons_zero, List.set_cons_succ]
  refine g_take (i := 9) (d := (some 68)) (v := ?_) rfl rfl (by kernel_rfl) (fun _ _ _ h => h) (by rfl) (fun w' hb' => ?_) ?_
  rotate_left
  · (try go_simp); (try with_reducible rfl)
  try simp only [Act.put, List.setIfInBounds_toArray, List.set_cons_zero, List.set_cons_succ]
  refine g_take (i := 10) (d := (some 69)) (v := ?_) rfl rfl (by kernel_rfl) (fun _ _ _ h => h) (by rfl) (fun w' hb' => ?_) ?_
  rotate_left
  · (try go_simp); (try with_reducible rfl)
  try simp only [Act.put, List.setIfInBounds_toArray, List.set_cons_zero, List.set_cons_succ]
  refine g_take (i := 11) (d := (some 70)) (v := ?_) rfl rfl (by kernel_rfl) (fun _ _ _ h => h) (by rfl) (fun w' hb' => ?_) ?_
  rotate_left
  · (try go_simp); (try with_reducible rfl)
  try simp only [Act.put, List.setIfInBounds_toArray, List.set_cons_zero, List.set_cons_succ]
  refine g_take (i := 12) (d := (some 71)) (v := ?_) rfl rfl (by kernel_rfl) (fun _ _ _ h => h) (by rfl) (fun w' hb' => ?_) ?_
  rotate_left
  · (try go_simp); (try with_reducible rfl)
  try simp only [Act.put, List.setIfInBounds_toArray, List.set_cons_zero, List.set_cons_succ]
  refine g_take (i := 13) (d := (some 72)) (v := ?_) rfl rfl (by kernel_rfl) (fun _ _ _ h => h) (by rfl) (fun w' hb' => ?_) ?_
  rotate_left
  · have zz := (hb'.block _ (lt_of_block qw)).trans qw; obtain ⟨c0, c1, c2⟩ := cells3 zz; (try go_simp); (try with_reducible rfl)
  try simp only [Act.put, List.setIfInBounds_toArray, List.set_cons_zero, List.set_cons_succ]
  refine g_take (i := 16) (d := (some 75)) (v := ?_) rfl rfl (by kernel_rfl) (fun _ _ _ h => h) (by rfl) (fun w' hb' => ?_) ?_
  rotate_left
  · (try go_simp); (try with_reducible rfl)
  try simp only [Act.put, List.setIfInBounds_toArray, List.set_cons_zero, List.set_cons_succ]
  refine g_take (i := 17) (d := (some 76)) (v := ?_) rfl rfl (by kernel_rfl) (fun _ _ _ h => h) (by rfl) (fun w' hb' => ?_) ?_
  rotate_left
  · (try go_simp); (try with_reducible rfl)
  try simp only [Act.put, List.setIfInBounds_toArray, List.set_cons_zero, List.set_cons_succ]
  refine g_take (i := 18) (d := (some 77)) (v := ?_) rfl rfl (by kernel_rfl) (fun _ _ _ h => h) (by rfl) (fun w' hb' => ?_) ?_
  rotate_left
  · (refine slV_op _ _ (.tmp 75) (.tmp 76) ao l.length cap n ?_ ?_ ?_ hn2 hl hm2 w' <;> rfl); (try go_simp); (try with_reducible rfl)
  try simp only [Act.put, List.setIfInBounds_toArray, List.set_cons_zero, List.set_cons_succ]
  refine g_take (i := 19) (d := (some 78)) (v := ?_) rfl rfl (by kernel_rfl) (fun _ _ _ h => h) (by rfl) (fun w' hb' => ?_) ?_
  rotate_left
  · have k1 := cv (RC.out _ (chain bel hb')); (try go_simp); (try with_reducible rfl)
  try simp only [Act.put, List.setIfInBounds_toArray, List.set_cons_zero, List.set_cons_succ]
  refine g_run (i := 14) rfl (by kernel_rfl) (by rfl) (fun K hK => ?_)
  go_simp
  refine (VF _).mono ?_
  rintro e x2 ⟨vF, rfl, hF, -, gg⟩
  have qw := (gg.block _ (lt_of_block qw)).trans qw
  have bel := chain bel gg
  refine hK _ _ ⟨gg, ?_⟩
  clear hK K gg
  try simp only [Act.put, List.setIfInBounds_toArray, List.set_cons_zero, List.set_cons_succ]
  refine g_take (i := 15) (d := (some 74)) (v := ?_) rfl rfl (by kernel_rfl) (fun _ _ _ h => h) (by rfl) (fun w' hb' => ?_) ?_
  rotate_left
  · have k1 := cv (hF.below hb' (Nat.le_refl _)); (try go_simp); (try with_reducible rfl)
  try simp only [Act.put, List.setIfInBounds_toArray, List.set_cons_zero, List.set_cons_succ]
  refine g_take (i := 20) (d := (some 79)) (v := ?_) rfl rfl (by kernel_rfl) (fun _ _ _ h => h) (by rfl) (fun w' hb' => ?_) ?_
  rotate_left
  · (try go_simp); (try with_reducible rfl)
  try simp only [Act.put, List.setIfInBounds_toArray, List.set_cons_zero, List.set_cons_succ]
  refine g_take (i := 21) (d := (some 80)) (v := ?_) rfl rfl (by kernel_rfl) (fun _ _ _ h => h) (by rfl) (fun w' hb' => ?_) ?_
  rotate_left
  · (try go_simp); (try with_reducible rfl)
  try simp only [Act.put, List.setIfInBounds_toArray, List.set_cons_zero, List.set_cons_succ]
  refine g_take (i := 22) (d := (some 81)) (v := ?_) rfl rfl (by kernel_rfl) (fun _ _ _ h => h) (by rfl) (fun w' hb' => ?_) ?_
  rotate_left
  · (try go_simp); (try with_reducible rfl)
  try simp only [Act.put, List.setIfInBounds_toArray, List.set_cons_zero, List.set_cons_succ]
  refine g_run (i := 23) rfl (by kernel_rfl) (by rfl) (fun K hK => ?_)
  go_simp
  refine (AW _).mono ?_
  rintro e x3 ⟨rfl, gg⟩
  have qw := (gg.block _ (lt_of_block qw)).trans qw
  have bel := chain bel gg
  refine hK _ _ ⟨gg, ?_⟩
  clear hK K gg
  try simp only [Act.put, List.setIfInBounds_toArray, List.set_cons_zero, List.set_cons_succ]
  refine g_take (i := 24) (d := (some 83)) (v := ?_) rfl rfl (by kernel_rfl) (fun _ _ _ h => h) (by rfl) (fun w' hb' => ?_) ?_
  rotate_left
  · (try go_simp); (try with_reducible rfl)
  try simp only [Act.put, List.setIfInBounds_toArray, List.set_cons_zero, List.set_cons_succ]
  refine g_take (i := 25) (d := (some 4)) (v := ?_) rfl rfl (by kernel_rfl) (fun _ _ _ h => h) (by rfl) (fun w' hb' => ?_) ?_
  rotate_left
  · (try go_simp); (try with_reducible rfl)
  try simp only [Act.put, List.setIfInBounds_toArray, List.set_cons_zero, List.set_cons_succ]
  refine g_done (by kernel_rfl) ?_
  go_wp2_with fail
  go_ret
  exact ⟨rfl, bel⟩
set_option maxRecDepth 100000 in
set_option maxHeartbeats 1000000 in
theorem back_tn (ka ia : Int) (sa la : List UInt8) (v : Value) (l : List UInt8) (L : List UInt8) (x : Int) (w : World) (hR : Rd w v l)
    (FA : ∀ w, Calls Try.prog 10 #[.agg #[.int .i64 ka, .int .i64 ia, .string (str sa)]] w fun e w' => e = .returned (.agg #[.int .i64 ka, .int .i64 ia, .string (str la)]) ∧ Below w.heap.size w w')
    (RMA : ∀ w, Calls Try.prog 11 #[.agg #[.int .i64 ka, .int .i64 ia, .string (str la)]] w fun e w' => e = .returned (.bool true) ∧ Below w.heap.size w w')
    (VE : ∀ w, Calls Try.prog 35 #[.agg #[.int .i64 ka, .int .i64 ia, .string (str la)]] w (EncR w L)) (hL : 0 < L.length) (hL2 : L.length ≤ 100)
    (VC : ∀ v w, Rd w v (L ++ l) → Calls Try.prog 33 #[v] w fun e w' => e = .returned (.tuple #[.agg #[.int .i64 ka, .int .i64 ia, .string (str la)], .int .i64 (L.length : Nat), .int .i64 0]) ∧ Below w.heap.size w w')
    (VD : ∀ v w, Rd w v l → Calls Try.prog 33 #[v] w fun e w' => e = .returned (.tuple #[.agg #[.int .i64 0, .int .i64 0, .string (str [])], .int .i64 0, .int .i64 x]) ∧ Below w.heap.size w w')
    (hx : (x != 0) = true)
    (hlen : l.length ≤ 1048576) :
    Calls Try.prog 7 #[.agg #[.int .i64 ka, .int .i64 ia, .string (str sa)], v] w fun e w' => e = .returned (.bool true) ∧ Below w.heap.size w w' := by
  have AW := awake_any
  obtain ⟨i0, hi, hz0, hz1, hz2⟩ := info_parts u8info
  have RB : Hid (∀ w', Below w.heap.size w w' → Rd w' v l) := Lib.hid (fun w' h => hR.below h (Nat.le_refl _))
  obtain ⟨ao, cap, rfl, hl, hm, hn, hx0⟩ := hR
  have hm2 := hm
  unfold maxLen at hm
  clear hn hx0
  have qa := heap_alloc_new w (.cells #[.int .i64 ka, .int .i64 ia, .string (str sa)] 23)
  have bel : Below w.heap.size w (w.alloc (.cells #[.int .i64 ka, .int .i64 ia, .string (str sa)] 23)) := (Below.refl _ _).alloc (Nat.le_refl _) _
  go_enter Try.func7, Try.ntmps7
  obtain ⟨qac0, qac1, qac2⟩ := cells3 qa
  have qal := lt_of_block qa
  go_wp2_with fail
  refine (FA _).mono ?_
  rintro e w1 ⟨rfl, g⟩
  clear qac0 qac1 qac2 qal
  replace qa := (g.block _ (lt_of_block qa)).trans qa
  replace bel := chain bel g
  clear g
  obtain ⟨qac0, qac1, qac2⟩ := cells3 qa
  have qal := lt_of_block qa
  have fz := frozen3 qa
  go_wp2_with fail
  clear fz
  clear qac0 qac1 qac2 qal
  replace qa := put3 (.int .i64 ka) (.int .i64 ia) (.string (str la)) qa
  replace bel := put3_below (B := w.heap.size) (u0 := .int .i64 ka) (u1 := .int .i64 ia) (u2 := .string (str la)) bel (by omega)
  obtain ⟨qac0, qac1, qac2⟩ := cells3 qa
  have qal := lt_of_block qa
  refine (RMA _).mono ?_
  rintro e w2 ⟨rfl, g⟩
  clear qac0 qac1 qac2 qal
  replace qa := (g.block _ (lt_of_block qa)).trans qa
  replace bel := chain bel g
  clear g
  obtain ⟨qac0, qac1, qac2⟩ := cells3 qa
  have qal := lt_of_block qa
  go_wp2_with fail
  refine (VE _).mono ?_
  rintro e w3 ⟨vE, rfl, hE, oE, g⟩
  clear qac0 qac1 qac2 qal
  replace qa := (g.block _ (lt_of_block qa)).trans qa
  replace bel := chain bel g
  clear g
  obtain ⟨qac0, qac1, qac2⟩ := cells3 qa
  have qal := lt_of_block qa
  obtain ⟨g1, cap1, rfl, hc1, hc2⟩ := slice_of_own oE hL
  clear oE
  unfold maxLen at hc2
  go_wp2_with (first
    | (at_builtin; refine wpList_app_rd w3 rfl (.tmp 19) (.tmp 20) 43 rfl w3.heap.size 5 i0 (.int .u8 0) 1 Try.underlying43 hi hz0 hz1 hz2 rfl _ 0 [] rfl (World.ownsRow_lit _ #[] 0 (Nat.le_refl _) (by decide) rfl) _ L rfl (hE.below ((Below.refl _ _).alloc (Nat.le_refl _) _) (Nat.le_refl _)) (by unfold maxLen; omega) (by omega) (Nat.le_refl _) ((Below.refl _ _).alloc (Nat.le_refl _) _) ?_; intro v1 W2 o2 B2; rw [Nat.zero_add, List.nil_append] at o2)
    | (at_builtin; refine wpList_app_rd w3 rfl (.tmp 21) (.tmp 22) 43 rfl w3.heap.size 5 i0 (.int .u8 0) 1 Try.underlying43 hi hz0 hz1 hz2 rfl _ L.length (L.map bv) rfl o2 _ l rfl (RB.out _ (chain bel B2)) (by unfold maxLen; omega) (by omega) (Nat.le_refl _) B2 ?_; intro v2 W3 o3 B3; clear o2; rw [← List.map_append] at o3; obtain ⟨g3, cap3, rfl, _, _⟩ := slice_of_own o3 (by omega); have r3 := own_rd o3; clear o3))
  clear B2 hE
  clear qac0 qac1 qac2 qal
  replace qa := (B3.block _ (lt_of_block qa)).trans qa
  replace bel := chain bel B3
  clear B3
  obtain ⟨qac0, qac1, qac2⟩ := cells3 qa
  have qal := lt_of_block qa
  refine (VC _ _ r3).mono ?_
  rintro e w4 ⟨rfl, g⟩
  clear qac0 qac1 qac2 qal
  replace qa := (g.block _ (lt_of_block qa)).trans qa
  replace bel := chain bel g
  clear g
  obtain ⟨qac0, qac1, qac2⟩ := cells3 qa
  have qal := lt_of_block qa
  clear r3
  clear qac0 qac1 qac2 qal
  replace qa := (heap_alloc_old w4 (.cells #[.int .i64 ka, .int .i64 ia, .string (str la)] 23) (lt_of_block qa)).trans qa
  have qv := heap_alloc_new w4 (.cells #[.int .i64 ka, .int .i64 ia, .string (str la)] 23)
  replace bel := bel.alloc bel.size (.cells #[.int .i64 ka, .int .i64 ia, .string (str la)] 23)
  obtain ⟨qac0, qac1, qac2⟩ := cells3 qa
  have qal := lt_of_block qa
  obtain ⟨qvc0, qvc1, qvc2⟩ := cells3 qv
  have qvl := lt_of_block qv
  go_wp2_with fail
  refine (VD _ _ (RB.out _ bel)).mono ?_
  rintro e w5 ⟨rfl, g⟩
  clear qac0 qac1 qac2 qal
  replace qa := (g.block _ (lt_of_block qa)).trans qa
  clear qvc0 qvc1 qvc2 qvl
  replace qv := (g.block _ (lt_of_block qv)).trans qv
  replace bel := chain bel g
  clear g
  obtain ⟨qac0, qac1, qac2⟩ := cells3 qa
  have qal := lt_of_block qa
  obtain ⟨qvc0, qvc1, qvc2⟩ := cells3 qv
  have qvl := lt_of_block qv
  clear qv qvl qvc0 qvc1 qvc2
  clear qa qal qac0 qac1 qac2
  have qw := heap_alloc_new w5 (.cells #[.int .i64 0, .int .i64 0, .string (str [])] 23)
  replace bel := bel.alloc bel.size (.cells #[.int .i64 0, .int .i64 0, .string (str [])] 23)
  obtain ⟨qwc0, qwc1, qwc2⟩ := cells3 qw
  have qwl := lt_of_block qw
  have VQ : ∀ w, (binOp .eql 23 (.agg #[.int .i64 0, .int .i64 0, .string (str [])]) (.agg #[.int .i64 0, .int .i64 0, .string (ByteArray.mk #[])])).run Try.prog w = .ok (.bool true) w := fun w => val_eq 0 0 [] w
  go_wp2_with fail
  refine (AW _).mono ?_
  rintro e w6 ⟨rfl, g⟩
  clear qwc0 qwc1 qwc2 qwl
  replace qw := (g.block _ (lt_of_block qw)).trans qw
  replace bel := chain bel g
  clear g
  obtain ⟨qwc0, qwc1, qwc2⟩ := cells3 qw
  have qwl := lt_of_block qw
  go_wp2_with fail
  go_ret
  exact ⟨rfl, bel⟩
set_option maxRecDepth 100000 in
set_option maxHeartbeats 1000000 in
theorem back_fo (ka ia : Int) (sa la : List UInt8) (v : Value) (l : List UInt8) (k i : Int) (s : List UInt8) (n : Nat) (w : World) (hR : Rd w v l)
    (FA : ∀ w, Calls Try.prog 10 #[.agg #[.int .i64 ka, .int .i64 ia, .string (str sa)]] w fun e w' => e = .returned (.agg #[.int .i64 ka, .int .i64 ia, .string (str la)]) ∧ Below w.heap.size w w')
    (RMA : ∀ w, Calls Try.prog 11 #[.agg #[.int .i64 ka, .int .i64 ia, .string (str la)]] w fun e w' => e = .returned (.bool false) ∧ Below w.heap.size w w')
    (VD : ∀ v w, Rd w v l → Calls Try.prog 33 #[v] w fun e w' => e = .returned (.tuple #[.agg #[.int .i64 k, .int .i64 i, .string (str s)], .int .i64 (n : Nat), .int .i64 0]) ∧ Below w.heap.size w w')
    (RMB : ∀ w, Calls Try.prog 11 #[.agg #[.int .i64 k, .int .i64 i, .string (str s)]] w fun e w' => e = .returned (.bool true) ∧ Below w.heap.size w w')
    (VF : ∀ w, Calls Try.prog 35 #[.agg #[.int .i64 k, .int .i64 i, .string (str s)]] w (EncR w (l.take n))) (hn1 : 1 ≤ n) (hn2 : n ≤ l.length)
    (hlen : l.length ≤ 1048576) :
    Calls Try.prog 7 #[.agg #[.int .i64 ka, .int .i64 ia, .string (str sa)], v] w fun e w' => e = .returned (.bool true) ∧ Below w.heap.size w w' := by
  have AW := awake_any
  obtain ⟨i0, hi, hz0, hz1, hz2⟩ := info_parts u8info
  have RB : Hid (∀ w', Below w.heap.size w w' → Rd w' v l) := Lib.hid (fun w' h => hR.below h (Nat.le_refl _))
  obtain ⟨ao, cap, rfl, hl, hm, hn, hx0⟩ := hR
  have hm2 := hm
  unfold maxLen at hm
  clear hn hx0
  have qa := heap_alloc_new w (.cells #[.int .i64 ka, .int .i64 ia, .string (str sa)] 23)
  have bel : Below w.heap.size w (w.alloc (.cells #[.int .i64 ka, .int .i64 ia, .string (str sa)] 23)) := (Below.refl _ _).alloc (Nat.le_refl _) _
  have nl : ((n : Nat) : Int) ≤ ((l.length : Nat) : Int) := by omega
  have n1 : (1 : Int) ≤ ((n : Nat) : Int) := by omega
  go_enter Try.func7, Try.ntmps7
  obtain ⟨qac0, qac1, qac2⟩ := cells3 qa
  have qal := lt_of_block qa
  go_wp2_with fail
  refine (FA _).mono ?_
  rintro e w1 ⟨rfl, g⟩
  clear qac0 qac1 qac2 qal
  replace qa := (g.block _ (lt_of_block qa)).trans qa
  replace bel := chain bel g
  clear g
  obtain ⟨qac0, qac1, qac2⟩ := cells3 qa
  have qal := lt_of_block qa
  have fz := frozen3 qa
  go_wp2_with fail
  clear fz
  clear qac0 qac1 qac2 qal
  replace qa := put3 (.int .i64 ka) (.int .i64 ia) (.string (str la)) qa
  replace bel := put3_below (B := w.heap.size) (u0 := .int .i64 ka) (u1 := .int .i64 ia) (u2 := .string (str la)) bel (by omega)
  obtain ⟨qac0, qac1, qac2⟩ := cells3 qa
  have qal := lt_of_block qa
  refine (RMA _).mono ?_
  rintro e w2 ⟨rfl, g⟩
  clear qac0 qac1 qac2 qal
  replace qa := (g.block _ (lt_of_block qa)).trans qa
  replace bel := chain bel g
  clear g
  obtain ⟨qac0, qac1, qac2⟩ := cells3 qa
  have qal := lt_of_block qa
  go_wp2_with fail
  refine (VD _ _ (RB.out _ bel)).mono ?_
  rintro e w3 ⟨rfl, g⟩
  clear qac0 qac1 qac2 qal
  replace qa := (g.block _ (lt_of_block qa)).trans qa
  replace bel := chain bel g
  clear g
  obtain ⟨qac0, qac1, qac2⟩ := cells3 qa
  have qal := lt_of_block qa
  clear qa qal qac0 qac1 qac2
  have qw := heap_alloc_new w3 (.cells #[.int .i64 k, .int .i64 i, .string (str s)] 23)
  replace bel := bel.alloc bel.size (.cells #[.int .i64 k, .int .i64 i, .string (str s)] 23)
  obtain ⟨qwc0, qwc1, qwc2⟩ := cells3 qw
  have qwl := lt_of_block qw
  go_wp2_with fail
  clear qwc0 qwc1 qwc2 qwl
  obtain ⟨W1, hW1⟩ : ∃ W1, W1 = World.alloc w3 (.cells #[.int .i64 k, .int .i64 i, .string (str s)] 23) := ⟨_, rfl⟩
  rw [← hW1] at qw bel ⊢
  clear hW1
  have bel := below_drewN (k := 1) bel
  have RC := Lib.hid (fun w' h => rd_slV (RB.out w' h) n hn2 hl)
  refine g_start (by kernel_rfl) ?_
  refine g_take (i := 0) (d := (some 59)) (v := ?_) rfl rfl (by kernel_rfl) (fun _ _ _ h => h) (by rfl) (fun w' hb' => ?_) ?_
  rotate_left
  · have zz := (hb'.block _ (lt_of_block qw)).trans qw; obtain ⟨c0, c1, c2⟩ := cells3 zz; (try go_simp); (try with_reducible rfl)
  try simp only [Act.put, List.setIfInBounds_toArray, List.set_cons_zero, List.set_cons_succ]
  refine g_run (i := 1) rfl (by kernel_rfl) (by rfl) (fun K hK => ?_)
  go_simp
  refine (RMB _).mono ?_
  rintro e x1 ⟨rfl, gg⟩
  have qw := (gg.block _ (lt_of_block qw)).trans qw
  have bel := chain bel gg
  refine hK _ _ ⟨gg, ?_⟩
  clear hK K gg
  try simp only [Act.put, List.setIfInBounds_toArray, List.set_cons_zero, List.set_cons_succ]
  refine g_take (i := 2) (d := (some 61)) (v := ?_) rfl rfl (by kernel_rfl) (fun _ _ _ h => h) (by rfl) (fun w' hb' => ?_) ?_
  rotate_left
  · (try go_simp); (try with_reducible rfl)
  try simp only [Act.put, List.setIfInBounds_toArray, List.set_cons_zero, List.set_cons_succ]
  refine g_take (i := 3) (d := (some 62)) (v := ?_) rfl rfl (by kernel_rfl) (fun _ _ _ h => h) (by rfl) (fun w' hb' => ?_) ?_
  rotate_left
  · (try go_simp); (try with_reducible rfl)
  try simp only [Act.put, List.setIfInBounds_toArray, List.set_cons_zero, List.set_cons_succ]
  refine g_take (i := 4) (d := (some 63)) (v := ?_) rfl rfl (by kernel_rfl) (fun _ _ _ h => h) (by rfl) (fun w' hb' => ?_) ?_
  rotate_left
  · (try go_simp); (try with_reducible rfl)
  try simp only [Act.put, List.setIfInBounds_toArray, List.set_cons_zero, List.set_cons_succ]
  refine g_take (i := 5) (d := (some 64)) (v := ?_) rfl rfl (by kernel_rfl) (fun _ _ _ h => h) (by rfl) (fun w' hb' => ?_) ?_
  rotate_left
  · (try go_simp); (try with_reducible rfl)
  try simp only [Act.put, List.setIfInBounds_toArray, List.set_cons_zero, List.set_cons_succ]
  refine g_take (i := 6) (d := (some 65)) (v := ?_) rfl rfl (by kernel_rfl) (fun _ _ _ h => h) (by rfl) (fun w' hb' => ?_) ?_
  rotate_left
  · (try go_simp); (try with_reducible rfl)
  try simp only [Act.put, List.setIfInBounds_toArray, List.set_cons_zero, List.set_cons_succ]
  refine g_take (i := 7) (d := (some 66)) (v := ?_) rfl rfl (by kernel_rfl) (fun _ _ _ h => h) (by rfl) (fun w' hb' => ?_) ?_
  rotate_left
  · (try go_simp); (try with_reducible rfl)
  try simp only [Act.put, List.setIfInBounds_toArray, List.set_cons_zero, List.set_cons_succ]
  refine g_take (i := 8) (d := (some 67)) (v := ?_) rfl rfl (by kernel_rfl) (fun _ _ _ h => h) (by rfl) (fun w' hb' => ?_) ?_
  rotate_left
  · (try go_simp); (try with_reducible rfl)
  try simp only [Act.put, List.setIfInBounds_toArray, List.set_cons_zero, List.set_cons_succ]
  refine g_take (i := 9) (d := (some 68)) (v := ?_) rfl rfl (by kernel_rfl) (fun _ _ _ h => h) (by rfl) (fun w' hb' => ?_) ?_
  rotate_left
  · (try go_simp); (try with_reducible rfl)
  try simp only [Act.put, List.setIfInBounds_toArray, List.set_cons_zero, List.set_cons_succ]
  refine g_take (i := 10) (d := (some 69)) (v := ?_) rfl rfl (by kernel_rfl) (fun _ _ _ h => h) (by rfl) (fun w' hb' => ?_) ?_
  rotate_left
  · (try go_simp); (try with_reducible rfl)
  try simp only [Act.put, List.setIfInBounds_toArray, List.set_cons_zero, List.set_cons_succ]
  refine g_take (i := 11) (d := (some 70)) (v := ?_) rfl rfl (by kernel_rfl) (fun _ _ _ h => h) (by rfl) (fun w' hb' => ?_) ?_
  rotate_left
  · (try go_simp); (try with_reducible rfl)
  try simp only [Act.put, List.setIfInBounds_toArray, List.set_cons_zero, List.set_cons_succ]
  refine g_take (i := 12) (d := (some 71)) (v := ?_) rfl rfl (by kernel_rfl) (fun _ _ _ h => h) (by rfl) (fun w' hb' => ?_) ?_
  rotate_left
  · (try go_simp); (try with_reducible rfl)
  try simp only [Act.put, List.setIfInBounds_toArray, List.set_cons_zero, List.set_cons_succ]
  refine g_take (i := 13) (d := (some 72)) (v := ?_) rfl rfl (by kernel_rfl) (fun _ _ _ h => h) (by rfl) (fun w' hb' => ?_) ?_
  rotate_left
  · have zz := (hb'.block _ (lt_of_block qw)).trans qw; obtain ⟨c0, c1, c2⟩ := cells3 zz; (try go_simp); (try with_reducible rfl)
  try simp only [Act.put, List.setIfInBounds_toArray, List.set_cons_zero, List.set_cons_succ]
  refine g_take (i := 16) (d := (some 75)) (v := ?_) rfl rfl (by kernel_rfl) (fun _ _ _ h => h) (by rfl) (fun w' hb' => ?_) ?_
  rotate_left
  · (try go_simp); (try with_reducible rfl)
  try simp only [Act.put, List.setIfInBounds_toArray, List.set_cons_zero, List.set_cons_succ]
  refine g_take (i := 17) (d := (some 76)) (v := ?_) rfl rfl (by kernel_rfl) (fun _ _ _ h => h) (by rfl) (fun w' hb' => ?_) ?_
  rotate_left
  · (try go_simp); (try with_reducible rfl)
  try simp only [Act.put, List.setIfInBounds_toArray, List.set_cons_zero, List.set_cons_succ]
  refine g_take (i := 18) (d := (some 77)) (v := ?_) rfl rfl (by kernel_rfl) (fun _ _ _ h => h) (by rfl) (fun w' hb' => ?_) ?_
  rotate_left
  · (refine slV_op _ _ (.tmp 75) (.tmp 76) ao l.length cap n ?_ ?_ ?_ hn2 hl hm2 w' <;> rfl); (try go_simp); (try with_reducible rfl)
  try simp only [Act.put, List.setIfInBounds_toArray, List.set_cons_zero, List.set_cons_succ]
  refine g_take (i := 19) (d := (some 78)) (v := ?_) rfl rfl (by kernel_rfl) (fun _ _ _ h => h) (by rfl) (fun w' hb' => ?_) ?_
  rotate_left
  · have k1 := cv (RC.out _ (chain bel hb')); (try go_simp); (try with_reducible rfl)
  try simp only [Act.put, List.setIfInBounds_toArray, List.set_cons_zero, List.set_cons_succ]
  refine g_run (i := 14) rfl (by kernel_rfl) (by rfl) (fun K hK => ?_)
  go_simp
  refine (VF _).mono ?_
  rintro e x2 ⟨vF, rfl, hF, -, gg⟩
  have qw := (gg.block _ (lt_of_block qw)).trans qw
  have bel := chain bel gg
  refine hK _ _ ⟨gg, ?_⟩
  clear hK K gg
  try simp only [Act.put, List.setIfInBounds_toArray, List.set_cons_zero, List.set_cons_succ]
  refine g_take (i := 15) (d := (some 74)) (v := ?_) rfl rfl (by kernel_rfl) (fun _ _ _ h => h) (by rfl) (fun w' hb' => ?_) ?_
  rotate_left
  · have k1 := cv (hF.below hb' (Nat.le_refl _)); (try go_simp); (try with_reducible rfl)
  try simp only [Act.put, List.setIfInBounds_toArray, List.set_cons_zero, List.set_cons_succ]
  refine g_take (i := 20) (d := (some 79)) (v := ?_) rfl rfl (by kernel_rfl) (fun _ _ _ h => h) (by rfl) (fun w' hb' => ?_) ?_
  rotate_left
  · (try go_simp); (try with_reducible rfl)
  try simp only [Act.put, List.setIfInBounds_toArray, List.set_cons_zero, List.set_cons_succ]
  refine g_take (i := 21) (d := (some 80)) (v := ?_) rfl rfl (by kernel_rfl) (fun _ _ _ h => h) (by rfl) (fun w' hb' => ?_) ?_
  rotate_left
  · (try go_simp); (try with_reducible rfl)
  try simp only [Act.put, List.setIfInBounds_toArray, List.set_cons_zero, List.set_cons_succ]
  refine g_take (i := 22) (d := (some 81)) (v := ?_) rfl rfl (by kernel_rfl) (fun _ _ _ h => h) (by rfl) (fun w' hb' => ?_) ?_
  rotate_left
  · (try go_simp); (try with_reducible rfl)
  try simp only [Act.put, List.setIfInBounds_toArray, List.set_cons_zero, List.set_cons_succ]
  refine g_run (i := 23) rfl (by kernel_rfl) (by rfl) (fun K hK => ?_)
  go_simp
  refine (AW _).mono ?_
  rintro e x3 ⟨rfl, gg⟩
  have qw := (gg.block _ (lt_of_block qw)).trans qw
  have bel := chain bel gg
  refine hK _ _ ⟨gg, ?_⟩
  clear hK K gg
  try simp only [Act.put, List.setIfInBounds_toArray, List.set_cons_zero, List.set_cons_succ]
  refine g_take (i := 24) (d := (some 83)) (v := ?_) rfl rfl (by kernel_rfl) (fun _ _ _ h => h) (by rfl) (fun w' hb' => ?_) ?_
  rotate_left
  · (try go_simp); (try with_reducible rfl)
  try simp only [Act.put, List.setIfInBounds_toArray, List.set_cons_zero, List.set_cons_succ]
  refine g_take (i := 25) (d := (some 4)) (v := ?_) rfl rfl (by kernel_rfl) (fun _ _ _ h => h) (by rfl) (fun w' hb' => ?_) ?_
  rotate_left
  · (try go_simp); (try with_reducible rfl)
  try simp only [Act.put, List.setIfInBounds_toArray, List.set_cons_zero, List.set_cons_succ]
  refine g_done (by kernel_rfl) ?_
  go_wp2_with fail
  go_ret
  exact ⟨rfl, bel⟩
set_option maxRecDepth 100000 in
set_option maxHeartbeats 1000000 in
theorem back_fn (ka ia : Int) (sa la : List UInt8) (v : Value) (l : List UInt8) (x : Int) (w : World) (hR : Rd w v l)
    (FA : ∀ w, Calls Try.prog 10 #[.agg #[.int .i64 ka, .int .i64 ia, .string (str sa)]] w fun e w' => e = .returned (.agg #[.int .i64 ka, .int .i64 ia, .string (str la)]) ∧ Below w.heap.size w w')
    (RMA : ∀ w, Calls Try.prog 11 #[.agg #[.int .i64 ka, .int .i64 ia, .string (str la)]] w fun e w' => e = .returned (.bool false) ∧ Below w.heap.size w w')
    (VD : ∀ v w, Rd w v l → Calls Try.prog 33 #[v] w fun e w' => e = .returned (.tuple #[.agg #[.int .i64 0, .int .i64 0, .string (str [])], .int .i64 0, .int .i64 x]) ∧ Below w.heap.size w w')
    (hx : (x != 0) = true)
    (hlen : l.length ≤ 1048576) :
    Calls Try.prog 7 #[.agg #[.int .i64 ka, .int .i64 ia, .string (str sa)], v] w fun e w' => e = .returned (.bool true) ∧ Below w.heap.size w w' := by
  have AW := awake_any
  obtain ⟨i0, hi, hz0, hz1, hz2⟩ := info_parts u8info
  have RB : Hid (∀ w', Below w.heap.size w w' → Rd w' v l) := Lib.hid (fun w' h => hR.below h (Nat.le_refl _))
  obtain ⟨ao, cap, rfl, hl, hm, hn, hx0⟩ := hR
  have hm2 := hm
  unfold maxLen at hm
  clear hn hx0
  have qa := heap_alloc_new w (.cells #[.int .i64 ka, .int .i64 ia, .string (str sa)] 23)
  have bel : Below w.heap.size w (w.alloc (.cells #[.int .i64 ka, .int .i64 ia, .string (str sa)] 23)) := (Below.refl _ _).alloc (Nat.le_refl _) _
  go_enter Try.func7, Try.ntmps7
  obtain ⟨qac0, qac1, qac2⟩ := cells3 qa
  have qal := lt_of_block qa
  go_wp2_with fail
  refine (FA _).mono ?_
  rintro e w1 ⟨rfl, g⟩
  clear qac0 qac1 qac2 qal
  replace qa := (g.block _ (lt_of_block qa)).trans qa
  replace bel := chain bel g
  clear g
  obtain ⟨qac0, qac1, qac2⟩ := cells3 qa
  have qal := lt_of_block qa
  have fz := frozen3 qa
  go_wp2_with fail
  clear fz
  clear qac0 qac1 qac2 qal
  replace qa := put3 (.int .i64 ka) (.int .i64 ia) (.string (str la)) qa
  replace bel := put3_below (B := w.heap.size) (u0 := .int .i64 ka) (u1 := .int .i64 ia) (u2 := .string (str la)) bel (by omega)
  obtain ⟨qac0, qac1, qac2⟩ := cells3 qa
  have qal := lt_of_block qa
  refine (RMA _).mono ?_
  rintro e w2 ⟨rfl, g⟩
  clear qac0 qac1 qac2 qal
  replace qa := (g.block _ (lt_of_block qa)).trans qa
  replace bel := chain bel g
  clear g
  obtain ⟨qac0, qac1, qac2⟩ := cells3 qa
  have qal := lt_of_block qa
  go_wp2_with fail
  refine (VD _ _ (RB.out _ bel)).mono ?_
  rintro e w3 ⟨rfl, g⟩
  clear qac0 qac1 qac2 qal
  replace qa := (g.block _ (lt_of_block qa)).trans qa
  replace bel := chain bel g
  clear g
  obtain ⟨qac0, qac1, qac2⟩ := cells3 qa
  have qal := lt_of_block qa
  clear qa qal qac0 qac1 qac2
  have qw := heap_alloc_new w3 (.cells #[.int .i64 0, .int .i64 0, .string (str [])] 23)
  replace bel := bel.alloc bel.size (.cells #[.int .i64 0, .int .i64 0, .string (str [])] 23)
  obtain ⟨qwc0, qwc1, qwc2⟩ := cells3 qw
  have qwl := lt_of_block qw
  have VQ : ∀ w, (binOp .eql 23 (.agg #[.int .i64 0, .int .i64 0, .string (str [])]) (.agg #[.int .i64 0, .int .i64 0, .string (ByteArray.mk #[])])).run Try.prog w = .ok (.bool true) w := fun w => val_eq 0 0 [] w
  go_wp2_with fail
  refine (AW _).mono ?_
  rintro e w4 ⟨rfl, g⟩
  clear qwc0 qwc1 qwc2 qwl
  replace qw := (g.block _ (lt_of_block qw)).trans qw
  replace bel := chain bel g
  clear g
  obtain ⟨qwc0, qwc1, qwc2⟩ := cells3 qw
  have qwl := lt_of_block qw
  go_wp2_with fail
  go_ret
  exact ⟨rfl, bel⟩
theorem back_row (ka ia : Int) (sa : List UInt8) (v : Value) (l : List UInt8) (w : World) (wka : (Lit.int .i64 ka).wf = true) (wia : (Lit.int .i64 ia).wf = true) (ha : sa.length ≤ maxLen) (hR : Rd w v l) (hlen : l.length ≤ 1048576) :
    Calls Try.prog 7 #[.agg #[.int .i64 ka, .int .i64 ia, .string (str sa)], v] w fun e w' => e = .returned (.bool true) ∧ Below w.heap.size w w' := by
  have FA := fun w => few_any ka ia sa w ha
  have la : (sa.take 200).length ≤ maxLen := Nat.le_trans (List.length_take_le' _ _) ha
  generalize sa.take 200 = ta at FA la
  have hI : I64 ia := i64_of_wf wia
  have RMA := fun w => refMay_any ka ia ta w la
  have VE := fun w => encode_any ka ia ta w la hI
  have VC := fun lb v w h => cutV_any v lb w h
  unfold cutT at VC
  have VD := VC l
  obtain ⟨⟨k, i, s⟩, n, x, hc⟩ : ∃ r n x, cutVL l = (r, n, x) := ⟨_, _, _, rfl⟩
  rw [hc] at VD
  have hf := cutVL_facts hc
  cases m : mayB ⟨ka, ia, ta⟩ with
  | true =>
    rw [m] at RMA
    have hb := cutVL_back ka ia ta l m hI
    have VB := VC (encL ⟨ka, ia, ta⟩ ++ l)
    rw [hb] at VB
    have hl := encL_len ka ia ta m
    by_cases h : x = 0
    · subst h
      obtain ⟨f1, f2, f3, f4, f5, f6⟩ := hf.1 rfl
      have RMB := fun w => refMay_any k i s w f6
      rw [f1] at RMB
      have VF := fun w => encode_any k i s w f6 f5
      rw [f4] at VF
      exact back_to ka ia sa ta v l _ k i s n w hR FA RMA VE hl.1 hl.2 VB VD RMB VF f2 f3 hlen
    · obtain ⟨e, rfl⟩ := hf.2 h
      cases e
      exact back_tn ka ia sa ta v l _ x w hR FA RMA VE hl.1 hl.2 VB VD (bne_int h).1 hlen
  | false =>
    rw [m] at RMA
    by_cases h : x = 0
    · subst h
      obtain ⟨f1, f2, f3, f4, f5, f6⟩ := hf.1 rfl
      have RMB := fun w => refMay_any k i s w f6
      rw [f1] at RMB
      have VF := fun w => encode_any k i s w f6 f5
      rw [f4] at VF
      exact back_fo ka ia sa ta v l k i s n w hR FA RMA VD RMB VF f2 f3 hlen
    · obtain ⟨e, rfl⟩ := hf.2 h
      cases e
      exact back_fn ka ia sa ta v l x w hR FA RMA VD (bne_int h).1 hlen
end Go.Proofs.Ythakimgpaemfeaa
