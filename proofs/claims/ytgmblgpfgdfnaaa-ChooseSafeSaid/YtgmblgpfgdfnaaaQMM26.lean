/- Marks: which may be, by the program and by the document. Written by wip/tools/gen30c.py. -/
import Derived.Test.YtgmblgpfgdfnaaaQMM25
namespace Go.Proofs.Ytgmblgpfgdfnaaa
open Go Go.RowKit
set_option linter.unusedVariables false
set_option linter.unusedSimpArgs false
set_option maxRecDepth 100000
/-- Marks as they lie in memory. -/
structure RdM (w : World) (m : Ms) (v : Value) : Prop where
  l : RdT w v m.l
  b : ∀ x ∈ m.l, x.vw ≤ 9223372036854775807
theorem RdM.below {w w' : World} {m : Ms} {v : Value} (h : RdM w m v) {B : Nat} (hb : Below B w w') (hB : w.heap.size ≤ B) : RdM w' m v := ⟨h.l.below hb hB, h.b⟩
def mV (m : Ms) (v : Value) : Value := .agg #[.int .i64 m.low, .int .i64 m.root, v]
theorem rdm0 (w : World) : RdM w ms0 (.slice none 0 0) := ⟨rdk_nil w, fun x hx => by cases hx⟩
theorem all_R_may {m : Ms} {R n1 n2 z : Bool} {L : Bool} (h : R = mayM m) (h1 : n1 = numB m.low) (hz : z = decide (m.low % 4 = 0)) (h2 : n2 = numB m.root) (hL : L = allM m.low m.l) : R = (n1 && (z && (n2 && L))) := by
  rw [h, h1, hz, h2, hL]; rfl
set_option maxHeartbeats 2000000 in
theorem may_any (m : Ms) (v : Value) (w : World) (h : RdM w m v) : Calls Try.prog 10 #[mV m v] w fun e w' => e = .returned (.bool (mayM m)) ∧ Below w.heap.size w w' := by
  obtain ⟨ao, cap, rfl, hc, hm, hr⟩ := RdK.open h.l
  have hr : RdT w (.slice ao m.l.length cap) m.l := hr
  have hbs := h.b
  obtain ⟨R0, hR0⟩ : ∃ R, R = mayM m := ⟨_, rfl⟩
  rw [← hR0]
  obtain ⟨n1, hn1⟩ : ∃ n, n = numB m.low := ⟨_, rfl⟩
  obtain ⟨z, hz⟩ : ∃ n, n = decide (m.low % 4 = 0) := ⟨_, rfl⟩
  obtain ⟨n2, hn2⟩ : ∃ n, n = numB m.root := ⟨_, rfl⟩
  obtain ⟨R, hR⟩ : ∃ n, n = allM m.low m.l := ⟨_, rfl⟩
  have ER := all_R_may hR0 hn1 hz hn2 hR
  obtain ⟨low, root, l⟩ := m
  simp only at hn1 hz hn2 hR hbs hr hc
  have IV0 := fun w => isNum_any low w
  have IR0 := fun w => isNum_any root w
  rw [← hn1] at IV0
  rw [← hn2] at IR0
  have IV := Lib.hid IV0
  have IR := Lib.hid IR0
  unfold mV
  simp only
  obtain ⟨W0, hW0⟩ : ∃ W, W = w.alloc (.cells #[.int .i64 low, .int .i64 root, .slice ao l.length cap] 24) := ⟨_, rfl⟩
  have qb := heap_alloc_new w (.cells #[.int .i64 low, .int .i64 root, .slice ao l.length cap] 24)
  have B0 := (Below.refl w.heap.size w).alloc (Nat.le_refl _) (.cells #[.int .i64 low, .int .i64 root, .slice ao l.length cap] 24)
  rw [← hW0] at qb B0
  have QB := Lib.hid qb
  have HRD := Lib.hid (RdT.below hr B0 (Nat.le_refl _))
  have HBS := Lib.hid hbs
  obtain ⟨d0, d1, d2, df⟩ := block_cells3 qb
  clear hr hR0 IV0 IR0 hbs h
  cases n1 with
  | false =>
    have RES := Lib.hid (show R0 = false by rw [ER]; rfl)
    clear ER hn1 hz hn2 hR
    subst hW0
    go_enter Try.func10, Try.ntmps10
    go_wp2_with (first | ((with_reducible refine (IV.out _).mono ?_); rintro e w1 ⟨rfl, rfl⟩) | ((with_reducible refine (IR.out _).mono ?_); rintro e w1 ⟨rfl, rfl⟩))
    go_ret
    exact ⟨ret_b RES.out.symm, B0⟩
  | true =>
  have h0 : 0 ≤ low := by have := hn1.symm; unfold numB at this; simp at this; exact this.1
  cases z with
  | false =>
    have RES := Lib.hid (show R0 = false by rw [ER]; rfl)
    have gz : (low % 4 == 0) = false := by simpa using hz.symm
    have gz2 : (low % 4 != 0) = true := by simpa using hz.symm
    clear ER hz hn1 hn2 hR
    subst hW0
    go_enter Try.func10, Try.ntmps10
    go_wp2_with (first | ((with_reducible refine (IV.out _).mono ?_); rintro e w1 ⟨rfl, rfl⟩) | ((with_reducible refine (IR.out _).mono ?_); rintro e w1 ⟨rfl, rfl⟩))
    go_ret
    exact ⟨ret_b RES.out.symm, B0⟩
  | true =>
  have gz : (low % 4 == 0) = true := by simpa using hz.symm
  have gz2 : (low % 4 != 0) = false := by simpa using hz.symm
  cases n2 with
  | false =>
    have RES := Lib.hid (show R0 = false by rw [ER]; rfl)
    clear ER hz hn1 hn2 hR
    subst hW0
    go_enter Try.func10, Try.ntmps10
    go_wp2_with (first | ((with_reducible refine (IV.out _).mono ?_); rintro e w1 ⟨rfl, rfl⟩) | ((with_reducible refine (IR.out _).mono ?_); rintro e w1 ⟨rfl, rfl⟩))
    go_ret
    exact ⟨ret_b RES.out.symm, B0⟩
  | true =>
  have HR := Lib.hid (show R0 = (List.range l.length).all (stepM low l) by rw [ER, hR]; rfl)
  clear ER hz hR hn1 hn2
  go_enter Try.func10, Try.ntmps10
  go_upto_region 1 with fail
  rw [← hW0]
  clear hW0
  go_wp2_with (first | ((with_reducible refine (IV.out _).mono ?_); rintro e w1 ⟨rfl, rfl⟩) | ((with_reducible refine (IR.out _).mono ?_); rintro e w1 ⟨rfl, rfl⟩))
  clear d0 d1 d2 df gz gz2 IV IR qb
  go_loopw [24] (fun i wr => ∃ k : Nat, k ≤ l.length ∧ i = .int .i64 (k : Int) ∧ Hid ((List.range k).all (stepM low l) = true) ∧ Below W0.heap.size W0 wr) (fun i _ => l.length - (intOf i).toNat)
  case atStart => exact ⟨0, Nat.zero_le _, rfl, Lib.hid rfl, Below.refl _ _⟩
  case round =>
    obtain ⟨k, hk, rfl, HA, BK⟩ := hrel
    have qb := (BK.block _ (lt_of_block QB.out)).trans QB.out
    obtain ⟨d0, d1, d2, df⟩ := block_cells3 qb
    by_cases hlt : k < l.length
    · obtain ⟨pb, po, rfl, hpb, C0, C1, C2⟩ := rdt_cells HRD.out k hlt
      have c0 := (BK.cell (p := ⟨pb, po + k * 3, none⟩) hpb).trans C0
      have c1 := (BK.cell (p := ⟨pb, po + k * 3 + 1, none⟩) hpb).trans C1
      have c2 := (BK.cell (p := ⟨pb, po + k * 3 + 2, none⟩) hpb).trans C2
      have hsb := HBS.out l[k] (List.getElem_mem hlt)
      obtain ⟨x, hx⟩ : ∃ x, x = l[k] := ⟨_, rfl⟩
      obtain ⟨V, hV⟩ : ∃ V, V = okM low x := ⟨_, rfl⟩
      have HOK := Lib.hid (show okM low l[k] = V by rw [hV, hx])
      rw [← hx] at c0 c1 c2 hsb
      obtain ⟨a, b, c⟩ := x
      have HX := Lib.hid hx
      simp only at c0 c1 c2 hsb
      unfold okM at hV
      simp only at hV
      have DU0 := fun w => due_any b w
      have IT0 := fun w => isNum_any c w
      have WI0 := fun w => within_any low root b (.slice (some ⟨pb, po, none⟩) l.length cap) h0 hsb w
      obtain ⟨vd, hvd⟩ : ∃ q, q = dueB b := ⟨_, rfl⟩
      obtain ⟨vw, hvw⟩ : ∃ q, q = witB low b := ⟨_, rfl⟩
      obtain ⟨vt, hvt⟩ : ∃ q, q = numB c := ⟨_, rfl⟩
      rw [← hvd] at DU0 hV
      rw [← hvw] at WI0 hV
      rw [← hvt] at IT0 hV
      have DU := Lib.hid DU0
      have IT := Lib.hid IT0
      have WI := Lib.hid WI0
      have HV := Lib.hid hV
      clear DU0 IT0 WI0 hV hvd hvw hvt hx hsb C0 C1 C2
      go_upto_region 6 with fail
      obtain ⟨W8, hW8⟩ : ∃ W, W = wr.alloc (.cells #[.int .i64 a, .int .i64 b, .int .i64 c] 30) := ⟨_, rfl⟩
      rw [← hW8]
      have qx : W8.heap[wr.heap.size]? = some (.cells #[.int .i64 a, .int .i64 b, .int .i64 c] 30 (0, 0)) := by rw [hW8]; exact heap_alloc_new _ _
      replace qb : W8.heap[w.heap.size]? = some (.cells #[.int .i64 low, .int .i64 root, .slice (some ⟨pb, po, none⟩) l.length cap] 24 (0, 0)) := by rw [hW8]; exact (heap_alloc_old _ _ (lt_of_block qb)).trans qb
      have B8 : Below W0.heap.size W0 W8 := by rw [hW8]; exact BK.alloc BK.size _
      clear hW8 c0 c1 c2 d0 d1 d2 df BK
      obtain ⟨d0, d1, d2, df⟩ := block_cells3 qb
      obtain ⟨e0, e1, e2, ef⟩ := block_cells3 qx
      by_cases hh0 : 0 ≤ a
      · skip
        by_cases hh1 : a ≤ 63
        · skip
          cases vd with
          | false =>
            have OK := Lib.hid (show V = false by rw [HV.out, decide_eq_true hh0, decide_eq_true hh1]; simp)
            have RES := Lib.hid (show R0 = false by rw [HR.out]; exact all_no hlt (step_okM hlt (HOK.out.trans OK.out)))
            go_wp2_with (first | ((with_reducible refine (DU.out _).mono ?_); rintro e w1 ⟨rfl, rfl⟩) | ((with_reducible refine (WI.out _).mono ?_); rintro e w5 ⟨rfl, g⟩; (clear d0 d1 d2 df e0 e1 e2 ef); (replace qb := (g.block _ (lt_of_block qb)).trans qb); (replace qx := (g.block _ (lt_of_block qx)).trans qx); (replace B8 := chain B8 g); (clear g); (obtain ⟨d0, d1, d2, df⟩ := block_cells3 qb); (obtain ⟨e0, e1, e2, ef⟩ := block_cells3 qx)) | ((with_reducible refine (IT.out _).mono ?_); rintro e w1 ⟨rfl, rfl⟩))
            go_ret
            exact ⟨ret_b RES.out.symm, chain B0 B8⟩
          | true =>
            cases vw with
            | false =>
              have OK := Lib.hid (show V = false by rw [HV.out, decide_eq_true hh0, decide_eq_true hh1]; simp)
              have RES := Lib.hid (show R0 = false by rw [HR.out]; exact all_no hlt (step_okM hlt (HOK.out.trans OK.out)))
              go_wp2_with (first | ((with_reducible refine (DU.out _).mono ?_); rintro e w1 ⟨rfl, rfl⟩) | ((with_reducible refine (WI.out _).mono ?_); rintro e w5 ⟨rfl, g⟩; (clear d0 d1 d2 df e0 e1 e2 ef); (replace qb := (g.block _ (lt_of_block qb)).trans qb); (replace qx := (g.block _ (lt_of_block qx)).trans qx); (replace B8 := chain B8 g); (clear g); (obtain ⟨d0, d1, d2, df⟩ := block_cells3 qb); (obtain ⟨e0, e1, e2, ef⟩ := block_cells3 qx)) | ((with_reducible refine (IT.out _).mono ?_); rintro e w1 ⟨rfl, rfl⟩))
              go_ret
              exact ⟨ret_b RES.out.symm, chain B0 B8⟩
            | true =>
              cases vt with
              | false =>
                have OK := Lib.hid (show V = false by rw [HV.out, decide_eq_true hh0, decide_eq_true hh1]; simp)
                have RES := Lib.hid (show R0 = false by rw [HR.out]; exact all_no hlt (step_okM hlt (HOK.out.trans OK.out)))
                go_wp2_with (first | ((with_reducible refine (DU.out _).mono ?_); rintro e w1 ⟨rfl, rfl⟩) | ((with_reducible refine (WI.out _).mono ?_); rintro e w5 ⟨rfl, g⟩; (clear d0 d1 d2 df e0 e1 e2 ef); (replace qb := (g.block _ (lt_of_block qb)).trans qb); (replace qx := (g.block _ (lt_of_block qx)).trans qx); (replace B8 := chain B8 g); (clear g); (obtain ⟨d0, d1, d2, df⟩ := block_cells3 qb); (obtain ⟨e0, e1, e2, ef⟩ := block_cells3 qx)) | ((with_reducible refine (IT.out _).mono ?_); rintro e w1 ⟨rfl, rfl⟩))
                go_ret
                exact ⟨ret_b RES.out.symm, chain B0 B8⟩
              | true =>
                have OK := Lib.hid (show V = true by rw [HV.out, decide_eq_true hh0, decide_eq_true hh1]; rfl)
                by_cases hk0 : k = 0
                · have ALL := Lib.hid (show (List.range (k + 1)).all (stepM low l) = true by
                    refine all_up HA.out ?_
                    subst hk0
                    exact step_firstM hlt (HOK.out.trans OK.out))
                  have F3 := Lib.hid (show decide (0 < (k : Int)) = false by simp; omega)
                  have F3N := Lib.hid (show decide (0 < k) = false by simp; omega)
                  clear hk0
                  go_wp2_with (first | ((with_reducible refine (DU.out _).mono ?_); rintro e w1 ⟨rfl, rfl⟩) | ((with_reducible refine (WI.out _).mono ?_); rintro e w5 ⟨rfl, g⟩; (clear d0 d1 d2 df e0 e1 e2 ef); (replace qb := (g.block _ (lt_of_block qb)).trans qb); (replace qx := (g.block _ (lt_of_block qx)).trans qx); (replace B8 := chain B8 g); (clear g); (obtain ⟨d0, d1, d2, df⟩ := block_cells3 qb); (obtain ⟨e0, e1, e2, ef⟩ := block_cells3 qx)) | ((with_reducible refine (IT.out _).mono ?_); rintro e w1 ⟨rfl, rfl⟩))
                  clear d0 d1 d2 df e0 e1 e2 ef
                  replace qb := show w5.drew.heap[w.heap.size]? = _ from qb
                  replace qx := show w5.drew.heap[wr.heap.size]? = _ from qx
                  replace B8 := B8.drew
                  refine g_start (by kernel_rfl) ?_
                  refine g_take (i := 0) (d := (some 56)) (v := ?_) rfl rfl (by kernel_rfl) (fun _ _ _ h => h) (by rfl) (fun w' hb' => ?_) ?_
                  rotate_left
                  · (try go_simp); (try with_reducible rfl)
                  try simp only [Act.put, List.setIfInBounds_toArray, List.set_cons_zero, List.set_cons_succ]
                  refine g_take (i := 1) (d := (some 57)) (v := ?_) rfl rfl (by kernel_rfl) (fun _ _ _ h => h) (by rfl) (fun w' hb' => ?_) ?_
                  rotate_left
                  · have f3 := F3.out; have f3n := F3N.out; (try go_simp); (try with_reducible rfl)
                  try simp only [Act.put, List.setIfInBounds_toArray, List.set_cons_zero, List.set_cons_succ]
                  refine g_take (i := 2) (d := (some 58)) (v := ?_) rfl rfl (by kernel_rfl) (fun _ _ _ h => h) (by rfl) (fun w' hb' => ?_) ?_
                  rotate_left
                  · (try go_simp); (try with_reducible rfl)
                  try simp only [Act.put, List.setIfInBounds_toArray, List.set_cons_zero, List.set_cons_succ]
                  refine g_skip (i := 3) (d := (some 59)) rfl rfl (by kernel_rfl) (fun _ _ _ h => h) (by rfl) ?_
                  try simp only [Act.put, List.setIfInBounds_toArray, List.set_cons_zero, List.set_cons_succ]
                  refine g_skip (i := 4) (d := (some 60)) rfl rfl (by kernel_rfl) (fun _ _ _ h => h) (by rfl) ?_
                  try simp only [Act.put, List.setIfInBounds_toArray, List.set_cons_zero, List.set_cons_succ]
                  refine g_skip (i := 5) (d := (some 61)) rfl rfl (by kernel_rfl) (fun _ _ _ h => h) (by rfl) ?_
                  try simp only [Act.put, List.setIfInBounds_toArray, List.set_cons_zero, List.set_cons_succ]
                  refine g_skip (i := 6) (d := (some 62)) rfl rfl (by kernel_rfl) (fun _ _ _ h => h) (by rfl) ?_
                  try simp only [Act.put, List.setIfInBounds_toArray, List.set_cons_zero, List.set_cons_succ]
                  refine g_skip (i := 7) (d := (some 63)) rfl rfl (by kernel_rfl) (fun _ _ _ h => h) (by rfl) ?_
                  try simp only [Act.put, List.setIfInBounds_toArray, List.set_cons_zero, List.set_cons_succ]
                  refine g_skip (i := 8) (d := (some 64)) rfl rfl (by kernel_rfl) (fun _ _ _ h => h) (by rfl) ?_
                  try simp only [Act.put, List.setIfInBounds_toArray, List.set_cons_zero, List.set_cons_succ]
                  refine g_skip (i := 9) (d := (some 65)) rfl rfl (by kernel_rfl) (fun _ _ _ h => h) (by rfl) ?_
                  try simp only [Act.put, List.setIfInBounds_toArray, List.set_cons_zero, List.set_cons_succ]
                  refine g_skip (i := 10) (d := (some 66)) rfl rfl (by kernel_rfl) (fun _ _ _ h => h) (by rfl) ?_
                  try simp only [Act.put, List.setIfInBounds_toArray, List.set_cons_zero, List.set_cons_succ]
                  refine g_skip (i := 11) (d := (some 67)) rfl rfl (by kernel_rfl) (fun _ _ _ h => h) (by rfl) ?_
                  try simp only [Act.put, List.setIfInBounds_toArray, List.set_cons_zero, List.set_cons_succ]
                  refine g_take (i := 12) (d := (some 68)) (v := ?_) rfl rfl (by kernel_rfl) (fun _ _ _ h => h) (by rfl) (fun w' hb' => ?_) ?_
                  rotate_left
                  · (try go_simp); (try with_reducible rfl)
                  try simp only [Act.put, List.setIfInBounds_toArray, List.set_cons_zero, List.set_cons_succ]
                  refine g_done (by kernel_rfl) ?_
                  go_wp2_with fail
                  exact ⟨⟨k + 1, by omega, by push_cast; rfl, ALL, B8⟩, by simp [intOf]; omega⟩
                · obtain ⟨j, hj⟩ : ∃ j, k = j + 1 := ⟨k - 1, by omega⟩
                  have hjl : j < l.length := by omega
                  obtain ⟨b', o', hbo, -, P0, P1, P2⟩ := rdt_cells HRD.out j hjl
                  cases hbo
                  have ST0 := fun (e : okM low l[k] = true) => (show stepM low l k = aheadB (l[j]'hjl) l[k] by subst hj; exact step_nextM hlt e)
                  have ST1 := ST0 (HOK.out.trans OK.out)
                  obtain ⟨y, hy⟩ : ∃ y, y = (l[j]'hjl) := ⟨_, rfl⟩
                  rw [← hy] at P0 P1 P2 ST1
                  rw [← HX.out] at ST1
                  have BF0 := fun w => before_any y ⟨a, b, c⟩ w
                  obtain ⟨q, hq⟩ : ∃ q, q = aheadB y ⟨a, b, c⟩ := ⟨_, rfl⟩
                  rw [← hq] at BF0 ST1
                  have ST := Lib.hid ST1
                  obtain ⟨ya, yb, yc⟩ := y
                  unfold vtV at BF0
                  simp only at P0 P1 P2 BF0
                  have BF := Lib.hid BF0
                  have F1 := Lib.hid (show IntKind.i64.wrap (j : Int) = (j : Int) by rw [IntKind.wrap_i64]; omega)
                  have F2 := Lib.hid (show (k : Int) - 1 = (j : Int) by omega)
                  have F3 := Lib.hid (show decide (0 < (k : Int)) = true by simp; omega)
                  have F3N := Lib.hid (show decide (0 < k) = true by simp; omega)
                  have F4 := Lib.hid (show (j : Int) < l.length by omega)
                  clear hj hy hk0 ST0 ST1 BF0 hq
                  cases q with
                  | true =>
                    have ALL := Lib.hid (show (List.range (k + 1)).all (stepM low l) = true from all_up HA.out ST.out)
                    go_wp2_with (first | ((with_reducible refine (DU.out _).mono ?_); rintro e w1 ⟨rfl, rfl⟩) | ((with_reducible refine (WI.out _).mono ?_); rintro e w5 ⟨rfl, g⟩; (clear d0 d1 d2 df e0 e1 e2 ef); (replace qb := (g.block _ (lt_of_block qb)).trans qb); (replace qx := (g.block _ (lt_of_block qx)).trans qx); (replace B8 := chain B8 g); (clear g); (obtain ⟨d0, d1, d2, df⟩ := block_cells3 qb); (obtain ⟨e0, e1, e2, ef⟩ := block_cells3 qx)) | ((with_reducible refine (IT.out _).mono ?_); rintro e w1 ⟨rfl, rfl⟩))
                    clear d0 d1 d2 df e0 e1 e2 ef
                    replace qb := show w5.drew.heap[w.heap.size]? = _ from qb
                    replace qx := show w5.drew.heap[wr.heap.size]? = _ from qx
                    replace B8 := B8.drew
                    refine g_start (by kernel_rfl) ?_
                    refine g_take (i := 0) (d := (some 56)) (v := ?_) rfl rfl (by kernel_rfl) (fun _ _ _ h => h) (by rfl) (fun w' hb' => ?_) ?_
                    rotate_left
                    · (try go_simp); (try with_reducible rfl)
                    try simp only [Act.put, List.setIfInBounds_toArray, List.set_cons_zero, List.set_cons_succ]
                    refine g_take (i := 1) (d := (some 57)) (v := ?_) rfl rfl (by kernel_rfl) (fun _ _ _ h => h) (by rfl) (fun w' hb' => ?_) ?_
                    rotate_left
                    · have f3 := F3.out; have f3n := F3N.out; (try go_simp); (try with_reducible rfl)
                    try simp only [Act.put, List.setIfInBounds_toArray, List.set_cons_zero, List.set_cons_succ]
                    refine g_take (i := 2) (d := (some 58)) (v := ?_) rfl rfl (by kernel_rfl) (fun _ _ _ h => h) (by rfl) (fun w' hb' => ?_) ?_
                    rotate_left
                    · (try go_simp); (try with_reducible rfl)
                    try simp only [Act.put, List.setIfInBounds_toArray, List.set_cons_zero, List.set_cons_succ]
                    refine g_take (i := 3) (d := (some 59)) (v := ?_) rfl rfl (by kernel_rfl) (fun _ _ _ h => h) (by rfl) (fun w' hb' => ?_) ?_
                    rotate_left
                    · (try go_simp); (try with_reducible rfl)
                    try simp only [Act.put, List.setIfInBounds_toArray, List.set_cons_zero, List.set_cons_succ]
                    refine g_take (i := 4) (d := (some 60)) (v := ?_) rfl rfl (by kernel_rfl) (fun _ _ _ h => h) (by rfl) (fun w' hb' => ?_) ?_
                    rotate_left
                    · obtain ⟨d0, d1, d2, df⟩ := block_cells3 ((hb'.block _ (lt_of_block qb)).trans qb); (try go_simp); (try with_reducible rfl)
                    try simp only [Act.put, List.setIfInBounds_toArray, List.set_cons_zero, List.set_cons_succ]
                    refine g_take (i := 5) (d := (some 61)) (v := ?_) rfl rfl (by kernel_rfl) (fun _ _ _ h => h) (by rfl) (fun w' hb' => ?_) ?_
                    rotate_left
                    · (try go_simp); (try with_reducible rfl)
                    try simp only [Act.put, List.setIfInBounds_toArray, List.set_cons_zero, List.set_cons_succ]
                    refine g_take (i := 6) (d := (some 62)) (v := ?_) rfl rfl (by kernel_rfl) (fun _ _ _ h => h) (by rfl) (fun w' hb' => ?_) ?_
                    rotate_left
                    · have f1 := F1.out; have f2 := F2.out; (try go_simp); (try with_reducible rfl)
                    try simp only [Act.put, List.setIfInBounds_toArray, List.set_cons_zero, List.set_cons_succ]
                    refine g_take (i := 7) (d := (some 63)) (v := ?_) rfl rfl (by kernel_rfl) (fun _ _ _ h => h) (by rfl) (fun w' hb' => ?_) ?_
                    rotate_left
                    · have f4 := F4.out; (try go_simp); (try with_reducible rfl)
                    try simp only [Act.put, List.setIfInBounds_toArray, List.set_cons_zero, List.set_cons_succ]
                    refine g_take (i := 8) (d := (some 64)) (v := ?_) rfl rfl (by kernel_rfl) (fun _ _ _ h => h) (by rfl) (fun w' hb' => ?_) ?_
                    rotate_left
                    · have p0 := ((chain B8 hb').cell (p := ⟨pb, po + j * 3, none⟩) hpb).trans P0; have p1 := ((chain B8 hb').cell (p := ⟨pb, po + j * 3 + 1, none⟩) hpb).trans P1; have p2 := ((chain B8 hb').cell (p := ⟨pb, po + j * 3 + 2, none⟩) hpb).trans P2; (try go_simp); (try with_reducible rfl)
                    try simp only [Act.put, List.setIfInBounds_toArray, List.set_cons_zero, List.set_cons_succ]
                    refine g_take (i := 9) (d := (some 65)) (v := ?_) rfl rfl (by kernel_rfl) (fun _ _ _ h => h) (by rfl) (fun w' hb' => ?_) ?_
                    rotate_left
                    · obtain ⟨e0, e1, e2, ef⟩ := block_cells3 ((hb'.block _ (lt_of_block qx)).trans qx); (try go_simp); (try with_reducible rfl)
                    try simp only [Act.put, List.setIfInBounds_toArray, List.set_cons_zero, List.set_cons_succ]
                    refine g_run (i := 10) rfl (by kernel_rfl) (by rfl) (fun K hK => ?_)
                    go_simp; refine (BF.out _).mono ?_; rintro e w6 ⟨rfl, g⟩; have B9 := chain B8 g; refine hK _ _ ⟨g, ?_⟩; clear hK K g
                    try simp only [Act.put, List.setIfInBounds_toArray, List.set_cons_zero, List.set_cons_succ]
                    refine g_take (i := 11) (d := (some 67)) (v := ?_) rfl rfl (by kernel_rfl) (fun _ _ _ h => h) (by rfl) (fun w' hb' => ?_) ?_
                    rotate_left
                    · (try go_simp); (try with_reducible rfl)
                    try simp only [Act.put, List.setIfInBounds_toArray, List.set_cons_zero, List.set_cons_succ]
                    refine g_take (i := 12) (d := (some 68)) (v := ?_) rfl rfl (by kernel_rfl) (fun _ _ _ h => h) (by rfl) (fun w' hb' => ?_) ?_
                    rotate_left
                    · (try go_simp); (try with_reducible rfl)
                    try simp only [Act.put, List.setIfInBounds_toArray, List.set_cons_zero, List.set_cons_succ]
                    refine g_done (by kernel_rfl) ?_
                    go_wp2_with fail
                    exact ⟨⟨k + 1, by omega, by push_cast; rfl, ALL, B9⟩, by simp [intOf]; omega⟩
                  | false =>
                    have RES := Lib.hid (show R0 = false by rw [HR.out]; exact all_no hlt ST.out)
                    go_wp2_with (first | ((with_reducible refine (DU.out _).mono ?_); rintro e w1 ⟨rfl, rfl⟩) | ((with_reducible refine (WI.out _).mono ?_); rintro e w5 ⟨rfl, g⟩; (clear d0 d1 d2 df e0 e1 e2 ef); (replace qb := (g.block _ (lt_of_block qb)).trans qb); (replace qx := (g.block _ (lt_of_block qx)).trans qx); (replace B8 := chain B8 g); (clear g); (obtain ⟨d0, d1, d2, df⟩ := block_cells3 qb); (obtain ⟨e0, e1, e2, ef⟩ := block_cells3 qx)) | ((with_reducible refine (IT.out _).mono ?_); rintro e w1 ⟨rfl, rfl⟩))
                    clear d0 d1 d2 df e0 e1 e2 ef
                    replace qb := show w5.drew.heap[w.heap.size]? = _ from qb
                    replace qx := show w5.drew.heap[wr.heap.size]? = _ from qx
                    replace B8 := B8.drew
                    refine g_start (by kernel_rfl) ?_
                    refine g_take (i := 0) (d := (some 56)) (v := ?_) rfl rfl (by kernel_rfl) (fun _ _ _ h => h) (by rfl) (fun w' hb' => ?_) ?_
                    rotate_left
                    · (try go_simp); (try with_reducible rfl)
                    try simp only [Act.put, List.setIfInBounds_toArray, List.set_cons_zero, List.set_cons_succ]
                    refine g_take (i := 1) (d := (some 57)) (v := ?_) rfl rfl (by kernel_rfl) (fun _ _ _ h => h) (by rfl) (fun w' hb' => ?_) ?_
                    rotate_left
                    · have f3 := F3.out; have f3n := F3N.out; (try go_simp); (try with_reducible rfl)
                    try simp only [Act.put, List.setIfInBounds_toArray, List.set_cons_zero, List.set_cons_succ]
                    refine g_take (i := 2) (d := (some 58)) (v := ?_) rfl rfl (by kernel_rfl) (fun _ _ _ h => h) (by rfl) (fun w' hb' => ?_) ?_
                    rotate_left
                    · (try go_simp); (try with_reducible rfl)
                    try simp only [Act.put, List.setIfInBounds_toArray, List.set_cons_zero, List.set_cons_succ]
                    refine g_take (i := 3) (d := (some 59)) (v := ?_) rfl rfl (by kernel_rfl) (fun _ _ _ h => h) (by rfl) (fun w' hb' => ?_) ?_
                    rotate_left
                    · (try go_simp); (try with_reducible rfl)
                    try simp only [Act.put, List.setIfInBounds_toArray, List.set_cons_zero, List.set_cons_succ]
                    refine g_take (i := 4) (d := (some 60)) (v := ?_) rfl rfl (by kernel_rfl) (fun _ _ _ h => h) (by rfl) (fun w' hb' => ?_) ?_
                    rotate_left
                    · obtain ⟨d0, d1, d2, df⟩ := block_cells3 ((hb'.block _ (lt_of_block qb)).trans qb); (try go_simp); (try with_reducible rfl)
                    try simp only [Act.put, List.setIfInBounds_toArray, List.set_cons_zero, List.set_cons_succ]
                    refine g_take (i := 5) (d := (some 61)) (v := ?_) rfl rfl (by kernel_rfl) (fun _ _ _ h => h) (by rfl) (fun w' hb' => ?_) ?_
                    rotate_left
                    · (try go_simp); (try with_reducible rfl)
                    try simp only [Act.put, List.setIfInBounds_toArray, List.set_cons_zero, List.set_cons_succ]
                    refine g_take (i := 6) (d := (some 62)) (v := ?_) rfl rfl (by kernel_rfl) (fun _ _ _ h => h) (by rfl) (fun w' hb' => ?_) ?_
                    rotate_left
                    · have f1 := F1.out; have f2 := F2.out; (try go_simp); (try with_reducible rfl)
                    try simp only [Act.put, List.setIfInBounds_toArray, List.set_cons_zero, List.set_cons_succ]
                    refine g_take (i := 7) (d := (some 63)) (v := ?_) rfl rfl (by kernel_rfl) (fun _ _ _ h => h) (by rfl) (fun w' hb' => ?_) ?_
                    rotate_left
                    · have f4 := F4.out; (try go_simp); (try with_reducible rfl)
                    try simp only [Act.put, List.setIfInBounds_toArray, List.set_cons_zero, List.set_cons_succ]
                    refine g_take (i := 8) (d := (some 64)) (v := ?_) rfl rfl (by kernel_rfl) (fun _ _ _ h => h) (by rfl) (fun w' hb' => ?_) ?_
                    rotate_left
                    · have p0 := ((chain B8 hb').cell (p := ⟨pb, po + j * 3, none⟩) hpb).trans P0; have p1 := ((chain B8 hb').cell (p := ⟨pb, po + j * 3 + 1, none⟩) hpb).trans P1; have p2 := ((chain B8 hb').cell (p := ⟨pb, po + j * 3 + 2, none⟩) hpb).trans P2; (try go_simp); (try with_reducible rfl)
                    try simp only [Act.put, List.setIfInBounds_toArray, List.set_cons_zero, List.set_cons_succ]
                    refine g_take (i := 9) (d := (some 65)) (v := ?_) rfl rfl (by kernel_rfl) (fun _ _ _ h => h) (by rfl) (fun w' hb' => ?_) ?_
                    rotate_left
                    · obtain ⟨e0, e1, e2, ef⟩ := block_cells3 ((hb'.block _ (lt_of_block qx)).trans qx); (try go_simp); (try with_reducible rfl)
                    try simp only [Act.put, List.setIfInBounds_toArray, List.set_cons_zero, List.set_cons_succ]
                    refine g_run (i := 10) rfl (by kernel_rfl) (by rfl) (fun K hK => ?_)
                    go_simp; refine (BF.out _).mono ?_; rintro e w6 ⟨rfl, g⟩; have B9 := chain B8 g; refine hK _ _ ⟨g, ?_⟩; clear hK K g
                    try simp only [Act.put, List.setIfInBounds_toArray, List.set_cons_zero, List.set_cons_succ]
                    refine g_take (i := 11) (d := (some 67)) (v := ?_) rfl rfl (by kernel_rfl) (fun _ _ _ h => h) (by rfl) (fun w' hb' => ?_) ?_
                    rotate_left
                    · (try go_simp); (try with_reducible rfl)
                    try simp only [Act.put, List.setIfInBounds_toArray, List.set_cons_zero, List.set_cons_succ]
                    refine g_take (i := 12) (d := (some 68)) (v := ?_) rfl rfl (by kernel_rfl) (fun _ _ _ h => h) (by rfl) (fun w' hb' => ?_) ?_
                    rotate_left
                    · (try go_simp); (try with_reducible rfl)
                    try simp only [Act.put, List.setIfInBounds_toArray, List.set_cons_zero, List.set_cons_succ]
                    refine g_done (by kernel_rfl) ?_
                    go_wp2_with fail
                    go_ret
                    exact ⟨ret_b RES.out.symm, chain B0 B9⟩
        · have n1 : 64 ≤ a := by omega
          have OK := Lib.hid (show V = false by rw [HV.out, decide_eq_true hh0, decide_eq_false hh1]; rfl)
          have RES := Lib.hid (show R0 = false by rw [HR.out]; exact all_no hlt (step_okM hlt (HOK.out.trans OK.out)))
          go_wp2_with (first | ((with_reducible refine (DU.out _).mono ?_); rintro e w1 ⟨rfl, rfl⟩) | ((with_reducible refine (WI.out _).mono ?_); rintro e w5 ⟨rfl, g⟩; (clear d0 d1 d2 df e0 e1 e2 ef); (replace qb := (g.block _ (lt_of_block qb)).trans qb); (replace qx := (g.block _ (lt_of_block qx)).trans qx); (replace B8 := chain B8 g); (clear g); (obtain ⟨d0, d1, d2, df⟩ := block_cells3 qb); (obtain ⟨e0, e1, e2, ef⟩ := block_cells3 qx)) | ((with_reducible refine (IT.out _).mono ?_); rintro e w1 ⟨rfl, rfl⟩))
          go_ret
          exact ⟨ret_b RES.out.symm, chain B0 B8⟩
      · have n0 : a < 0 := by omega
        have OK := Lib.hid (show V = false by rw [HV.out, decide_eq_false hh0]; rfl)
        have RES := Lib.hid (show R0 = false by rw [HR.out]; exact all_no hlt (step_okM hlt (HOK.out.trans OK.out)))
        go_wp2_with (first | ((with_reducible refine (DU.out _).mono ?_); rintro e w1 ⟨rfl, rfl⟩) | ((with_reducible refine (WI.out _).mono ?_); rintro e w5 ⟨rfl, g⟩; (clear d0 d1 d2 df e0 e1 e2 ef); (replace qb := (g.block _ (lt_of_block qb)).trans qb); (replace qx := (g.block _ (lt_of_block qx)).trans qx); (replace B8 := chain B8 g); (clear g); (obtain ⟨d0, d1, d2, df⟩ := block_cells3 qb); (obtain ⟨e0, e1, e2, ef⟩ := block_cells3 qx)) | ((with_reducible refine (IT.out _).mono ?_); rintro e w1 ⟨rfl, rfl⟩))
        go_ret
        exact ⟨ret_b RES.out.symm, chain B0 B8⟩
    · obtain rfl : k = l.length := by omega
      have RES := Lib.hid (show R0 = true by rw [HR.out]; exact HA.out)
      go_wp2_with fail
      go_ret
      exact ⟨ret_b RES.out.symm, chain B0 BK⟩
theorem all_R_refMay {m : Ms} {R n1 n2 z : Bool} {L : Bool} (h : R = mayM m) (h1 : n1 = numB m.low) (hz : z = decide (m.low % 4 = 0)) (h2 : n2 = numB m.root) (hL : L = allM m.low m.l) : R = (n1 && (z && (n2 && L))) := by
  rw [h, h1, hz, h2, hL]; rfl
set_option maxHeartbeats 2000000 in
theorem refMay_any (m : Ms) (v : Value) (w : World) (h : RdM w m v) : Calls Try.prog 9 #[mV m v] w fun e w' => e = .returned (.bool (mayM m)) ∧ Below w.heap.size w w' := by
  obtain ⟨ao, cap, rfl, hc, hm, hr⟩ := RdK.open h.l
  have hr : RdT w (.slice ao m.l.length cap) m.l := hr
  have hbs := h.b
  obtain ⟨R0, hR0⟩ : ∃ R, R = mayM m := ⟨_, rfl⟩
  rw [← hR0]
  obtain ⟨n1, hn1⟩ : ∃ n, n = numB m.low := ⟨_, rfl⟩
  obtain ⟨z, hz⟩ : ∃ n, n = decide (m.low % 4 = 0) := ⟨_, rfl⟩
  obtain ⟨n2, hn2⟩ : ∃ n, n = numB m.root := ⟨_, rfl⟩
  obtain ⟨R, hR⟩ : ∃ n, n = allM m.low m.l := ⟨_, rfl⟩
  have ER := all_R_refMay hR0 hn1 hz hn2 hR
  obtain ⟨low, root, l⟩ := m
  simp only at hn1 hz hn2 hR hbs hr hc
  have IV0 := fun w => refNum_any low w
  have IR0 := fun w => refNum_any root w
  rw [← hn1] at IV0
  rw [← hn2] at IR0
  have IV := Lib.hid IV0
  have IR := Lib.hid IR0
  unfold mV
  simp only
  obtain ⟨W0, hW0⟩ : ∃ W, W = w.alloc (.cells #[.int .i64 low, .int .i64 root, .slice ao l.length cap] 24) := ⟨_, rfl⟩
  have qb := heap_alloc_new w (.cells #[.int .i64 low, .int .i64 root, .slice ao l.length cap] 24)
  have B0 := (Below.refl w.heap.size w).alloc (Nat.le_refl _) (.cells #[.int .i64 low, .int .i64 root, .slice ao l.length cap] 24)
  rw [← hW0] at qb B0
  have QB := Lib.hid qb
  have HRD := Lib.hid (RdT.below hr B0 (Nat.le_refl _))
  have HBS := Lib.hid hbs
  obtain ⟨d0, d1, d2, df⟩ := block_cells3 qb
  clear hr hR0 IV0 IR0 hbs h
  cases n1 with
  | false =>
    have RES := Lib.hid (show R0 = false by rw [ER]; rfl)
    clear ER hn1 hz hn2 hR
    subst hW0
    go_enter Try.func9, Try.ntmps9
    go_wp2_with (first | ((with_reducible refine (IV.out _).mono ?_); rintro e w1 ⟨rfl, rfl⟩) | ((with_reducible refine (IR.out _).mono ?_); rintro e w1 ⟨rfl, rfl⟩))
    go_ret
    exact ⟨ret_b RES.out.symm, B0⟩
  | true =>
  have h0 : 0 ≤ low := by have := hn1.symm; unfold numB at this; simp at this; exact this.1
  cases z with
  | false =>
    have RES := Lib.hid (show R0 = false by rw [ER]; rfl)
    have gz : (low % 4 == 0) = false := by simpa using hz.symm
    have gz2 : (low % 4 != 0) = true := by simpa using hz.symm
    clear ER hz hn1 hn2 hR
    subst hW0
    go_enter Try.func9, Try.ntmps9
    go_wp2_with (first | ((with_reducible refine (IV.out _).mono ?_); rintro e w1 ⟨rfl, rfl⟩) | ((with_reducible refine (IR.out _).mono ?_); rintro e w1 ⟨rfl, rfl⟩))
    go_ret
    exact ⟨ret_b RES.out.symm, B0⟩
  | true =>
  have gz : (low % 4 == 0) = true := by simpa using hz.symm
  have gz2 : (low % 4 != 0) = false := by simpa using hz.symm
  cases n2 with
  | false =>
    have RES := Lib.hid (show R0 = false by rw [ER]; rfl)
    clear ER hz hn1 hn2 hR
    subst hW0
    go_enter Try.func9, Try.ntmps9
    go_wp2_with (first | ((with_reducible refine (IV.out _).mono ?_); rintro e w1 ⟨rfl, rfl⟩) | ((with_reducible refine (IR.out _).mono ?_); rintro e w1 ⟨rfl, rfl⟩))
    go_ret
    exact ⟨ret_b RES.out.symm, B0⟩
  | true =>
  have HR := Lib.hid (show R0 = (List.range l.length).all (stepM low l) by rw [ER, hR]; rfl)
  clear ER hz hR hn1 hn2
  go_enter Try.func9, Try.ntmps9
  go_upto_region 1 with fail
  rw [← hW0]
  clear hW0
  go_wp2_with (first | ((with_reducible refine (IV.out _).mono ?_); rintro e w1 ⟨rfl, rfl⟩) | ((with_reducible refine (IR.out _).mono ?_); rintro e w1 ⟨rfl, rfl⟩))
  clear d0 d1 d2 df gz gz2 IV IR qb
  go_loopw [3] (fun i wr => ∃ k : Nat, k ≤ l.length ∧ i = .int .i64 (k : Int) ∧ Hid ((List.range k).all (stepM low l) = true) ∧ Below W0.heap.size W0 wr) (fun i _ => l.length - (intOf i).toNat)
  case atStart => exact ⟨0, Nat.zero_le _, rfl, Lib.hid rfl, Below.refl _ _⟩
  case round =>
    obtain ⟨k, hk, rfl, HA, BK⟩ := hrel
    have qb := (BK.block _ (lt_of_block QB.out)).trans QB.out
    obtain ⟨d0, d1, d2, df⟩ := block_cells3 qb
    by_cases hlt : k < l.length
    · obtain ⟨pb, po, rfl, hpb, C0, C1, C2⟩ := rdt_cells HRD.out k hlt
      have c0 := (BK.cell (p := ⟨pb, po + k * 3, none⟩) hpb).trans C0
      have c1 := (BK.cell (p := ⟨pb, po + k * 3 + 1, none⟩) hpb).trans C1
      have c2 := (BK.cell (p := ⟨pb, po + k * 3 + 2, none⟩) hpb).trans C2
      have hsb := HBS.out l[k] (List.getElem_mem hlt)
      obtain ⟨x, hx⟩ : ∃ x, x = l[k] := ⟨_, rfl⟩
      obtain ⟨V, hV⟩ : ∃ V, V = okM low x := ⟨_, rfl⟩
      have HOK := Lib.hid (show okM low l[k] = V by rw [hV, hx])
      rw [← hx] at c0 c1 c2 hsb
      obtain ⟨a, b, c⟩ := x
      have HX := Lib.hid hx
      simp only at c0 c1 c2 hsb
      unfold okM at hV
      simp only at hV
      have DU0 := fun w => refDue_any b w
      have IT0 := fun w => refNum_any c w
      have WI0 := fun w => refWithin_any low b h0 w
      obtain ⟨vd, hvd⟩ : ∃ q, q = dueB b := ⟨_, rfl⟩
      obtain ⟨vw, hvw⟩ : ∃ q, q = witB low b := ⟨_, rfl⟩
      obtain ⟨vt, hvt⟩ : ∃ q, q = numB c := ⟨_, rfl⟩
      rw [← hvd] at DU0 hV
      rw [← hvw] at WI0 hV
      rw [← hvt] at IT0 hV
      have DU := Lib.hid DU0
      have IT := Lib.hid IT0
      have WI := Lib.hid WI0
      have HV := Lib.hid hV
      clear DU0 IT0 WI0 hV hvd hvw hvt hx hsb C0 C1 C2
      go_upto_region 7 with fail
      obtain ⟨W8, hW8⟩ : ∃ W, W = wr.alloc (.cells #[.int .i64 a, .int .i64 b, .int .i64 c] 30) := ⟨_, rfl⟩
      rw [← hW8]
      have qx : W8.heap[wr.heap.size]? = some (.cells #[.int .i64 a, .int .i64 b, .int .i64 c] 30 (0, 0)) := by rw [hW8]; exact heap_alloc_new _ _
      replace qb : W8.heap[w.heap.size]? = some (.cells #[.int .i64 low, .int .i64 root, .slice (some ⟨pb, po, none⟩) l.length cap] 24 (0, 0)) := by rw [hW8]; exact (heap_alloc_old _ _ (lt_of_block qb)).trans qb
      have B8 : Below W0.heap.size W0 W8 := by rw [hW8]; exact BK.alloc BK.size _
      clear hW8 c0 c1 c2 d0 d1 d2 df BK
      obtain ⟨d0, d1, d2, df⟩ := block_cells3 qb
      obtain ⟨e0, e1, e2, ef⟩ := block_cells3 qx
      by_cases hh0 : 0 ≤ a
      · skip
        by_cases hh1 : a ≤ 63
        · skip
          cases vt with
          | false =>
            have OK := Lib.hid (show V = false by rw [HV.out, decide_eq_true hh0, decide_eq_true hh1]; simp)
            have RES := Lib.hid (show R0 = false by rw [HR.out]; exact all_no hlt (step_okM hlt (HOK.out.trans OK.out)))
            go_wp2_with (first | ((with_reducible refine (DU.out _).mono ?_); rintro e w1 ⟨rfl, rfl⟩) | ((with_reducible refine (WI.out _).mono ?_); rintro e w5 ⟨rfl, rfl⟩) | ((with_reducible refine (IT.out _).mono ?_); rintro e w1 ⟨rfl, rfl⟩))
            go_ret
            exact ⟨ret_b RES.out.symm, chain B0 B8⟩
          | true =>
            cases vd with
            | false =>
              have OK := Lib.hid (show V = false by rw [HV.out, decide_eq_true hh0, decide_eq_true hh1]; simp)
              have RES := Lib.hid (show R0 = false by rw [HR.out]; exact all_no hlt (step_okM hlt (HOK.out.trans OK.out)))
              go_wp2_with (first | ((with_reducible refine (DU.out _).mono ?_); rintro e w1 ⟨rfl, rfl⟩) | ((with_reducible refine (WI.out _).mono ?_); rintro e w5 ⟨rfl, rfl⟩) | ((with_reducible refine (IT.out _).mono ?_); rintro e w1 ⟨rfl, rfl⟩))
              go_ret
              exact ⟨ret_b RES.out.symm, chain B0 B8⟩
            | true =>
              cases vw with
              | false =>
                have OK := Lib.hid (show V = false by rw [HV.out, decide_eq_true hh0, decide_eq_true hh1]; simp)
                have RES := Lib.hid (show R0 = false by rw [HR.out]; exact all_no hlt (step_okM hlt (HOK.out.trans OK.out)))
                go_wp2_with (first | ((with_reducible refine (DU.out _).mono ?_); rintro e w1 ⟨rfl, rfl⟩) | ((with_reducible refine (WI.out _).mono ?_); rintro e w5 ⟨rfl, rfl⟩) | ((with_reducible refine (IT.out _).mono ?_); rintro e w1 ⟨rfl, rfl⟩))
                go_ret
                exact ⟨ret_b RES.out.symm, chain B0 B8⟩
              | true =>
                have OK := Lib.hid (show V = true by rw [HV.out, decide_eq_true hh0, decide_eq_true hh1]; rfl)
                by_cases hk0 : k = 0
                · have ALL := Lib.hid (show (List.range (k + 1)).all (stepM low l) = true by
                    refine all_up HA.out ?_
                    subst hk0
                    exact step_firstM hlt (HOK.out.trans OK.out))
                  have F3 := Lib.hid (show decide (0 < (k : Int)) = false by simp; omega)
                  have F3N := Lib.hid (show decide (0 < k) = false by simp; omega)
                  clear hk0
                  go_wp2_with (first | ((with_reducible refine (DU.out _).mono ?_); rintro e w1 ⟨rfl, rfl⟩) | ((with_reducible refine (WI.out _).mono ?_); rintro e w5 ⟨rfl, rfl⟩) | ((with_reducible refine (IT.out _).mono ?_); rintro e w1 ⟨rfl, rfl⟩))
                  clear d0 d1 d2 df e0 e1 e2 ef
                  replace qb := show W8.drew.heap[w.heap.size]? = _ from qb
                  replace qx := show W8.drew.heap[wr.heap.size]? = _ from qx
                  replace B8 := B8.drew
                  refine g_start (by kernel_rfl) ?_
                  refine g_take (i := 0) (d := (some 61)) (v := ?_) rfl rfl (by kernel_rfl) (fun _ _ _ h => h) (by rfl) (fun w' hb' => ?_) ?_
                  rotate_left
                  · (try go_simp); (try with_reducible rfl)
                  try simp only [Act.put, List.setIfInBounds_toArray, List.set_cons_zero, List.set_cons_succ]
                  refine g_take (i := 1) (d := (some 62)) (v := ?_) rfl rfl (by kernel_rfl) (fun _ _ _ h => h) (by rfl) (fun w' hb' => ?_) ?_
                  rotate_left
                  · have f3 := F3.out; have f3n := F3N.out; (try go_simp); (try with_reducible rfl)
                  try simp only [Act.put, List.setIfInBounds_toArray, List.set_cons_zero, List.set_cons_succ]
                  refine g_take (i := 2) (d := (some 63)) (v := ?_) rfl rfl (by kernel_rfl) (fun _ _ _ h => h) (by rfl) (fun w' hb' => ?_) ?_
                  rotate_left
                  · (try go_simp); (try with_reducible rfl)
                  try simp only [Act.put, List.setIfInBounds_toArray, List.set_cons_zero, List.set_cons_succ]
                  refine g_skip (i := 3) (d := (some 64)) rfl rfl (by kernel_rfl) (fun _ _ _ h => h) (by rfl) ?_
                  try simp only [Act.put, List.setIfInBounds_toArray, List.set_cons_zero, List.set_cons_succ]
                  refine g_skip (i := 4) (d := (some 65)) rfl rfl (by kernel_rfl) (fun _ _ _ h => h) (by rfl) ?_
                  try simp only [Act.put, List.setIfInBounds_toArray, List.set_cons_zero, List.set_cons_succ]
                  refine g_skip (i := 5) (d := (some 66)) rfl rfl (by kernel_rfl) (fun _ _ _ h => h) (by rfl) ?_
                  try simp only [Act.put, List.setIfInBounds_toArray, List.set_cons_zero, List.set_cons_succ]
                  refine g_skip (i := 6) (d := (some 67)) rfl rfl (by kernel_rfl) (fun _ _ _ h => h) (by rfl) ?_
                  try simp only [Act.put, List.setIfInBounds_toArray, List.set_cons_zero, List.set_cons_succ]
                  refine g_skip (i := 7) (d := (some 68)) rfl rfl (by kernel_rfl) (fun _ _ _ h => h) (by rfl) ?_
                  try simp only [Act.put, List.setIfInBounds_toArray, List.set_cons_zero, List.set_cons_succ]
                  refine g_skip (i := 8) (d := (some 69)) rfl rfl (by kernel_rfl) (fun _ _ _ h => h) (by rfl) ?_
                  try simp only [Act.put, List.setIfInBounds_toArray, List.set_cons_zero, List.set_cons_succ]
                  refine g_skip (i := 9) (d := (some 70)) rfl rfl (by kernel_rfl) (fun _ _ _ h => h) (by rfl) ?_
                  try simp only [Act.put, List.setIfInBounds_toArray, List.set_cons_zero, List.set_cons_succ]
                  refine g_skip (i := 10) (d := (some 71)) rfl rfl (by kernel_rfl) (fun _ _ _ h => h) (by rfl) ?_
                  try simp only [Act.put, List.setIfInBounds_toArray, List.set_cons_zero, List.set_cons_succ]
                  refine g_skip (i := 11) (d := (some 72)) rfl rfl (by kernel_rfl) (fun _ _ _ h => h) (by rfl) ?_
                  try simp only [Act.put, List.setIfInBounds_toArray, List.set_cons_zero, List.set_cons_succ]
                  refine g_take (i := 12) (d := (some 73)) (v := ?_) rfl rfl (by kernel_rfl) (fun _ _ _ h => h) (by rfl) (fun w' hb' => ?_) ?_
                  rotate_left
                  · (try go_simp); (try with_reducible rfl)
                  try simp only [Act.put, List.setIfInBounds_toArray, List.set_cons_zero, List.set_cons_succ]
                  refine g_done (by kernel_rfl) ?_
                  go_wp2_with fail
                  exact ⟨⟨k + 1, by omega, by push_cast; rfl, ALL, B8⟩, by simp [intOf]; omega⟩
                · obtain ⟨j, hj⟩ : ∃ j, k = j + 1 := ⟨k - 1, by omega⟩
                  have hjl : j < l.length := by omega
                  obtain ⟨b', o', hbo, -, P0, P1, P2⟩ := rdt_cells HRD.out j hjl
                  cases hbo
                  have ST0 := fun (e : okM low l[k] = true) => (show stepM low l k = aheadB (l[j]'hjl) l[k] by subst hj; exact step_nextM hlt e)
                  have ST1 := ST0 (HOK.out.trans OK.out)
                  obtain ⟨y, hy⟩ : ∃ y, y = (l[j]'hjl) := ⟨_, rfl⟩
                  rw [← hy] at P0 P1 P2 ST1
                  rw [← HX.out] at ST1
                  have BF0 := fun w => refAhead_any y ⟨a, b, c⟩ w
                  obtain ⟨q, hq⟩ : ∃ q, q = aheadB y ⟨a, b, c⟩ := ⟨_, rfl⟩
                  rw [← hq] at BF0 ST1
                  have ST := Lib.hid ST1
                  obtain ⟨ya, yb, yc⟩ := y
                  unfold vtV at BF0
                  simp only at P0 P1 P2 BF0
                  have BF := Lib.hid BF0
                  have F1 := Lib.hid (show IntKind.i64.wrap (j : Int) = (j : Int) by rw [IntKind.wrap_i64]; omega)
                  have F2 := Lib.hid (show (k : Int) - 1 = (j : Int) by omega)
                  have F3 := Lib.hid (show decide (0 < (k : Int)) = true by simp; omega)
                  have F3N := Lib.hid (show decide (0 < k) = true by simp; omega)
                  have F4 := Lib.hid (show (j : Int) < l.length by omega)
                  clear hj hy hk0 ST0 ST1 BF0 hq
                  cases q with
                  | true =>
                    have ALL := Lib.hid (show (List.range (k + 1)).all (stepM low l) = true from all_up HA.out ST.out)
                    go_wp2_with (first | ((with_reducible refine (DU.out _).mono ?_); rintro e w1 ⟨rfl, rfl⟩) | ((with_reducible refine (WI.out _).mono ?_); rintro e w5 ⟨rfl, rfl⟩) | ((with_reducible refine (IT.out _).mono ?_); rintro e w1 ⟨rfl, rfl⟩))
                    clear d0 d1 d2 df e0 e1 e2 ef
                    replace qb := show W8.drew.heap[w.heap.size]? = _ from qb
                    replace qx := show W8.drew.heap[wr.heap.size]? = _ from qx
                    replace B8 := B8.drew
                    refine g_start (by kernel_rfl) ?_
                    refine g_take (i := 0) (d := (some 61)) (v := ?_) rfl rfl (by kernel_rfl) (fun _ _ _ h => h) (by rfl) (fun w' hb' => ?_) ?_
                    rotate_left
                    · (try go_simp); (try with_reducible rfl)
                    try simp only [Act.put, List.setIfInBounds_toArray, List.set_cons_zero, List.set_cons_succ]
                    refine g_take (i := 1) (d := (some 62)) (v := ?_) rfl rfl (by kernel_rfl) (fun _ _ _ h => h) (by rfl) (fun w' hb' => ?_) ?_
                    rotate_left
                    · have f3 := F3.out; have f3n := F3N.out; (try go_simp); (try with_reducible rfl)
                    try simp only [Act.put, List.setIfInBounds_toArray, List.set_cons_zero, List.set_cons_succ]
                    refine g_take (i := 2) (d := (some 63)) (v := ?_) rfl rfl (by kernel_rfl) (fun _ _ _ h => h) (by rfl) (fun w' hb' => ?_) ?_
                    rotate_left
                    · (try go_simp); (try with_reducible rfl)
                    try simp only [Act.put, List.setIfInBounds_toArray, List.set_cons_zero, List.set_cons_succ]
                    refine g_take (i := 3) (d := (some 64)) (v := ?_) rfl rfl (by kernel_rfl) (fun _ _ _ h => h) (by rfl) (fun w' hb' => ?_) ?_
                    rotate_left
                    · (try go_simp); (try with_reducible rfl)
                    try simp only [Act.put, List.setIfInBounds_toArray, List.set_cons_zero, List.set_cons_succ]
                    refine g_take (i := 4) (d := (some 65)) (v := ?_) rfl rfl (by kernel_rfl) (fun _ _ _ h => h) (by rfl) (fun w' hb' => ?_) ?_
                    rotate_left
                    · obtain ⟨d0, d1, d2, df⟩ := block_cells3 ((hb'.block _ (lt_of_block qb)).trans qb); (try go_simp); (try with_reducible rfl)
                    try simp only [Act.put, List.setIfInBounds_toArray, List.set_cons_zero, List.set_cons_succ]
                    refine g_take (i := 5) (d := (some 66)) (v := ?_) rfl rfl (by kernel_rfl) (fun _ _ _ h => h) (by rfl) (fun w' hb' => ?_) ?_
                    rotate_left
                    · (try go_simp); (try with_reducible rfl)
                    try simp only [Act.put, List.setIfInBounds_toArray, List.set_cons_zero, List.set_cons_succ]
                    refine g_take (i := 6) (d := (some 67)) (v := ?_) rfl rfl (by kernel_rfl) (fun _ _ _ h => h) (by rfl) (fun w' hb' => ?_) ?_
                    rotate_left
                    · have f1 := F1.out; have f2 := F2.out; (try go_simp); (try with_reducible rfl)
                    try simp only [Act.put, List.setIfInBounds_toArray, List.set_cons_zero, List.set_cons_succ]
                    refine g_take (i := 7) (d := (some 68)) (v := ?_) rfl rfl (by kernel_rfl) (fun _ _ _ h => h) (by rfl) (fun w' hb' => ?_) ?_
                    rotate_left
                    · have f4 := F4.out; (try go_simp); (try with_reducible rfl)
                    try simp only [Act.put, List.setIfInBounds_toArray, List.set_cons_zero, List.set_cons_succ]
                    refine g_take (i := 8) (d := (some 69)) (v := ?_) rfl rfl (by kernel_rfl) (fun _ _ _ h => h) (by rfl) (fun w' hb' => ?_) ?_
                    rotate_left
                    · have p0 := ((chain B8 hb').cell (p := ⟨pb, po + j * 3, none⟩) hpb).trans P0; have p1 := ((chain B8 hb').cell (p := ⟨pb, po + j * 3 + 1, none⟩) hpb).trans P1; have p2 := ((chain B8 hb').cell (p := ⟨pb, po + j * 3 + 2, none⟩) hpb).trans P2; (try go_simp); (try with_reducible rfl)
                    try simp only [Act.put, List.setIfInBounds_toArray, List.set_cons_zero, List.set_cons_succ]
                    refine g_take (i := 9) (d := (some 70)) (v := ?_) rfl rfl (by kernel_rfl) (fun _ _ _ h => h) (by rfl) (fun w' hb' => ?_) ?_
                    rotate_left
                    · obtain ⟨e0, e1, e2, ef⟩ := block_cells3 ((hb'.block _ (lt_of_block qx)).trans qx); (try go_simp); (try with_reducible rfl)
                    try simp only [Act.put, List.setIfInBounds_toArray, List.set_cons_zero, List.set_cons_succ]
                    refine g_run (i := 10) rfl (by kernel_rfl) (by rfl) (fun K hK => ?_)
                    go_simp; refine (BF.out _).mono ?_; rintro e w6 ⟨rfl, g⟩; have B9 := chain B8 g; refine hK _ _ ⟨g, ?_⟩; clear hK K g
                    try simp only [Act.put, List.setIfInBounds_toArray, List.set_cons_zero, List.set_cons_succ]
                    refine g_take (i := 11) (d := (some 72)) (v := ?_) rfl rfl (by kernel_rfl) (fun _ _ _ h => h) (by rfl) (fun w' hb' => ?_) ?_
                    rotate_left
                    · (try go_simp); (try with_reducible rfl)
                    try simp only [Act.put, List.setIfInBounds_toArray, List.set_cons_zero, List.set_cons_succ]
                    refine g_take (i := 12) (d := (some 73)) (v := ?_) rfl rfl (by kernel_rfl) (fun _ _ _ h => h) (by rfl) (fun w' hb' => ?_) ?_
                    rotate_left
                    · (try go_simp); (try with_reducible rfl)
                    try simp only [Act.put, List.setIfInBounds_toArray, List.set_cons_zero, List.set_cons_succ]
                    refine g_done (by kernel_rfl) ?_
                    go_wp2_with fail
                    exact ⟨⟨k + 1, by omega, by push_cast; rfl, ALL, B9⟩, by simp [intOf]; omega⟩
                  | false =>
                    have RES := Lib.hid (show R0 = false by rw [HR.out]; exact all_no hlt ST.out)
                    go_wp2_with (first | ((with_reducible refine (DU.out _).mono ?_); rintro e w1 ⟨rfl, rfl⟩) | ((with_reducible refine (WI.out _).mono ?_); rintro e w5 ⟨rfl, rfl⟩) | ((with_reducible refine (IT.out _).mono ?_); rintro e w1 ⟨rfl, rfl⟩))
                    clear d0 d1 d2 df e0 e1 e2 ef
                    replace qb := show W8.drew.heap[w.heap.size]? = _ from qb
                    replace qx := show W8.drew.heap[wr.heap.size]? = _ from qx
                    replace B8 := B8.drew
                    refine g_start (by kernel_rfl) ?_
                    refine g_take (i := 0) (d := (some 61)) (v := ?_) rfl rfl (by kernel_rfl) (fun _ _ _ h => h) (by rfl) (fun w' hb' => ?_) ?_
                    rotate_left
                    · (try go_simp); (try with_reducible rfl)
                    try simp only [Act.put, List.setIfInBounds_toArray, List.set_cons_zero, List.set_cons_succ]
                    refine g_take (i := 1) (d := (some 62)) (v := ?_) rfl rfl (by kernel_rfl) (fun _ _ _ h => h) (by rfl) (fun w' hb' => ?_) ?_
                    rotate_left
                    · have f3 := F3.out; have f3n := F3N.out; (try go_simp); (try with_reducible rfl)
                    try simp only [Act.put, List.setIfInBounds_toArray, List.set_cons_zero, List.set_cons_succ]
                    refine g_take (i := 2) (d := (some 63)) (v := ?_) rfl rfl (by kernel_rfl) (fun _ _ _ h => h) (by rfl) (fun w' hb' => ?_) ?_
                    rotate_left
                    · (try go_simp); (try with_reducible rfl)
                    try simp only [Act.put, List.setIfInBounds_toArray, List.set_cons_zero, List.set_cons_succ]
                    refine g_take (i := 3) (d := (some 64)) (v := ?_) rfl rfl (by kernel_rfl) (fun _ _ _ h => h) (by rfl) (fun w' hb' => ?_) ?_
                    rotate_left
                    · (try go_simp); (try with_reducible rfl)
                    try simp only [Act.put, List.setIfInBounds_toArray, List.set_cons_zero, List.set_cons_succ]
                    refine g_take (i := 4) (d := (some 65)) (v := ?_) rfl rfl (by kernel_rfl) (fun _ _ _ h => h) (by rfl) (fun w' hb' => ?_) ?_
                    rotate_left
                    · obtain ⟨d0, d1, d2, df⟩ := block_cells3 ((hb'.block _ (lt_of_block qb)).trans qb); (try go_simp); (try with_reducible rfl)
                    try simp only [Act.put, List.setIfInBounds_toArray, List.set_cons_zero, List.set_cons_succ]
                    refine g_take (i := 5) (d := (some 66)) (v := ?_) rfl rfl (by kernel_rfl) (fun _ _ _ h => h) (by rfl) (fun w' hb' => ?_) ?_
                    rotate_left
                    · (try go_simp); (try with_reducible rfl)
                    try simp only [Act.put, List.setIfInBounds_toArray, List.set_cons_zero, List.set_cons_succ]
                    refine g_take (i := 6) (d := (some 67)) (v := ?_) rfl rfl (by kernel_rfl) (fun _ _ _ h => h) (by rfl) (fun w' hb' => ?_) ?_
                    rotate_left
                    · have f1 := F1.out; have f2 := F2.out; (try go_simp); (try with_reducible rfl)
                    try simp only [Act.put, List.setIfInBounds_toArray, List.set_cons_zero, List.set_cons_succ]
                    refine g_take (i := 7) (d := (some 68)) (v := ?_) rfl rfl (by kernel_rfl) (fun _ _ _ h => h) (by rfl) (fun w' hb' => ?_) ?_
                    rotate_left
                    · have f4 := F4.out; (try go_simp); (try with_reducible rfl)
                    try simp only [Act.put, List.setIfInBounds_toArray, List.set_cons_zero, List.set_cons_succ]
                    refine g_take (i := 8) (d := (some 69)) (v := ?_) rfl rfl (by kernel_rfl) (fun _ _ _ h => h) (by rfl) (fun w' hb' => ?_) ?_
                    rotate_left
                    · have p0 := ((chain B8 hb').cell (p := ⟨pb, po + j * 3, none⟩) hpb).trans P0; have p1 := ((chain B8 hb').cell (p := ⟨pb, po + j * 3 + 1, none⟩) hpb).trans P1; have p2 := ((chain B8 hb').cell (p := ⟨pb, po + j * 3 + 2, none⟩) hpb).trans P2; (try go_simp); (try with_reducible rfl)
                    try simp only [Act.put, List.setIfInBounds_toArray, List.set_cons_zero, List.set_cons_succ]
                    refine g_take (i := 9) (d := (some 70)) (v := ?_) rfl rfl (by kernel_rfl) (fun _ _ _ h => h) (by rfl) (fun w' hb' => ?_) ?_
                    rotate_left
                    · obtain ⟨e0, e1, e2, ef⟩ := block_cells3 ((hb'.block _ (lt_of_block qx)).trans qx); (try go_simp); (try with_reducible rfl)
                    try simp only [Act.put, List.setIfInBounds_toArray, List.set_cons_zero, List.set_cons_succ]
                    refine g_run (i := 10) rfl (by kernel_rfl) (by rfl) (fun K hK => ?_)
                    go_simp; refine (BF.out _).mono ?_; rintro e w6 ⟨rfl, g⟩; have B9 := chain B8 g; refine hK _ _ ⟨g, ?_⟩; clear hK K g
                    try simp only [Act.put, List.setIfInBounds_toArray, List.set_cons_zero, List.set_cons_succ]
                    refine g_take (i := 11) (d := (some 72)) (v := ?_) rfl rfl (by kernel_rfl) (fun _ _ _ h => h) (by rfl) (fun w' hb' => ?_) ?_
                    rotate_left
                    · (try go_simp); (try with_reducible rfl)
                    try simp only [Act.put, List.setIfInBounds_toArray, List.set_cons_zero, List.set_cons_succ]
                    refine g_take (i := 12) (d := (some 73)) (v := ?_) rfl rfl (by kernel_rfl) (fun _ _ _ h => h) (by rfl) (fun w' hb' => ?_) ?_
                    rotate_left
                    · (try go_simp); (try with_reducible rfl)
                    try simp only [Act.put, List.setIfInBounds_toArray, List.set_cons_zero, List.set_cons_succ]
                    refine g_done (by kernel_rfl) ?_
                    go_wp2_with fail
                    go_ret
                    exact ⟨ret_b RES.out.symm, chain B0 B9⟩
        · have n1 : 64 ≤ a := by omega
          have OK := Lib.hid (show V = false by rw [HV.out, decide_eq_true hh0, decide_eq_false hh1]; rfl)
          have RES := Lib.hid (show R0 = false by rw [HR.out]; exact all_no hlt (step_okM hlt (HOK.out.trans OK.out)))
          go_wp2_with (first | ((with_reducible refine (DU.out _).mono ?_); rintro e w1 ⟨rfl, rfl⟩) | ((with_reducible refine (WI.out _).mono ?_); rintro e w5 ⟨rfl, rfl⟩) | ((with_reducible refine (IT.out _).mono ?_); rintro e w1 ⟨rfl, rfl⟩))
          go_ret
          exact ⟨ret_b RES.out.symm, chain B0 B8⟩
      · have n0 : a < 0 := by omega
        have OK := Lib.hid (show V = false by rw [HV.out, decide_eq_false hh0]; rfl)
        have RES := Lib.hid (show R0 = false by rw [HR.out]; exact all_no hlt (step_okM hlt (HOK.out.trans OK.out)))
        go_wp2_with (first | ((with_reducible refine (DU.out _).mono ?_); rintro e w1 ⟨rfl, rfl⟩) | ((with_reducible refine (WI.out _).mono ?_); rintro e w5 ⟨rfl, rfl⟩) | ((with_reducible refine (IT.out _).mono ?_); rintro e w1 ⟨rfl, rfl⟩))
        go_ret
        exact ⟨ret_b RES.out.symm, chain B0 B8⟩
    · obtain rfl : k = l.length := by omega
      have RES := Lib.hid (show R0 = true by rw [HR.out]; exact HA.out)
      go_wp2_with fail
      go_ret
      exact ⟨ret_b RES.out.symm, chain B0 BK⟩
end Go.Proofs.Ytgmblgpfgdfnaaa
