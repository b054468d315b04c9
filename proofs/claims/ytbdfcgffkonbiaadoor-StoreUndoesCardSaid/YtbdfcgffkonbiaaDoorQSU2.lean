/- Leaves: the document's With. Written by wip/tools/sed over XK9W (bounds of 5000). -/
import Derived.Test.YtbdfcgffkonbiaaDoorQST10
namespace Go.Proofs.YtbdfcgffkonbiaaDoor
open Go Go.RowKit
set_option linter.unusedVariables false
set_option linter.unusedSimpArgs false
set_option maxRecDepth 100000 in
set_option maxHeartbeats 4000000 in
theorem refWith13_any (v : Value) (l : List It) (x : It) (w : World) (h : RdI w v l) (hsz : SzI l) (hxk : x.key.length ≤ maxLen) (h66 : l.length ≤ 5000) :
    Calls Tryd.prog 81 #[v, itV x] w (OwnI w (withL l x)) := by
  obtain ⟨i0, hi, hz0, hz1, hz2⟩ := info_parts item_info
  obtain ⟨ao, cap, rfl, hc, hm, hr⟩ := RdK.open h
  obtain ⟨w1, hw1⟩ : ∃ w1, w1 = w.alloc (.cells #[.string (str x.key), .int .i64 x.v.k, .int .i64 x.v.i, .string (str x.v.s), .int .i64 x.ver] 53) := ⟨_, rfl⟩
  have q1 : w1.heap[w.heap.size]? = some (.cells #[.string (str x.key), .int .i64 x.v.k, .int .i64 x.v.i, .string (str x.v.s), .int .i64 x.ver] 53 (0, 0)) := by rw [hw1]; exact heap_alloc_new _ _
  have b1 : Below w.heap.size w w1 := by rw [hw1]; exact (Below.refl _ _).alloc (Nat.le_refl _) _
  have z1 : w1.heap.size = w.heap.size + 1 := by rw [hw1, World.size_alloc]
  have HRD := Lib.hid (show RdI w1 (.slice ao l.length cap) l from RdI.below hr b1 (Nat.le_refl _))
  have HS := Lib.hid hsz
  have Q1 := Lib.hid q1
  have B1 := Lib.hid b1
  have Z1 := Lib.hid z1
  unfold itV
  clear h hr hsz q1 b1 z1
  go_enter Tryd.func81, Tryd.ntmps81
  go_wp2_with fail
  rw [← hw1]
  clear hw1
  go_loopw [5, 6] (fun out i wr => ∃ (j : Nat) (acc : List It), j ≤ l.length ∧ i = .int .i64 (j : Int) ∧ acc.length ≤ j ∧ Hid (acc = (l.take j).filter (fun y => ltB y.key x.key)) ∧ wr.ownsRow w1.heap.size 53 5 out acc.length (acc.flatMap itC) ∧ Below w1.heap.size w1 wr) (fun _ i _ => 9000 - (intOf i).toNat)
  case atStart => exact ⟨0, [], Nat.zero_le _, rfl, Nat.le_refl _, rfl, World.ownsRow_nil _ _ _ _, Below.refl _ _⟩
  case round =>
    obtain ⟨j, acc, hj, rfl, hacc, HA, hown, bel⟩ := hrel
    have qx := (bel.block _ (lt_of_block Q1.out)).trans Q1.out
    obtain ⟨f0, f1, f2, f3, f4, fz⟩ := block_cells5 qx
    by_cases hlt : j < l.length
    · have R1 := HRD.out.below bel (Nat.le_refl _)
      obtain ⟨b, off, rfl, hb, c0, c1, c2, c3, c4⟩ := rdi_cells R1 j hlt
      obtain ⟨y, hy⟩ : ∃ y, y = l[j]'hlt := ⟨_, rfl⟩
      rw [← hy] at c0 c1 c2 c3 c4
      have hyk : y.key.length ≤ maxLen := by rw [hy]; exact (HS.out _ (List.getElem_mem _)).1
      have HY := Lib.hid hy
      have AQ0 := fun W => ahead_q y.key x.key W (by assumption) (by assumption)
      clear hy R1 qx
      cases ho : ltB y.key x.key with
      | true =>
        simp only [ho] at AQ0
        have AQH := Lib.hid AQ0
        have HN := Lib.hid (show acc ++ [y] = (l.take (j + 1)).filter (fun y => ltB y.key x.key) by rw [filter_succ hlt, HA.out, ← HY.out]; simp [ho])
        clear AQ0 ho
        go_wp2_with fail
        go_quiet ((go_at_call 101; exact Calls.quiet_of (AQH.out _)))
        have bel2 := below_drewN (k := nq) bel
        have hown3 := own_draw hown nq
        obtain ⟨wq, hwq⟩ : ∃ wq, wq = wr.drewN nq := ⟨_, rfl⟩
        have c0 : (wr.drewN nq).cell? ⟨b, off + j * 5, none⟩ = some (.string (str y.key)) := c0
        have c1 : (wr.drewN nq).cell? ⟨b, off + j * 5 + 1, none⟩ = some (.int .i64 y.v.k) := c1
        have c2 : (wr.drewN nq).cell? ⟨b, off + j * 5 + 2, none⟩ = some (.int .i64 y.v.i) := c2
        have c3 : (wr.drewN nq).cell? ⟨b, off + j * 5 + 3, none⟩ = some (.string (str y.v.s)) := c3
        have c4 : (wr.drewN nq).cell? ⟨b, off + j * 5 + 4, none⟩ = some (.int .i64 y.ver) := c4
        rw [← hwq] at bel2 hown3 c0 c1 c2 c3 c4 ⊢
        clear hwq hown bel
        go_wp2_with (at_builtin; refine wpList_app1k itC_len (by decide) w1 rfl (.tmp 22) (.tmp 27) 22 rfl w1.heap.size 53 i0 (.agg #[.string ⟨#[]⟩, .int .i64 0, .int .i64 0, .string ⟨#[]⟩, .int .i64 0]) 56 Tryd.underlying22 hi hz0 hz1 hz2 rfl _ _ rfl hown3 _ y _ rfl rfl itC_one (by unfold maxLen; omega) (by omega) (Nat.le_refl _) bel2 ?_; intro v' w9 hown2 hb2 hq2; clear hq2)
        exact ⟨⟨j + 1, acc ++ [y], by omega, by push_cast; rfl, by simp; omega, HN, hown2, hb2⟩, by simp [intOf]; omega⟩
      | false =>
        simp only [ho] at AQ0
        have AQH := Lib.hid AQ0
        have HN := Lib.hid (show acc = (l.take (j + 1)).filter (fun y => ltB y.key x.key) by rw [filter_succ hlt, HA.out, ← HY.out]; simp [ho])
        clear AQ0 ho
        go_wp2_with fail
        go_quiet ((go_at_call 101; exact Calls.quiet_of (AQH.out _)))
        have bel2 := below_drewN (k := nq) bel
        have hown3 := own_draw hown nq
        go_wp2_with fail
        exact ⟨⟨j + 1, acc, by omega, by push_cast; rfl, by omega, HN, hown3, bel2⟩, by simp [intOf]; omega⟩
    · obtain rfl : j = l.length := by omega
      have EP := Lib.hid (show acc = l.filter (fun y => ltB y.key x.key) by rw [HA.out, List.take_length])
      have hPl : acc.length ≤ l.length := by rw [EP.out]; exact List.length_filter_le _ _
      obtain ⟨PP, rfl⟩ : ∃ PP, PP = acc := ⟨_, rfl⟩
      clear HA hacc
      go_wp2_with (at_builtin; refine wpList_app1k itC_len (by decide) w1 rfl (.tmp 29) (.tmp 31) 22 rfl w1.heap.size 53 i0 (.agg #[.string ⟨#[]⟩, .int .i64 0, .int .i64 0, .string ⟨#[]⟩, .int .i64 0]) 56 Tryd.underlying22 hi hz0 hz1 hz2 rfl _ _ rfl hown _ x _ rfl rfl itC_one (by unfold maxLen; omega) (by omega) (Nat.le_refl _) bel ?_; intro v' w9 hown2 hb2 hq2; clear hq2)
      clear hown bel qx f0 f1 f2 f3 f4 fz
      go_loopw [5, 7] (fun out i wr => ∃ (j : Nat) (acc : List It), j ≤ l.length ∧ i = .int .i64 (j : Int) ∧ acc.length ≤ l.length + 1 + j ∧ Hid (acc = PP ++ [x] ++ (l.take j).filter (fun y => ltB x.key y.key)) ∧ wr.ownsRow w1.heap.size 53 5 out acc.length (acc.flatMap itC) ∧ Below w1.heap.size w1 wr) (fun _ i _ => 9000 - (intOf i).toNat)
      case atStart => exact ⟨0, PP ++ [x], Nat.zero_le _, rfl, by simp; omega, Lib.hid (by simp), hown2, hb2⟩
      case round =>
        obtain ⟨j, acc, hj, rfl, hacc, HA, hown, bel⟩ := hrel
        have qx := (bel.block _ (lt_of_block Q1.out)).trans Q1.out
        obtain ⟨f0, f1, f2, f3, f4, fz⟩ := block_cells5 qx
        by_cases hlt : j < l.length
        · have R1 := HRD.out.below bel (Nat.le_refl _)
          obtain ⟨b, off, rfl, hb, c0, c1, c2, c3, c4⟩ := rdi_cells R1 j hlt
          obtain ⟨y, hy⟩ : ∃ y, y = l[j]'hlt := ⟨_, rfl⟩
          rw [← hy] at c0 c1 c2 c3 c4
          have hyk : y.key.length ≤ maxLen := by rw [hy]; exact (HS.out _ (List.getElem_mem _)).1
          have HY := Lib.hid hy
          have AQ0 := fun W => ahead_q x.key y.key W (by assumption) (by assumption)
          clear hy R1 qx
          cases ho : ltB x.key y.key with
          | true =>
            simp only [ho] at AQ0
            have AQH := Lib.hid AQ0
            have HN := Lib.hid (show acc ++ [y] = PP ++ [x] ++ (l.take (j + 1)).filter (fun y => ltB x.key y.key) by rw [filter_succ hlt, HA.out, ← HY.out]; simp [ho])
            clear AQ0 ho
            go_wp2_with fail
            go_quiet ((go_at_call 101; exact Calls.quiet_of (AQH.out _)))
            have bel2 := below_drewN (k := nq) bel
            have hown3 := own_draw hown nq
            obtain ⟨wq, hwq⟩ : ∃ wq, wq = wr.drewN nq := ⟨_, rfl⟩
            have c0 : (wr.drewN nq).cell? ⟨b, off + j * 5, none⟩ = some (.string (str y.key)) := c0
            have c1 : (wr.drewN nq).cell? ⟨b, off + j * 5 + 1, none⟩ = some (.int .i64 y.v.k) := c1
            have c2 : (wr.drewN nq).cell? ⟨b, off + j * 5 + 2, none⟩ = some (.int .i64 y.v.i) := c2
            have c3 : (wr.drewN nq).cell? ⟨b, off + j * 5 + 3, none⟩ = some (.string (str y.v.s)) := c3
            have c4 : (wr.drewN nq).cell? ⟨b, off + j * 5 + 4, none⟩ = some (.int .i64 y.ver) := c4
            rw [← hwq] at bel2 hown3 c0 c1 c2 c3 c4 ⊢
            clear hwq hown bel
            go_wp2_with (at_builtin; refine wpList_app1k itC_len (by decide) w1 rfl (.tmp 47) (.tmp 52) 22 rfl w1.heap.size 53 i0 (.agg #[.string ⟨#[]⟩, .int .i64 0, .int .i64 0, .string ⟨#[]⟩, .int .i64 0]) 56 Tryd.underlying22 hi hz0 hz1 hz2 rfl _ _ rfl hown3 _ y _ rfl rfl itC_one (by unfold maxLen; omega) (by omega) (Nat.le_refl _) bel2 ?_; intro v' w9 hown2 hb2 hq2; clear hq2)
            exact ⟨⟨j + 1, acc ++ [y], by omega, by push_cast; rfl, by simp; omega, HN, hown2, hb2⟩, by simp [intOf]; omega⟩
          | false =>
            simp only [ho] at AQ0
            have AQH := Lib.hid AQ0
            have HN := Lib.hid (show acc = PP ++ [x] ++ (l.take (j + 1)).filter (fun y => ltB x.key y.key) by rw [filter_succ hlt, HA.out, ← HY.out]; simp [ho])
            clear AQ0 ho
            go_wp2_with fail
            go_quiet ((go_at_call 101; exact Calls.quiet_of (AQH.out _)))
            have bel2 := below_drewN (k := nq) bel
            have hown3 := own_draw hown nq
            go_wp2_with fail
            exact ⟨⟨j + 1, acc, by omega, by push_cast; rfl, by omega, HN, hown3, bel2⟩, by simp [intOf]; omega⟩
        · obtain rfl : j = l.length := by omega
          have E := Lib.hid (show withL l x = acc by rw [HA.out, List.take_length, EP.out]; unfold withL; simp)
          go_wp2_with fail
          go_ret
          have e := E.out
          rw [e]
          exact ⟨_, rfl, own_up hown (by rw [Z1.out]; omega), B1.out.trans (bel.mono (by rw [Z1.out]; omega))⟩
end Go.Proofs.YtbdfcgffkonbiaaDoor
