/- The walk of the law SipPieces. Written by wip/tools/gen3p.py. -/
import Derived.Test.YtfejjmodkjpmfaaS03V
namespace Go.Proofs.Ytfejjmodkjpmfaa
open Go.RowKit
set_option linter.unusedVariables false
set_option linter.unusedSimpArgs false
set_option maxRecDepth 100000 in
set_option maxHeartbeats 2000000 in
theorem pieces_row (k0 k1 : Nat) (v : Value) (ls : List (List UInt8)) (W : World) (h0 : k0 < 18446744073709551616) (h1 : k1 < 18446744073709551616) (hp : RdP W v ls) :
    Calls Try.prog 4 #[.agg #[.int .u64 (k0 : Int), .int .u64 (k1 : Int)], v] W fun e w' => e = .returned (.bool true) ∧ Below W.heap.size W w' := by
  have Tn := new_any k0 k1 h0 h1
  have hok := init_ok k0 k1 h0 h1
  have Ts := fun v l hl w hd => reftag_any k0 k1 h0 h1 v l hl w hd
  have htag : ∀ l, sipN k0 k1 l = tagN (feed (initN k0 k1, [0, 0, 0, 0, 0, 0, 0, 0]) 0 l) l.length := fun l => rfl
  obtain ⟨s0, es⟩ : ∃ s, s = initN k0 k1 := ⟨_, rfl⟩
  rw [← es] at Tn hok htag
  have HT := Lib.hid htag
  clear htag es h0 h1
  obtain ⟨i0, hi0, hz0, hz1, hz2⟩ := info_parts u8info
  obtain ⟨ao, cap, rfl, hlc, hcm, -⟩ := id hp
  obtain ⟨n, en⟩ : ∃ n, n = ls.length := ⟨_, rfl⟩
  have HP := Lib.hid hp
  clear hp
  rw [← en] at HP hlc ⊢
  have EN := Lib.hid en
  clear en
  unfold maxLen at hcm
  go_enter Try.func4, Try.ntmps4
  go_wp2_with fail
  have zk : (W.alloc (.cells #[.int .u64 (k0 : Int), .int .u64 (k1 : Int)] 24)).heap[W.heap.size]? = some (.cells #[.int .u64 (k0 : Int), .int .u64 (k1 : Int)] 24 (0, 0)) := heap_alloc_new _ _
  have Bel : Below W.heap.size W (W.alloc (.cells #[.int .u64 (k0 : Int), .int .u64 (k1 : Int)] 24)) := (Below.refl _ _).alloc (Nat.le_refl _) _
  generalize (W.alloc (.cells #[.int .u64 (k0 : Int), .int .u64 (k1 : Int)] 24)) = w0 at zk Bel ⊢
  refine (Tn _).mono ?_
  rintro e w1 ⟨B, rfl, hB, hz, g⟩
  have hWB : W.heap.size ≤ B := Nat.le_trans Bel.size hB
  have hkB : W.heap.size ≠ B := by have := lt_of_block zk; omega
  have zk1 : w1.heap[W.heap.size]? = some (.cells #[.int .u64 (k0 : Int), .int .u64 (k1 : Int)] 24 (0, 0)) := (g.block _ (lt_of_block zk)).trans zk
  have Bel1 : Below W.heap.size W w1 := chain Bel g
  have ltB := lt_of_block hz
  have ltk := lt_of_block zk1
  have HZ := Lib.hid hz
  have HOK := Lib.hid hok
  clear g zk Bel hz hok Tn
  go_wp2_with fail
  go_loopw [6, 7] (fun x i wr => ∃ (k : Nat) (aoA : Option Addr) (capA : Nat) (A : List UInt8) (s : St) (r0 r1 r2 r3 r4 r5 r6 r7 : UInt8), x = .slice aoA A.length capA ∧ i = .int .i64 (k : Int) ∧ k ≤ 30 ∧ k ≤ n ∧ A.length ≤ 600 * k ∧ wr.ownsRow w1.heap.size 5 1 (.slice aoA A.length capA) A.length (A.map bv) ∧
      Hid (feed (s0, [0, 0, 0, 0, 0, 0, 0, 0]) 0 A = (s, [r0, r1, r2, r3, r4, r5, r6, r7])) ∧ Hid s.Ok ∧ w1.grownBy wr (some B) ∧ Hid (wr.heap[B]? = some (.cells (hashC s r0 r1 r2 r3 r4 r5 r6 r7 (A.length : Int)) 49 (0, 0))))
    (fun _ i _ => 31 - (intOf i).toNat)
  case atStart => exact ⟨0, none, 0, [], s0, 0, 0, 0, 0, 0, 0, 0, 0, rfl, rfl, by omega, by omega, by simp, World.ownsRow_nil _ _ _ _, rfl, HOK.out, grown_reflB, HZ⟩
  case round =>
    obtain ⟨k, aoA, capA, A, s, r0, r1, r2, r3, r4, r5, r6, r7, rfl, rfl, hk30, hkn, hA, oA, HF, HK, hgr, HB⟩ := hrel
    have sg := hgr.size
    have zk2 : wr.heap[W.heap.size]? = some (.cells #[.int .u64 (k0 : Int), .int .u64 (k1 : Int)] 24 (0, 0)) := (hgr.block _ ltk (by simp; first | exact fun e => hkB e.symm | exact hkB)).trans zk1
    have Bw : Below W.heap.size W wr := below_grownB Bel1 hWB hgr
    obtain ⟨nA, enA⟩ : ∃ n, n = A.length := ⟨_, rfl⟩
    rw [← enA] at oA hA HB ⊢
    have ENA := Lib.hid enA
    clear enA
    by_cases hend : k < n ∧ k < 30
    · obtain ⟨hk1, hk2⟩ := hend
      obtain ⟨ao2, cap2, e2, -, -, hx⟩ := HP.out.below Bw
      injection e2 with e3 e4 e5
      subst e3
      obtain ⟨b, off, rfl, hbl, hcell⟩ := hx (by rw [← EN.out]; omega)
      obtain ⟨vi, hc, hri⟩ := hcell k (by rw [← EN.out]; exact hk1)
      obtain ⟨mi, emi⟩ : ∃ m, m = ls.getD k [] := ⟨_, rfl⟩
      rw [← emi] at hri
      clear hx hcell e4 e5 emi
      have hE : Below wr.heap.size wr (wr.alloc (.cells #[] 5)) := (Below.refl _ _).alloc (Nat.le_refl _) _
      have hcE : (wr.alloc (.cells #[] 5)).cell? ⟨b, off + k, none⟩ = some vi := (hE.cell (p := ⟨b, off + k, none⟩) hbl).trans hc
      have rE := hri.below hE (Nat.le_refl _)
      obtain ⟨ai, ci, rfl, -, -, -, -⟩ := id hri
      clear hri hc
      go_wp2_with fail
      refine (few_any _ mi _ rE).mono ?_
      rintro e w2 ⟨⟨v', rfl, rd0⟩, rfl⟩
      have hl6 : (mi.take 600).length ≤ 600 := by simp; omega
      generalize mi.take 600 = m at rd0 hl6
      clear rE hcE
      obtain ⟨lm, elm⟩ : ∃ n, n = m.length := ⟨_, rfl⟩
      go_wp2_with (at_builtin; refine wpList_app_rd2 rfl (.tmp 24) (.tmp 29) 25 rfl wr.heap.size 5 i0 (.int .u8 0) 1 Try.underlying25 hi0 hz0 hz1 hz2 rfl _ 0 [] rfl (World.ownsRow_lit _ #[] 0 (Nat.le_refl _) (by decide) rfl) _ m rfl rd0 (by unfold maxLen; omega) (by omega) hE.size ?_; intro v8 w3 o8 g3 _; rw [Nat.zero_add, List.nil_append, ← elm] at o8)
      have g3 : (wr.alloc (.cells #[] 5)).grownBy w3 (some wr.heap.size) := g3
      have B3 := below_of_new g3
      obtain ⟨a8, c8, rfl, hc8, hm8⟩ := slice_shape o8
      have hBr : B < wr.heap.size := Nat.lt_of_lt_of_le ltB sg
      have oA3 := own_below oA B3
      have hz3 : w3.heap[B]? = some (.cells (hashC s r0 r1 r2 r3 r4 r5 r6 r7 (nA : Int)) 49 (0, 0)) := (B3.block _ hBr).trans HB.out
      have hgr3 := grown_belowB hgr B3
      have ELM := Lib.hid elm
      clear g3 rd0 hE elm
      refine (add_any B s HK.out r0 r1 r2 r3 r4 r5 r6 r7 nA _ m (by have := ELM.out; omega) w3 hz3 (by rw [ELM.out] at o8 ⊢; exact own_rdN o8 hBr)).mono ?_
      rintro e w4 ⟨rfl, s4, p0, p1, p2, p3, p4, p5, p6, p7, hf, hok4, hz4, hg4⟩
      rw [← ELM.out] at hz4
      have oA4 := oA3.kept hg4 (own_apart oA3 ltB)
      have o84 := o8.kept hg4 (own_apart o8 hBr)
      have hgr4 := grown_transB hgr3 hg4
      have sg4 := hgr4.size
      have HF4 := Lib.hid hf
      have HZ4 := Lib.hid hz4
      have HK4 := Lib.hid hok4
      clear hf hok4 hz3 hz4 hg4 oA3
      unfold maxLen at hm8
      go_wp2_with (at_builtin; refine wpList_app_rd2 rfl (.tmp 34) (.tmp 35) 25 rfl w1.heap.size 5 i0 (.int .u8 0) 1 Try.underlying25 hi0 hz0 hz1 hz2 rfl _ nA (A.map bv) rfl oA4 _ m rfl (own_rdN o84 hBr).rd (by have := ELM.out; unfold maxLen; omega) (by have := ELM.out; omega) sg4 ?_; intro v6 w5 o6 g6 loc)
      have g6 : w4.grownBy w5 (Value.slice aoA nA capA).ownBlock := g6
      have loc : v6.ownBlock = (Value.slice aoA nA capA).ownBlock ∨ v6.ownBlock = some w4.heap.size := loc
      rw [← List.map_append, ← ELM.out] at o6
      have o85 := o84.kept g6 (own_apart_own2 oA (Nat.le_refl _) o8)
      have hz5 : w5.heap[B]? = some (.cells (hashC s4 p0 p1 p2 p3 p4 p5 p6 p7 ((nA + lm : Nat) : Int)) 49 (0, 0)) := (g6.block B (lt_of_block HZ4.out) (fun e => ne_of_apart (own_apart oA4 ltB) e.symm)).trans HZ4.out
      have hgr5 := grown_far hgr4 g6 (fun b hb => (oA4.lt b hb).1)
      have ap := own_apart6 (v8 := Value.slice a8 lm c8) loc (fun g hg => (oA.lt g hg).2) (fun g hg => ⟨(o8.lt g hg).1, (o84.lt g hg).2⟩)
      have apB : (Value.slice a8 lm c8).ownBlock = none ∨ (Value.slice a8 lm c8).ownBlock ≠ some B := own_apart o8 hBr
      obtain ⟨a6, c6, rfl, hc6, hm6⟩ := slice_shape o6
      have HZ5 := Lib.hid hz5
      clear oA oA4 o8 o84 g6 loc hz5 HZ4 hgr3 hgr4 sg4
      unfold maxLen at hm6
      have l600 : lm ≤ 600 := by have := ELM.out; omega
      go_wp2_with fail
      go_loopw [9] (fun i wx => ∃ (q : Nat) (xs : List Value), i = .int .i64 (q : Int) ∧ q ≤ lm ∧ wx.ownsRow wr.heap.size 5 1 (.slice a8 lm c8) lm xs ∧ w5.grownBy wx (Value.slice a8 lm c8).ownBlock)
        (fun i _ => 601 - (intOf i).toNat)
      case atStart => exact ⟨0, _, rfl, by omega, o85, grown_reflB⟩
      case round =>
        clear o85
        obtain ⟨q, xs, rfl, hq, ox, hgx⟩ := hrel
        by_cases hql : q < lm
        · obtain ⟨g8, c9, e8, _, _⟩ := slice_of_own ox (by omega)
          injection e8 with f1 f2 f3
          subst f1
          clear f2 f3
          have hxl := ox.1
          obtain ⟨u0, hu⟩ : ∃ u, xs[q]? = some u := ⟨xs[q]'(by omega), by simp⟩
          have hcq := (ox.cellAt q (by omega)).trans hu
          have hfq := ox.frozenAt q
          have st := ox.stored q (.int .u8 99)
          have hgn := grown_transB hgx st.2
          have hst := Lib.hid st.1
          clear st ox hgx hu hxl
          go_wp2_with fail
          exact ⟨⟨q + 1, _, by push_cast; rfl, by omega, hst.out, hgn⟩, by simp [intOf]; omega⟩
        · obtain rfl : q = lm := by omega
          have o6x := o6.kept hgx ap
          have hgX := grown_far hgr5 hgx (fun b hb => Nat.le_trans sg (ox.lt b hb).1)
          have hzX : wr.heap[B]? = some (.cells (hashC s4 p0 p1 p2 p3 p4 p5 p6 p7 ((nA + q : Nat) : Int)) 49 (0, 0)) := (hgx.block B (lt_of_block HZ5.out) (fun e => ne_of_apart apB e.symm)).trans HZ5.out
          have zkX : wr.heap[W.heap.size]? = some (.cells #[.int .u64 (k0 : Int), .int .u64 (k1 : Int)] 24 (0, 0)) := (hgX.block _ ltk (by simp; first | exact fun e => hkB e.symm | exact hkB)).trans zk1
          obtain ⟨A2, eA2⟩ : ∃ A2, A2 = A ++ m := ⟨_, rfl⟩
          obtain ⟨n2, en2⟩ : ∃ n2, n2 = nA + q := ⟨_, rfl⟩
          have hlen : A2.length = n2 := by rw [eA2, en2, List.length_append, ← ENA.out, ← ELM.out]
          have HF2 : feed (s0, [0, 0, 0, 0, 0, 0, 0, 0]) 0 A2 = (s4, [p0, p1, p2, p3, p4, p5, p6, p7]) := by
            rw [eA2, feed_app, HF.out, ← ENA.out, Nat.zero_add]
            exact HF4.out
          rw [← en2] at o6x hzX hc6 ⊢
          rw [← eA2] at o6x
          have hn2 : n2 ≤ 600 * (k + 1) := by omega
          have Tt := tag_any B s4 HK4.out p0 p1 p2 p3 p4 p5 p6 p7 n2 (by omega)
          have Tc := count_any B s4 p0 p1 p2 p3 p4 p5 p6 p7 (n2 : Int)
          have Ts2 := fun w hd => Ts (.slice a6 n2 c6) A2 (by omega) w hd
          rw [HT.out, HF2, hlen] at Ts2
          generalize tagN (s4, [p0, p1, p2, p3, p4, p5, p6, p7]) n2 = tg at Tt Ts2
          have HFX := Lib.hid HF2
          have HLN := Lib.hid hlen
          have EN2 := Lib.hid en2
          clear HF2 hlen en2 eA2 hgx ox o6 hgr5 HZ5 HF4 HF ap apB
          obtain ⟨ka, kb, kf⟩ := block_cells2 zkX
          clear kf
          go_wp2_with fail
          have hz : wr.drew.heap[B]? = some (.cells (hashC s4 p0 p1 p2 p3 p4 p5 p6 p7 (n2 : Int)) 49 (0, 0)) := hzX
          have zk : wr.drew.heap[W.heap.size]? = some (.cells #[.int .u64 (k0 : Int), .int .u64 (k1 : Int)] 24 (0, 0)) := zkX
          have hg : w1.grownBy wr.drew (some B) := grown_drewB hgX
          have ho : wr.drew.ownsRow w1.heap.size 5 1 (.slice a6 n2 c6) n2 (A2.map bv) := o6x.drew
          clear hzX zkX hgX o6x ka kb
          obtain ⟨hc4, ehc⟩ : ∃ h, h = hashC s4 p0 p1 p2 p3 p4 p5 p6 p7 (n2 : Int) := ⟨_, rfl⟩
          rw [← ehc] at hz Tt Tc
          have EHC := Lib.hid ehc
          clear ehc
          refine g_start (by kernel_rfl) ?_
          refine g_take (i := 0) (d := (some 46)) (v := ?_) rfl rfl (by kernel_rfl) (fun _ _ _ h => h) (by rfl) (fun w' hb' => ?_) ?_
          rotate_left
          · (try go_simp); (try with_reducible rfl)
          try simp only [Act.put, List.setIfInBounds_toArray, List.set_cons_zero, List.set_cons_succ]
          refine g_take (i := 2) (d := (some 48)) (v := ?_) rfl rfl (by kernel_rfl) (fun _ _ _ h => h) (by rfl) (fun w' hb' => ?_) ?_
          rotate_left
          · have zz : w'.heap[W.heap.size]? = some (.cells #[.int .u64 (k0 : Int), .int .u64 (k1 : Int)] 24 (0, 0)) := (hb'.block _ (lt_of_block zk)).trans zk; obtain ⟨c0, c1, cf⟩ := block_cells2 zz; (try go_simp); (try with_reducible rfl)
          try simp only [Act.put, List.setIfInBounds_toArray, List.set_cons_zero, List.set_cons_succ]
          refine g_take (i := 3) (d := (some 49)) (v := ?_) rfl rfl (by kernel_rfl) (fun _ _ _ h => h) (by rfl) (fun w' hb' => ?_) ?_
          rotate_left
          · (try go_simp); (try with_reducible rfl)
          try simp only [Act.put, List.setIfInBounds_toArray, List.set_cons_zero, List.set_cons_succ]
          refine g_run (i := 1) rfl (by kernel_rfl) (by rfl) (fun K hK => ?_)
          go_simp; refine (Tt _ hz).mono ?_; rintro e y1 ⟨rfl, gg⟩; refine hK _ _ ⟨gg, ?_⟩; have hz := (gg.block _ (lt_of_block hz)).trans hz; have zk := (gg.block _ (lt_of_block zk)).trans zk; have hg := grown_belowB hg gg; have ho := own_below ho gg; clear hK K gg
          try simp only [Act.put, List.setIfInBounds_toArray, List.set_cons_zero, List.set_cons_succ]
          refine g_run (i := 4) rfl (by kernel_rfl) (by rfl) (fun K hK => ?_)
          go_simp; refine (Ts2 _ (own_rdN ho ltB).rd).mono ?_; rintro e y2 ⟨rfl, gg⟩; refine hK _ _ ⟨gg, ?_⟩; have hz := (gg.block _ (lt_of_block hz)).trans hz; have zk := (gg.block _ (lt_of_block zk)).trans zk; have hg := grown_belowB hg gg; have ho := own_below ho gg; clear hK K gg
          try simp only [Act.put, List.setIfInBounds_toArray, List.set_cons_zero, List.set_cons_succ]
          refine g_take (i := 5) (d := (some 51)) (v := ?_) rfl rfl (by kernel_rfl) (fun _ _ _ h => h) (by rfl) (fun w' hb' => ?_) ?_
          rotate_left
          · (try go_simp); (try with_reducible rfl)
          try simp only [Act.put, List.setIfInBounds_toArray, List.set_cons_zero, List.set_cons_succ]
          refine g_take (i := 6) (d := (some 52)) (v := ?_) rfl rfl (by kernel_rfl) (fun _ _ _ h => h) (by rfl) (fun w' hb' => ?_) ?_
          rotate_left
          · (try go_simp); (try with_reducible rfl)
          try simp only [Act.put, List.setIfInBounds_toArray, List.set_cons_zero, List.set_cons_succ]
          refine g_take (i := 7) (d := (some 53)) (v := ?_) rfl rfl (by kernel_rfl) (fun _ _ _ h => h) (by rfl) (fun w' hb' => ?_) ?_
          rotate_left
          · (try go_simp); (try with_reducible rfl)
          try simp only [Act.put, List.setIfInBounds_toArray, List.set_cons_zero, List.set_cons_succ]
          refine g_take (i := 9) (d := (some 55)) (v := ?_) rfl rfl (by kernel_rfl) (fun _ _ _ h => h) (by rfl) (fun w' hb' => ?_) ?_
          rotate_left
          · (try go_simp); (try with_reducible rfl)
          try simp only [Act.put, List.setIfInBounds_toArray, List.set_cons_zero, List.set_cons_succ]
          refine g_take (i := 10) (d := (some 56)) (v := ?_) rfl rfl (by kernel_rfl) (fun _ _ _ h => h) (by rfl) (fun w' hb' => ?_) ?_
          rotate_left
          · (try go_simp); (try with_reducible rfl)
          try simp only [Act.put, List.setIfInBounds_toArray, List.set_cons_zero, List.set_cons_succ]
          refine g_run (i := 8) rfl (by kernel_rfl) (by rfl) (fun K hK => ?_)
          go_simp; refine (Tc _ hz).mono ?_; rintro e y3 ⟨rfl, rfl⟩; refine hK _ _ ⟨Below.refl _ _, ?_⟩; clear hK K
          try simp only [Act.put, List.setIfInBounds_toArray, List.set_cons_zero, List.set_cons_succ]
          refine g_take (i := 11) (d := (some 57)) (v := ?_) rfl rfl (by kernel_rfl) (fun _ _ _ h => h) (by rfl) (fun w' hb' => ?_) ?_
          rotate_left
          · (try go_simp); (try with_reducible rfl)
          try simp only [Act.put, List.setIfInBounds_toArray, List.set_cons_zero, List.set_cons_succ]
          refine g_take (i := 12) (d := (some 58)) (v := ?_) rfl rfl (by kernel_rfl) (fun _ _ _ h => h) (by rfl) (fun w' hb' => ?_) ?_
          rotate_left
          · (try go_simp); (try with_reducible rfl)
          try simp only [Act.put, List.setIfInBounds_toArray, List.set_cons_zero, List.set_cons_succ]
          refine g_done (by kernel_rfl) ?_
          go_wp2_with fail
          refine ⟨⟨k + 1, a6, c6, A2, s4, p0, p1, p2, p3, p4, p5, p6, p7, by rw [HLN.out], by push_cast; rfl, by omega, by omega, by rw [HLN.out]; exact hn2, ?_, HFX, HK4, hg, Lib.hid ?_⟩, by simp [intOf]; omega⟩
          · rw [HLN.out]; exact ho
          · rw [HLN.out, ← EHC.out]; exact hz
    · obtain ⟨ka, kb, kf⟩ := block_cells2 zk2
      clear kf
      by_cases hk1 : k < n
      · have hk2 : ¬ k < 30 := fun h => hend ⟨hk1, h⟩
        clear hend
        go_wp2_with fail
        have hz : wr.drew.heap[B]? = some (.cells (hashC s r0 r1 r2 r3 r4 r5 r6 r7 (nA : Int)) 49 (0, 0)) := HB.out
        have zk : wr.drew.heap[W.heap.size]? = some (.cells #[.int .u64 (k0 : Int), .int .u64 (k1 : Int)] 24 (0, 0)) := zk2
        have hg : w1.grownBy wr.drew (some B) := grown_drewB hgr
        have ho : wr.drew.ownsRow w1.heap.size 5 1 (.slice aoA nA capA) nA (A.map bv) := oA.drew
        have Tt := tag_any B s HK.out r0 r1 r2 r3 r4 r5 r6 r7 nA (by omega)
        have Ts2 := fun w hd => Ts (.slice aoA nA capA) A (by have := ENA.out; omega) w hd
        rw [HT.out, HF.out, ← ENA.out] at Ts2
        generalize tagN (s, [r0, r1, r2, r3, r4, r5, r6, r7]) nA = tg at Tt Ts2
        generalize hashC s r0 r1 r2 r3 r4 r5 r6 r7 (nA : Int) = hc4 at hz Tt
        clear ka kb
        refine g_start (by kernel_rfl) ?_
        refine g_take (i := 0) (d := (some 59)) (v := ?_) rfl rfl (by kernel_rfl) (fun _ _ _ h => h) (by rfl) (fun w' hb' => ?_) ?_
        rotate_left
        · (try go_simp); (try with_reducible rfl)
        try simp only [Act.put, List.setIfInBounds_toArray, List.set_cons_zero, List.set_cons_succ]
        refine g_take (i := 2) (d := (some 61)) (v := ?_) rfl rfl (by kernel_rfl) (fun _ _ _ h => h) (by rfl) (fun w' hb' => ?_) ?_
        rotate_left
        · have zz : w'.heap[W.heap.size]? = some (.cells #[.int .u64 (k0 : Int), .int .u64 (k1 : Int)] 24 (0, 0)) := (hb'.block _ (lt_of_block zk)).trans zk; obtain ⟨c0, c1, cf⟩ := block_cells2 zz; (try go_simp); (try with_reducible rfl)
        try simp only [Act.put, List.setIfInBounds_toArray, List.set_cons_zero, List.set_cons_succ]
        refine g_take (i := 3) (d := (some 62)) (v := ?_) rfl rfl (by kernel_rfl) (fun _ _ _ h => h) (by rfl) (fun w' hb' => ?_) ?_
        rotate_left
        · (try go_simp); (try with_reducible rfl)
        try simp only [Act.put, List.setIfInBounds_toArray, List.set_cons_zero, List.set_cons_succ]
        refine g_run (i := 1) rfl (by kernel_rfl) (by rfl) (fun K hK => ?_)
        go_simp; refine (Tt _ hz).mono ?_; rintro e y5 ⟨rfl, gg⟩; refine hK _ _ ⟨gg, ?_⟩; have hz := (gg.block _ (lt_of_block hz)).trans hz; have zk := (gg.block _ (lt_of_block zk)).trans zk; have hg := grown_belowB hg gg; have ho := own_below ho gg; clear hK K gg
        try simp only [Act.put, List.setIfInBounds_toArray, List.set_cons_zero, List.set_cons_succ]
        refine g_run (i := 4) rfl (by kernel_rfl) (by rfl) (fun K hK => ?_)
        go_simp; refine (Ts2 _ (own_rdN ho ltB).rd).mono ?_; rintro e y7 ⟨rfl, gg⟩; refine hK _ _ ⟨gg, ?_⟩; have hz := (gg.block _ (lt_of_block hz)).trans hz; have zk := (gg.block _ (lt_of_block zk)).trans zk; have hg := grown_belowB hg gg; have ho := own_below ho gg; clear hK K gg
        try simp only [Act.put, List.setIfInBounds_toArray, List.set_cons_zero, List.set_cons_succ]
        refine g_take (i := 5) (d := (some 64)) (v := ?_) rfl rfl (by kernel_rfl) (fun _ _ _ h => h) (by rfl) (fun w' hb' => ?_) ?_
        rotate_left
        · (try go_simp); (try with_reducible rfl)
        try simp only [Act.put, List.setIfInBounds_toArray, List.set_cons_zero, List.set_cons_succ]
        refine g_take (i := 6) (d := (some 65)) (v := ?_) rfl rfl (by kernel_rfl) (fun _ _ _ h => h) (by rfl) (fun w' hb' => ?_) ?_
        rotate_left
        · (try go_simp); (try with_reducible rfl)
        try simp only [Act.put, List.setIfInBounds_toArray, List.set_cons_zero, List.set_cons_succ]
        refine g_run (i := 7) rfl (by kernel_rfl) (by rfl) (fun K hK => ?_)
        go_simp; refine (awake_any _).mono ?_; rintro e y8 ⟨rfl, gg⟩; refine hK _ _ ⟨gg, ?_⟩; have hz := (gg.block _ (lt_of_block hz)).trans hz; have zk := (gg.block _ (lt_of_block zk)).trans zk; have hg := grown_belowB hg gg; have ho := own_below ho gg; clear hK K gg
        try simp only [Act.put, List.setIfInBounds_toArray, List.set_cons_zero, List.set_cons_succ]
        refine g_take (i := 8) (d := (some 67)) (v := ?_) rfl rfl (by kernel_rfl) (fun _ _ _ h => h) (by rfl) (fun w' hb' => ?_) ?_
        rotate_left
        · (try go_simp); (try with_reducible rfl)
        try simp only [Act.put, List.setIfInBounds_toArray, List.set_cons_zero, List.set_cons_succ]
        refine g_take (i := 9) (d := (some 4)) (v := ?_) rfl rfl (by kernel_rfl) (fun _ _ _ h => h) (by rfl) (fun w' hb' => ?_) ?_
        rotate_left
        · (try go_simp); (try with_reducible rfl)
        try simp only [Act.put, List.setIfInBounds_toArray, List.set_cons_zero, List.set_cons_succ]
        refine g_done (by kernel_rfl) ?_
        go_wp2
        go_ret
        exact ⟨rfl, below_grownB Bel1 hWB hg⟩
      · clear hend
        go_wp2_with fail
        have hz : wr.drew.heap[B]? = some (.cells (hashC s r0 r1 r2 r3 r4 r5 r6 r7 (nA : Int)) 49 (0, 0)) := HB.out
        have zk : wr.drew.heap[W.heap.size]? = some (.cells #[.int .u64 (k0 : Int), .int .u64 (k1 : Int)] 24 (0, 0)) := zk2
        have hg : w1.grownBy wr.drew (some B) := grown_drewB hgr
        have ho : wr.drew.ownsRow w1.heap.size 5 1 (.slice aoA nA capA) nA (A.map bv) := oA.drew
        have Tt := tag_any B s HK.out r0 r1 r2 r3 r4 r5 r6 r7 nA (by omega)
        have Ts2 := fun w hd => Ts (.slice aoA nA capA) A (by have := ENA.out; omega) w hd
        rw [HT.out, HF.out, ← ENA.out] at Ts2
        generalize tagN (s, [r0, r1, r2, r3, r4, r5, r6, r7]) nA = tg at Tt Ts2
        generalize hashC s r0 r1 r2 r3 r4 r5 r6 r7 (nA : Int) = hc4 at hz Tt
        clear ka kb
        refine g_start (by kernel_rfl) ?_
        refine g_take (i := 0) (d := (some 59)) (v := ?_) rfl rfl (by kernel_rfl) (fun _ _ _ h => h) (by rfl) (fun w' hb' => ?_) ?_
        rotate_left
        · (try go_simp); (try with_reducible rfl)
        try simp only [Act.put, List.setIfInBounds_toArray, List.set_cons_zero, List.set_cons_succ]
        refine g_take (i := 2) (d := (some 61)) (v := ?_) rfl rfl (by kernel_rfl) (fun _ _ _ h => h) (by rfl) (fun w' hb' => ?_) ?_
        rotate_left
        · have zz : w'.heap[W.heap.size]? = some (.cells #[.int .u64 (k0 : Int), .int .u64 (k1 : Int)] 24 (0, 0)) := (hb'.block _ (lt_of_block zk)).trans zk; obtain ⟨c0, c1, cf⟩ := block_cells2 zz; (try go_simp); (try with_reducible rfl)
        try simp only [Act.put, List.setIfInBounds_toArray, List.set_cons_zero, List.set_cons_succ]
        refine g_take (i := 3) (d := (some 62)) (v := ?_) rfl rfl (by kernel_rfl) (fun _ _ _ h => h) (by rfl) (fun w' hb' => ?_) ?_
        rotate_left
        · (try go_simp); (try with_reducible rfl)
        try simp only [Act.put, List.setIfInBounds_toArray, List.set_cons_zero, List.set_cons_succ]
        refine g_run (i := 1) rfl (by kernel_rfl) (by rfl) (fun K hK => ?_)
        go_simp; refine (Tt _ hz).mono ?_; rintro e y10 ⟨rfl, gg⟩; refine hK _ _ ⟨gg, ?_⟩; have hz := (gg.block _ (lt_of_block hz)).trans hz; have zk := (gg.block _ (lt_of_block zk)).trans zk; have hg := grown_belowB hg gg; have ho := own_below ho gg; clear hK K gg
        try simp only [Act.put, List.setIfInBounds_toArray, List.set_cons_zero, List.set_cons_succ]
        refine g_run (i := 4) rfl (by kernel_rfl) (by rfl) (fun K hK => ?_)
        go_simp; refine (Ts2 _ (own_rdN ho ltB).rd).mono ?_; rintro e y12 ⟨rfl, gg⟩; refine hK _ _ ⟨gg, ?_⟩; have hz := (gg.block _ (lt_of_block hz)).trans hz; have zk := (gg.block _ (lt_of_block zk)).trans zk; have hg := grown_belowB hg gg; have ho := own_below ho gg; clear hK K gg
        try simp only [Act.put, List.setIfInBounds_toArray, List.set_cons_zero, List.set_cons_succ]
        refine g_take (i := 5) (d := (some 64)) (v := ?_) rfl rfl (by kernel_rfl) (fun _ _ _ h => h) (by rfl) (fun w' hb' => ?_) ?_
        rotate_left
        · (try go_simp); (try with_reducible rfl)
        try simp only [Act.put, List.setIfInBounds_toArray, List.set_cons_zero, List.set_cons_succ]
        refine g_take (i := 6) (d := (some 65)) (v := ?_) rfl rfl (by kernel_rfl) (fun _ _ _ h => h) (by rfl) (fun w' hb' => ?_) ?_
        rotate_left
        · (try go_simp); (try with_reducible rfl)
        try simp only [Act.put, List.setIfInBounds_toArray, List.set_cons_zero, List.set_cons_succ]
        refine g_run (i := 7) rfl (by kernel_rfl) (by rfl) (fun K hK => ?_)
        go_simp; refine (awake_any _).mono ?_; rintro e y13 ⟨rfl, gg⟩; refine hK _ _ ⟨gg, ?_⟩; have hz := (gg.block _ (lt_of_block hz)).trans hz; have zk := (gg.block _ (lt_of_block zk)).trans zk; have hg := grown_belowB hg gg; have ho := own_below ho gg; clear hK K gg
        try simp only [Act.put, List.setIfInBounds_toArray, List.set_cons_zero, List.set_cons_succ]
        refine g_take (i := 8) (d := (some 67)) (v := ?_) rfl rfl (by kernel_rfl) (fun _ _ _ h => h) (by rfl) (fun w' hb' => ?_) ?_
        rotate_left
        · (try go_simp); (try with_reducible rfl)
        try simp only [Act.put, List.setIfInBounds_toArray, List.set_cons_zero, List.set_cons_succ]
        refine g_take (i := 9) (d := (some 4)) (v := ?_) rfl rfl (by kernel_rfl) (fun _ _ _ h => h) (by rfl) (fun w' hb' => ?_) ?_
        rotate_left
        · (try go_simp); (try with_reducible rfl)
        try simp only [Act.put, List.setIfInBounds_toArray, List.set_cons_zero, List.set_cons_succ]
        refine g_done (by kernel_rfl) ?_
        go_wp2
        go_ret
        exact ⟨rfl, below_grownB Bel1 hWB hg⟩
end Go.Proofs.Ytfejjmodkjpmfaa
