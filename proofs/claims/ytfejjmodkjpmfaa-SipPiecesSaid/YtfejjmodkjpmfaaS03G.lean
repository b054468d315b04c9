/- The walk of the law SipParts. Written by wip/tools/gen3g.py. -/
import Derived.Test.YtfejjmodkjpmfaaS03F
import Derived.Test.YtfejjmodkjpmfaaReg
namespace Go.Proofs.Ytfejjmodkjpmfaa
open Go.RowKit
set_option linter.unusedVariables false
set_option linter.unusedSimpArgs false
theorem few_any (v : Value) (l : List UInt8) (w : World) (h : Rd w v l) :
    Calls Try.prog 7 #[v] w fun e w' => (∃ v', e = .returned v' ∧ Rd w v' (l.take 600)) ∧ w = w' := by
  obtain ⟨ao, cap, rfl, hl, hm, hn, hx⟩ := h
  have H := Lib.hid hx
  have H2 := Lib.hid hn
  clear hx hn
  go_enter Try.func7, Try.ntmps7
  go_wp2_with fail
  all_goals
    go_ret
    refine ⟨⟨_, rfl, ?_⟩, rfl⟩
  · have hlt : 600 < l.length := by omega
    refine ⟨ao, cap, by simp [List.length_take]; omega, by simp; omega, hm, H2.out, ?_⟩
    intro hx
    obtain ⟨b, off, h1, h2, h3⟩ := H.out (by omega)
    refine ⟨b, off, h1, h2, ?_⟩
    intro i hi
    simp at hi
    rw [h3 i (by omega)]
    simp [List.getElem?_take, show i < 600 by omega, show i < l.length by omega]
  · rw [List.take_of_length_le (by omega)]
    exact ⟨ao, cap, rfl, hl, hm, H2.out, H.out⟩
theorem u8info : (Try.prog.info? 5).map (fun i => (i.zero, i.size, i.bytes)) = some (some (.int .u8 0), 1, 1) := by kernel_rfl
/-- 'b[:c]', 'b[c:]'. -/
theorem run_to {P : Program} {T e : TypeId} {ti : TypeInfo} (ht : P.underlying T = some (.slice e)) (hi : P.info? e = some ti) (hz : ti.size = 1) (ao : Option Addr) (n cap c : Nat) (h1 : c ≤ n) (h2 : n ≤ cap) (w : World) :
    (Instr.sliceAt T (.slice ao n cap) none (some (.int .i64 (c : Int))) none).run P w = .ok (.slice (if cap = 0 then ao else ao.map (·.add 0)) c cap) w := by
  simp [Instr.sliceAt, Instr.slice, run_underlying ht, Instr.sliceBounds, Instr.sliceBound, asIntOf, (by omega : (c : Int) ≤ (cap : Int)), sizeOf, typeInfo, hi, hz]
  intro h; omega
theorem run_from {P : Program} {T e : TypeId} {ti : TypeInfo} (ht : P.underlying T = some (.slice e)) (hi : P.info? e = some ti) (hz : ti.size = 1) (ao : Option Addr) (n cap c : Nat) (h1 : c ≤ n) (h2 : n ≤ cap) (w : World) :
    (Instr.sliceAt T (.slice ao n cap) (some (.int .i64 (c : Int))) none none).run P w = .ok (.slice (if cap = c then ao else ao.map (·.add (c * 1))) (n - c) (cap - c)) w := by
  simp [Instr.sliceAt, Instr.slice, run_underlying ht, Instr.sliceBounds, Instr.sliceBound, asIntOf, (by omega : (c : Int) ≤ (n : Int)), sizeOf, typeInfo, hi, hz]
  intro h; omega
theorem RdN.grown {w w' : World} {v : Value} {l : List UInt8} {B : Nat} (h : RdN w v l B) (hg : w.grownBy w' (some B)) : RdN w' v l B := by
  obtain ⟨ao, cap, h1, h2, h3, h4, h5⟩ := h
  refine ⟨ao, cap, h1, h2, h3, h4, fun hl => ?_⟩
  obtain ⟨b, off, h6, hne, h7, h8⟩ := h5 hl
  refine ⟨b, off, h6, hne, Nat.lt_of_lt_of_le h7 hg.size, fun i hi => ?_⟩
  have e := hg.block b h7 (by simp; first | exact hne | exact fun e => hne e.symm)
  have c := h8 i hi
  unfold World.cell? at c ⊢
  simp only [] at c ⊢
  rw [e]; exact c
theorem RdN.below {w w' : World} {v : Value} {l : List UInt8} {B : Nat} (h : RdN w v l B) (g : Below w.heap.size w w') : RdN w' v l B := by
  obtain ⟨ao, cap, h1, h2, h3, h4, h5⟩ := h
  refine ⟨ao, cap, h1, h2, h3, h4, fun hl => ?_⟩
  obtain ⟨b, off, h6, hne, h7, h8⟩ := h5 hl
  exact ⟨b, off, h6, hne, Nat.lt_of_lt_of_le h7 g.size, fun i hi => (g.cell (p := ⟨b, off + i, none⟩) h7).trans (h8 i hi)⟩
theorem RdN.rd {w : World} {v : Value} {l : List UInt8} {B : Nat} (h : RdN w v l B) : Rd w v l := by
  obtain ⟨ao, cap, h1, h2, h3, h4, h5⟩ := h
  refine ⟨ao, cap, h1, h2, h3, h4, fun hl => ?_⟩
  obtain ⟨b, off, h6, hne, h7, h8⟩ := h5 hl
  exact ⟨b, off, h6, h7, h8⟩
theorem feed_cut (x : St × List UInt8) (l : List UInt8) (c : Nat) (hc : c ≤ l.length) : feed (feed x 0 (l.take c)) c (l.drop c) = feed x 0 l := by
  have h := feed_app (l.take c) (l.drop c) x 0
  rw [List.take_append_drop, List.length_take, Nat.min_eq_left hc, Nat.zero_add] at h
  exact h.symm
set_option maxRecDepth 100000 in
set_option maxHeartbeats 2000000 in
theorem parts_core (k0 k1 : Nat) (h0 : k0 < 18446744073709551616) (h1 : k1 < 18446744073709551616) (v : Value) (l : List UInt8) (cut : Int) (hi1 : -9223372036854775808 ≤ cut) (hi2 : cut ≤ 9223372036854775807) (W : World) (h : Rd W v l) :
    Calls Try.prog 6 #[.agg #[.int .u64 (k0 : Int), .int .u64 (k1 : Int)], v, .int .i64 cut] W fun e w' => e = .returned (.bool true) ∧ Below W.heap.size W w' := by
  have Tn := new_any k0 k1 h0 h1
  have hok := init_ok k0 k1 h0 h1
  have Ts := fun v l hl w hd => sip_any k0 k1 h0 h1 v l hl w hd
  have htag : ∀ l, sipN k0 k1 l = tagN (feed (initN k0 k1, [0, 0, 0, 0, 0, 0, 0, 0]) 0 l) l.length := fun l => rfl
  obtain ⟨s, es⟩ : ∃ s, s = initN k0 k1 := ⟨_, rfl⟩
  rw [← es] at Tn hok htag
  have HT := Lib.hid htag
  obtain ⟨i0, hi0, hz0, hz1, hz2⟩ := info_parts u8info
  clear htag es h0 h1
  go_enter Try.func6, Try.ntmps6
  go_wp2_with fail
  have zk : (W.alloc (.cells #[.int .u64 (k0 : Int), .int .u64 (k1 : Int)] 24)).heap[W.heap.size]? = some (.cells #[.int .u64 (k0 : Int), .int .u64 (k1 : Int)] 24 (0, 0)) := heap_alloc_new _ _
  have Bel : Below W.heap.size W (W.alloc (.cells #[.int .u64 (k0 : Int), .int .u64 (k1 : Int)] 24)) := (Below.refl _ _).alloc (Nat.le_refl _) _
  generalize W.alloc (.cells #[.int .u64 (k0 : Int), .int .u64 (k1 : Int)] 24) = w0 at zk Bel ⊢
  have rd := h.below Bel (Nat.le_refl _)
  clear h
  refine (few_any v l _ rd).mono ?_
  rintro e w1 ⟨⟨v', rfl, rd'⟩, rfl⟩
  have hl6 : (l.take 600).length ≤ 600 := by simp; omega
  generalize l.take 600 = m at rd' hl6
  clear rd
  obtain ⟨ao, cap, rfl, hlc, hcm, -, -⟩ := id rd'
  unfold maxLen at hcm
  obtain ⟨ln, eln⟩ : ∃ n, n = m.length := ⟨_, rfl⟩
  have RD := Lib.hid rd'
  clear rd'
  rw [← eln] at RD hlc hl6 ⊢
  have ELN := Lib.hid eln
  clear eln
  by_cases hcut : 0 ≤ cut ∧ cut ≤ (ln : Int)
  · obtain ⟨c, rfl⟩ : ∃ c : Nat, cut = (c : Int) := ⟨cut.toNat, by omega⟩
    obtain ⟨hcA, hcB⟩ := hcut
    have hc : c ≤ ln := by omega
    obtain ⟨ka, kb, kf⟩ := block_cells2 zk
    clear kf
    go_wp2_with fail
    refine (Tn _).mono ?_
    rintro e w1 ⟨B, rfl, hB, hz, g⟩
    have hWB : W.heap.size ≤ B := Nat.le_trans Bel.size hB
    have hkB : W.heap.size ≠ B := by have := lt_of_block zk; omega
    have hsA : ∀ w, (Instr.sliceAt 25 (.slice ao ln cap) none (some (.int .i64 (c : Int))) none).run Try.prog w = .ok (.slice (if cap = 0 then ao else ao.map (·.add 0)) c cap) w := fun w => run_to (P := Try.prog) Try.underlying25 hi0 hz1 ao ln cap c hc hlc w
    have hsB : ∀ w, (Instr.sliceAt 25 (.slice ao ln cap) (some (.int .i64 (c : Int))) none none).run Try.prog w = .ok (.slice (if cap = c then ao else ao.map (·.add (c * 1))) (ln - c) (cap - c)) w := fun w => run_from (P := Try.prog) Try.underlying25 hi0 hz1 ao ln cap c hc hlc w
    have rA : RdN w1 (.slice (if cap = 0 then ao else ao.map (·.add 0)) c cap) (m.take c) B := by
      have q := rd_sliced RD.out 0 c (by omega) hc
      have q2 : Rd w0 (.slice (if cap = 0 then ao else ao.map (·.add 0)) c cap) (m.take c) := by simpa using q
      exact q2.far g hB
    have rB : RdN w1 (.slice (if cap = c then ao else ao.map (·.add (c * 1))) (ln - c) (cap - c)) (m.drop c) B := by
      have q := rd_sliced RD.out c ln hc (Nat.le_refl _)
      rw [List.take_of_length_le (by rw [List.length_drop, ← ELN.out]; omega)] at q
      exact q.far g hB
    have rF : RdN w1 (.slice ao ln cap) m B := RD.out.far g hB
    generalize (if cap = 0 then ao else ao.map (·.add 0)) = aoA at rA hsA
    generalize (if cap = c then ao else ao.map (·.add (c * 1))) = aoB at rB hsB
    have zk1 : w1.heap[W.heap.size]? = some (.cells #[.int .u64 (k0 : Int), .int .u64 (k1 : Int)] 24 (0, 0)) := (g.block _ (lt_of_block zk)).trans zk
    have Bel1 : Below W.heap.size W w1 := chain Bel g
    clear ka kb g zk
    go_wp2_with fail
    refine (add_any B s hok 0 0 0 0 0 0 0 0 0 _ _ (by rw [List.length_take, ← ELN.out]; omega) w1 hz rA).mono ?_
    rintro e w2 ⟨rfl, s2, r0, r1, r2, r3, r4, r5, r6, r7, hf, hok2, hz2, hg⟩
    have Bel2 := below_grownB Bel1 hWB hg
    have zk2 : w2.heap[W.heap.size]? = some (.cells #[.int .u64 (k0 : Int), .int .u64 (k1 : Int)] 24 (0, 0)) := (hg.block _ (lt_of_block zk1) (by simp; first | exact fun e => hkB e.symm | exact hkB)).trans zk1
    have rB2 := rB.grown hg
    have rF2 := rF.grown hg
    rw [List.length_take, ← ELN.out, Nat.min_eq_left hc, Nat.zero_add] at hz2
    have HF := Lib.hid hf
    clear hf hg rB rF zk1 Bel1 hz rA hsA
    go_wp2_with fail
    refine (tag_any B s2 hok2 r0 r1 r2 r3 r4 r5 r6 r7 c (by omega) w2 hz2).mono ?_
    rintro e w3 ⟨rfl, g⟩
    have Bel3 : Below W.heap.size W w3 := chain Bel2 g
    have zk3 : w3.heap[W.heap.size]? = some (.cells #[.int .u64 (k0 : Int), .int .u64 (k1 : Int)] 24 (0, 0)) := (g.block _ (lt_of_block zk2)).trans zk2
    have hz3 : w3.heap[B]? = some (.cells (hashC s2 r0 r1 r2 r3 r4 r5 r6 r7 (c : Int)) 49 (0, 0)) := (g.block _ (lt_of_block hz2)).trans hz2
    have rB3 := rB2.below g
    have rF3 := rF2.below g
    clear g rB2 rF2 zk2 hz2 Bel2
    go_wp2_with fail
    refine (add_any B s2 hok2 r0 r1 r2 r3 r4 r5 r6 r7 c _ _ (by rw [List.length_drop, ← ELN.out]; omega) w3 hz3 rB3).mono ?_
    rintro e w4 ⟨rfl, s4, q0, q1', q2', q3, q4, q5, q6, q7, hf4, hok4, hz4, hg4⟩
    have Bel4 := below_grownB Bel3 hWB hg4
    have zk4 : w4.heap[W.heap.size]? = some (.cells #[.int .u64 (k0 : Int), .int .u64 (k1 : Int)] 24 (0, 0)) := (hg4.block _ (lt_of_block zk3) (by simp; first | exact fun e => hkB e.symm | exact hkB)).trans zk3
    have rF4 := (rF3.grown hg4).rd
    rw [List.length_drop, ← ELN.out, show c + (ln - c) = ln from by omega] at hz4
    have HF4 : feed (s, [0, 0, 0, 0, 0, 0, 0, 0]) 0 m = (s4, [q0, q1', q2', q3, q4, q5, q6, q7]) := by
      rw [← feed_cut _ m c (by rw [← ELN.out]; exact hc), HF.out, hf4]
    have Ts4 := fun w hd => Ts (.slice ao ln cap) m (by rw [← ELN.out]; omega) w hd
    rw [HT.out, HF4, ← ELN.out] at Ts4
    have Tt := tag_any B s4 hok4 q0 q1' q2' q3 q4 q5 q6 q7 ln (by omega)
    have Tc := count_any B s4 q0 q1' q2' q3 q4 q5 q6 q7 (ln : Int)
    generalize tagN (s4, [q0, q1', q2', q3, q4, q5, q6, q7]) ln = tg at Ts4 Tt
    clear HF HF4 hf4 hg4 rF3 rB3 zk3 hz3 Bel3 hsB
    go_wp2_with fail
    generalize hashC s4 q0 q1' q2' q3 q4 q5 q6 q7 (ln : Int) = hc4 at hz4 Tt Tc
    have hz4 : w4.drew.heap[B]? = some (.cells hc4 49 (0, 0)) := hz4
    have zk4 : w4.drew.heap[W.heap.size]? = some (.cells #[.int .u64 (k0 : Int), .int .u64 (k1 : Int)] 24 (0, 0)) := zk4
    have rF4 : Rd w4.drew (.slice ao ln cap) m := rF4.below (B := w4.heap.size) ⟨rfl, rfl, rfl, Nat.le_refl _, fun _ _ => rfl⟩ (Nat.le_refl _)
    have Bel4 : Below W.heap.size W w4.drew := ⟨Bel4.os, Bel4.tape, Bel4.output, Bel4.size, Bel4.block⟩
    refine g_start (by kernel_rfl) ?_
    refine g_take (i := 0) (d := (some 37)) (v := ?_) rfl rfl (by kernel_rfl) (fun _ _ _ h => h) (by rfl) (fun w' hb' => ?_) ?_
    rotate_left
    · (try go_simp); (try with_reducible rfl)
    try simp only [Act.put, List.setIfInBounds_toArray, List.set_cons_zero, List.set_cons_succ]
    refine g_take (i := 2) (d := (some 39)) (v := ?_) rfl rfl (by kernel_rfl) (fun _ _ _ h => h) (by rfl) (fun w' hb' => ?_) ?_
    rotate_left
    · have zz : w'.heap[W.heap.size]? = some (.cells #[.int .u64 (k0 : Int), .int .u64 (k1 : Int)] 24 (0, 0)) := (hb'.block _ (lt_of_block zk4)).trans zk4; obtain ⟨c0, c1, cf⟩ := block_cells2 zz; (try go_simp); (try with_reducible rfl)
    try simp only [Act.put, List.setIfInBounds_toArray, List.set_cons_zero, List.set_cons_succ]
    refine g_take (i := 3) (d := (some 40)) (v := ?_) rfl rfl (by kernel_rfl) (fun _ _ _ h => h) (by rfl) (fun w' hb' => ?_) ?_
    rotate_left
    · (try go_simp); (try with_reducible rfl)
    try simp only [Act.put, List.setIfInBounds_toArray, List.set_cons_zero, List.set_cons_succ]
    refine g_run (i := 1) rfl (by kernel_rfl) (by rfl) (fun K hK => ?_)
    go_simp; refine (Tt _ hz4).mono ?_; rintro e v1 ⟨rfl, g⟩; refine hK _ _ ⟨g, ?_⟩; have hz4 := (g.block _ (lt_of_block hz4)).trans hz4; have zk4 := (g.block _ (lt_of_block zk4)).trans zk4; have rF4 := rF4.below g (Nat.le_refl _); have Bel4 := chain Bel4 g; clear hK K g
    try simp only [Act.put, List.setIfInBounds_toArray, List.set_cons_zero, List.set_cons_succ]
    refine g_run (i := 4) rfl (by kernel_rfl) (by rfl) (fun K hK => ?_)
    go_simp; refine (Ts4 _ rF4).mono ?_; rintro e v2 ⟨rfl, g⟩; refine hK _ _ ⟨g, ?_⟩; have hz4 := (g.block _ (lt_of_block hz4)).trans hz4; have zk4 := (g.block _ (lt_of_block zk4)).trans zk4; have rF4 := rF4.below g (Nat.le_refl _); have Bel4 := chain Bel4 g; clear hK K g
    try simp only [Act.put, List.setIfInBounds_toArray, List.set_cons_zero, List.set_cons_succ]
    refine g_take (i := 5) (d := (some 42)) (v := ?_) rfl rfl (by kernel_rfl) (fun _ _ _ h => h) (by rfl) (fun w' hb' => ?_) ?_
    rotate_left
    · (try go_simp); (try with_reducible rfl)
    try simp only [Act.put, List.setIfInBounds_toArray, List.set_cons_zero, List.set_cons_succ]
    refine g_take (i := 6) (d := (some 43)) (v := ?_) rfl rfl (by kernel_rfl) (fun _ _ _ h => h) (by rfl) (fun w' hb' => ?_) ?_
    rotate_left
    · (try go_simp); (try with_reducible rfl)
    try simp only [Act.put, List.setIfInBounds_toArray, List.set_cons_zero, List.set_cons_succ]
    refine g_take (i := 7) (d := (some 44)) (v := ?_) rfl rfl (by kernel_rfl) (fun _ _ _ h => h) (by rfl) (fun w' hb' => ?_) ?_
    rotate_left
    · (try go_simp); (try with_reducible rfl)
    try simp only [Act.put, List.setIfInBounds_toArray, List.set_cons_zero, List.set_cons_succ]
    refine g_take (i := 9) (d := (some 46)) (v := ?_) rfl rfl (by kernel_rfl) (fun _ _ _ h => h) (by rfl) (fun w' hb' => ?_) ?_
    rotate_left
    · (try go_simp); (try with_reducible rfl)
    try simp only [Act.put, List.setIfInBounds_toArray, List.set_cons_zero, List.set_cons_succ]
    refine g_take (i := 10) (d := (some 47)) (v := ?_) rfl rfl (by kernel_rfl) (fun _ _ _ h => h) (by rfl) (fun w' hb' => ?_) ?_
    rotate_left
    · (try go_simp); (try with_reducible rfl)
    try simp only [Act.put, List.setIfInBounds_toArray, List.set_cons_zero, List.set_cons_succ]
    refine g_run (i := 8) rfl (by kernel_rfl) (by rfl) (fun K hK => ?_)
    go_simp; refine (Tc _ hz4).mono ?_; rintro e v3 ⟨rfl, rfl⟩; refine hK _ _ ⟨Below.refl _ _, ?_⟩; clear hK K
    try simp only [Act.put, List.setIfInBounds_toArray, List.set_cons_zero, List.set_cons_succ]
    refine g_take (i := 11) (d := (some 48)) (v := ?_) rfl rfl (by kernel_rfl) (fun _ _ _ h => h) (by rfl) (fun w' hb' => ?_) ?_
    rotate_left
    · (try go_simp); (try with_reducible rfl)
    try simp only [Act.put, List.setIfInBounds_toArray, List.set_cons_zero, List.set_cons_succ]
    refine g_take (i := 12) (d := (some 49)) (v := ?_) rfl rfl (by kernel_rfl) (fun _ _ _ h => h) (by rfl) (fun w' hb' => ?_) ?_
    rotate_left
    · (try go_simp); (try with_reducible rfl)
    try simp only [Act.put, List.setIfInBounds_toArray, List.set_cons_zero, List.set_cons_succ]
    refine g_take (i := 13) (d := (some 50)) (v := ?_) rfl rfl (by kernel_rfl) (fun _ _ _ h => h) (by rfl) (fun w' hb' => ?_) ?_
    rotate_left
    · (try go_simp); (try with_reducible rfl)
    try simp only [Act.put, List.setIfInBounds_toArray, List.set_cons_zero, List.set_cons_succ]
    refine g_run (i := 14) rfl (by kernel_rfl) (by rfl) (fun K hK => ?_)
    go_simp; refine (awake_any _).mono ?_; rintro e v4 ⟨rfl, g⟩; refine hK _ _ ⟨g, ?_⟩; have hz4 := (g.block _ (lt_of_block hz4)).trans hz4; have zk4 := (g.block _ (lt_of_block zk4)).trans zk4; have rF4 := rF4.below g (Nat.le_refl _); have Bel4 := chain Bel4 g; clear hK K g
    try simp only [Act.put, List.setIfInBounds_toArray, List.set_cons_zero, List.set_cons_succ]
    refine g_take (i := 15) (d := (some 52)) (v := ?_) rfl rfl (by kernel_rfl) (fun _ _ _ h => h) (by rfl) (fun w' hb' => ?_) ?_
    rotate_left
    · (try go_simp); (try with_reducible rfl)
    try simp only [Act.put, List.setIfInBounds_toArray, List.set_cons_zero, List.set_cons_succ]
    refine g_take (i := 16) (d := (some 6)) (v := ?_) rfl rfl (by kernel_rfl) (fun _ _ _ h => h) (by rfl) (fun w' hb' => ?_) ?_
    rotate_left
    · (try go_simp); (try with_reducible rfl)
    try simp only [Act.put, List.setIfInBounds_toArray, List.set_cons_zero, List.set_cons_succ]
    refine g_done (by kernel_rfl) ?_
    go_wp2
    go_ret
    exact ⟨rfl, Bel4⟩
  · obtain ⟨c, ec⟩ : ∃ c : Nat, c = ln / 2 := ⟨_, rfl⟩
    have hc : c ≤ ln := by omega
    have q1 : (ln : Int) / 2 = (c : Int) := by omega
    have q2 : (ln : Int).tdiv 2 = (c : Int) := by rw [Int.tdiv_eq_ediv_of_nonneg (by omega)]; exact q1
    have EC := Lib.hid ec
    clear ec
    rcases (show cut < 0 ∨ (0 ≤ cut ∧ (ln : Int) < cut) by omega) with hneg | ⟨hpos, hbig⟩
    · skip
      obtain ⟨ka, kb, kf⟩ := block_cells2 zk
      clear kf
      go_wp2_with fail
      refine (Tn _).mono ?_
      rintro e w1 ⟨B, rfl, hB, hz, g⟩
      have hWB : W.heap.size ≤ B := Nat.le_trans Bel.size hB
      have hkB : W.heap.size ≠ B := by have := lt_of_block zk; omega
      have hsA : ∀ w, (Instr.sliceAt 25 (.slice ao ln cap) none (some (.int .i64 (c : Int))) none).run Try.prog w = .ok (.slice (if cap = 0 then ao else ao.map (·.add 0)) c cap) w := fun w => run_to (P := Try.prog) Try.underlying25 hi0 hz1 ao ln cap c hc hlc w
      have hsB : ∀ w, (Instr.sliceAt 25 (.slice ao ln cap) (some (.int .i64 (c : Int))) none none).run Try.prog w = .ok (.slice (if cap = c then ao else ao.map (·.add (c * 1))) (ln - c) (cap - c)) w := fun w => run_from (P := Try.prog) Try.underlying25 hi0 hz1 ao ln cap c hc hlc w
      have rA : RdN w1 (.slice (if cap = 0 then ao else ao.map (·.add 0)) c cap) (m.take c) B := by
        have q := rd_sliced RD.out 0 c (by omega) hc
        have q2 : Rd w0 (.slice (if cap = 0 then ao else ao.map (·.add 0)) c cap) (m.take c) := by simpa using q
        exact q2.far g hB
      have rB : RdN w1 (.slice (if cap = c then ao else ao.map (·.add (c * 1))) (ln - c) (cap - c)) (m.drop c) B := by
        have q := rd_sliced RD.out c ln hc (Nat.le_refl _)
        rw [List.take_of_length_le (by rw [List.length_drop, ← ELN.out]; omega)] at q
        exact q.far g hB
      have rF : RdN w1 (.slice ao ln cap) m B := RD.out.far g hB
      generalize (if cap = 0 then ao else ao.map (·.add 0)) = aoA at rA hsA
      generalize (if cap = c then ao else ao.map (·.add (c * 1))) = aoB at rB hsB
      have zk1 : w1.heap[W.heap.size]? = some (.cells #[.int .u64 (k0 : Int), .int .u64 (k1 : Int)] 24 (0, 0)) := (g.block _ (lt_of_block zk)).trans zk
      have Bel1 : Below W.heap.size W w1 := chain Bel g
      clear ka kb g zk
      go_wp2_with fail
      refine (add_any B s hok 0 0 0 0 0 0 0 0 0 _ _ (by rw [List.length_take, ← ELN.out]; omega) w1 hz rA).mono ?_
      rintro e w2 ⟨rfl, s2, r0, r1, r2, r3, r4, r5, r6, r7, hf, hok2, hz2, hg⟩
      have Bel2 := below_grownB Bel1 hWB hg
      have zk2 : w2.heap[W.heap.size]? = some (.cells #[.int .u64 (k0 : Int), .int .u64 (k1 : Int)] 24 (0, 0)) := (hg.block _ (lt_of_block zk1) (by simp; first | exact fun e => hkB e.symm | exact hkB)).trans zk1
      have rB2 := rB.grown hg
      have rF2 := rF.grown hg
      rw [List.length_take, ← ELN.out, Nat.min_eq_left hc, Nat.zero_add] at hz2
      have HF := Lib.hid hf
      clear hf hg rB rF zk1 Bel1 hz rA hsA
      go_wp2_with fail
      refine (tag_any B s2 hok2 r0 r1 r2 r3 r4 r5 r6 r7 c (by omega) w2 hz2).mono ?_
      rintro e w3 ⟨rfl, g⟩
      have Bel3 : Below W.heap.size W w3 := chain Bel2 g
      have zk3 : w3.heap[W.heap.size]? = some (.cells #[.int .u64 (k0 : Int), .int .u64 (k1 : Int)] 24 (0, 0)) := (g.block _ (lt_of_block zk2)).trans zk2
      have hz3 : w3.heap[B]? = some (.cells (hashC s2 r0 r1 r2 r3 r4 r5 r6 r7 (c : Int)) 49 (0, 0)) := (g.block _ (lt_of_block hz2)).trans hz2
      have rB3 := rB2.below g
      have rF3 := rF2.below g
      clear g rB2 rF2 zk2 hz2 Bel2
      go_wp2_with fail
      refine (add_any B s2 hok2 r0 r1 r2 r3 r4 r5 r6 r7 c _ _ (by rw [List.length_drop, ← ELN.out]; omega) w3 hz3 rB3).mono ?_
      rintro e w4 ⟨rfl, s4, q0, q1', q2', q3, q4, q5, q6, q7, hf4, hok4, hz4, hg4⟩
      have Bel4 := below_grownB Bel3 hWB hg4
      have zk4 : w4.heap[W.heap.size]? = some (.cells #[.int .u64 (k0 : Int), .int .u64 (k1 : Int)] 24 (0, 0)) := (hg4.block _ (lt_of_block zk3) (by simp; first | exact fun e => hkB e.symm | exact hkB)).trans zk3
      have rF4 := (rF3.grown hg4).rd
      rw [List.length_drop, ← ELN.out, show c + (ln - c) = ln from by omega] at hz4
      have HF4 : feed (s, [0, 0, 0, 0, 0, 0, 0, 0]) 0 m = (s4, [q0, q1', q2', q3, q4, q5, q6, q7]) := by
        rw [← feed_cut _ m c (by rw [← ELN.out]; exact hc), HF.out, hf4]
      have Ts4 := fun w hd => Ts (.slice ao ln cap) m (by rw [← ELN.out]; omega) w hd
      rw [HT.out, HF4, ← ELN.out] at Ts4
      have Tt := tag_any B s4 hok4 q0 q1' q2' q3 q4 q5 q6 q7 ln (by omega)
      have Tc := count_any B s4 q0 q1' q2' q3 q4 q5 q6 q7 (ln : Int)
      generalize tagN (s4, [q0, q1', q2', q3, q4, q5, q6, q7]) ln = tg at Ts4 Tt
      clear HF HF4 hf4 hg4 rF3 rB3 zk3 hz3 Bel3 hsB
      go_wp2_with fail
      generalize hashC s4 q0 q1' q2' q3 q4 q5 q6 q7 (ln : Int) = hc4 at hz4 Tt Tc
      have hz4 : w4.drew.heap[B]? = some (.cells hc4 49 (0, 0)) := hz4
      have zk4 : w4.drew.heap[W.heap.size]? = some (.cells #[.int .u64 (k0 : Int), .int .u64 (k1 : Int)] 24 (0, 0)) := zk4
      have rF4 : Rd w4.drew (.slice ao ln cap) m := rF4.below (B := w4.heap.size) ⟨rfl, rfl, rfl, Nat.le_refl _, fun _ _ => rfl⟩ (Nat.le_refl _)
      have Bel4 : Below W.heap.size W w4.drew := ⟨Bel4.os, Bel4.tape, Bel4.output, Bel4.size, Bel4.block⟩
      refine g_start (by kernel_rfl) ?_
      refine g_take (i := 0) (d := (some 37)) (v := ?_) rfl rfl (by kernel_rfl) (fun _ _ _ h => h) (by rfl) (fun w' hb' => ?_) ?_
      rotate_left
      · (try go_simp); (try with_reducible rfl)
      try simp only [Act.put, List.setIfInBounds_toArray, List.set_cons_zero, List.set_cons_succ]
      refine g_take (i := 2) (d := (some 39)) (v := ?_) rfl rfl (by kernel_rfl) (fun _ _ _ h => h) (by rfl) (fun w' hb' => ?_) ?_
      rotate_left
      · have zz : w'.heap[W.heap.size]? = some (.cells #[.int .u64 (k0 : Int), .int .u64 (k1 : Int)] 24 (0, 0)) := (hb'.block _ (lt_of_block zk4)).trans zk4; obtain ⟨c0, c1, cf⟩ := block_cells2 zz; (try go_simp); (try with_reducible rfl)
      try simp only [Act.put, List.setIfInBounds_toArray, List.set_cons_zero, List.set_cons_succ]
      refine g_take (i := 3) (d := (some 40)) (v := ?_) rfl rfl (by kernel_rfl) (fun _ _ _ h => h) (by rfl) (fun w' hb' => ?_) ?_
      rotate_left
      · (try go_simp); (try with_reducible rfl)
      try simp only [Act.put, List.setIfInBounds_toArray, List.set_cons_zero, List.set_cons_succ]
      refine g_run (i := 1) rfl (by kernel_rfl) (by rfl) (fun K hK => ?_)
      go_simp; refine (Tt _ hz4).mono ?_; rintro e v1 ⟨rfl, g⟩; refine hK _ _ ⟨g, ?_⟩; have hz4 := (g.block _ (lt_of_block hz4)).trans hz4; have zk4 := (g.block _ (lt_of_block zk4)).trans zk4; have rF4 := rF4.below g (Nat.le_refl _); have Bel4 := chain Bel4 g; clear hK K g
      try simp only [Act.put, List.setIfInBounds_toArray, List.set_cons_zero, List.set_cons_succ]
      refine g_run (i := 4) rfl (by kernel_rfl) (by rfl) (fun K hK => ?_)
      go_simp; refine (Ts4 _ rF4).mono ?_; rintro e v2 ⟨rfl, g⟩; refine hK _ _ ⟨g, ?_⟩; have hz4 := (g.block _ (lt_of_block hz4)).trans hz4; have zk4 := (g.block _ (lt_of_block zk4)).trans zk4; have rF4 := rF4.below g (Nat.le_refl _); have Bel4 := chain Bel4 g; clear hK K g
      try simp only [Act.put, List.setIfInBounds_toArray, List.set_cons_zero, List.set_cons_succ]
      refine g_take (i := 5) (d := (some 42)) (v := ?_) rfl rfl (by kernel_rfl) (fun _ _ _ h => h) (by rfl) (fun w' hb' => ?_) ?_
      rotate_left
      · (try go_simp); (try with_reducible rfl)
      try simp only [Act.put, List.setIfInBounds_toArray, List.set_cons_zero, List.set_cons_succ]
      refine g_take (i := 6) (d := (some 43)) (v := ?_) rfl rfl (by kernel_rfl) (fun _ _ _ h => h) (by rfl) (fun w' hb' => ?_) ?_
      rotate_left
      · (try go_simp); (try with_reducible rfl)
      try simp only [Act.put, List.setIfInBounds_toArray, List.set_cons_zero, List.set_cons_succ]
      refine g_take (i := 7) (d := (some 44)) (v := ?_) rfl rfl (by kernel_rfl) (fun _ _ _ h => h) (by rfl) (fun w' hb' => ?_) ?_
      rotate_left
      · (try go_simp); (try with_reducible rfl)
      try simp only [Act.put, List.setIfInBounds_toArray, List.set_cons_zero, List.set_cons_succ]
      refine g_take (i := 9) (d := (some 46)) (v := ?_) rfl rfl (by kernel_rfl) (fun _ _ _ h => h) (by rfl) (fun w' hb' => ?_) ?_
      rotate_left
      · (try go_simp); (try with_reducible rfl)
      try simp only [Act.put, List.setIfInBounds_toArray, List.set_cons_zero, List.set_cons_succ]
      refine g_take (i := 10) (d := (some 47)) (v := ?_) rfl rfl (by kernel_rfl) (fun _ _ _ h => h) (by rfl) (fun w' hb' => ?_) ?_
      rotate_left
      · (try go_simp); (try with_reducible rfl)
      try simp only [Act.put, List.setIfInBounds_toArray, List.set_cons_zero, List.set_cons_succ]
      refine g_run (i := 8) rfl (by kernel_rfl) (by rfl) (fun K hK => ?_)
      go_simp; refine (Tc _ hz4).mono ?_; rintro e v3 ⟨rfl, rfl⟩; refine hK _ _ ⟨Below.refl _ _, ?_⟩; clear hK K
      try simp only [Act.put, List.setIfInBounds_toArray, List.set_cons_zero, List.set_cons_succ]
      refine g_take (i := 11) (d := (some 48)) (v := ?_) rfl rfl (by kernel_rfl) (fun _ _ _ h => h) (by rfl) (fun w' hb' => ?_) ?_
      rotate_left
      · (try go_simp); (try with_reducible rfl)
      try simp only [Act.put, List.setIfInBounds_toArray, List.set_cons_zero, List.set_cons_succ]
      refine g_take (i := 12) (d := (some 49)) (v := ?_) rfl rfl (by kernel_rfl) (fun _ _ _ h => h) (by rfl) (fun w' hb' => ?_) ?_
      rotate_left
      · (try go_simp); (try with_reducible rfl)
      try simp only [Act.put, List.setIfInBounds_toArray, List.set_cons_zero, List.set_cons_succ]
      refine g_take (i := 13) (d := (some 50)) (v := ?_) rfl rfl (by kernel_rfl) (fun _ _ _ h => h) (by rfl) (fun w' hb' => ?_) ?_
      rotate_left
      · (try go_simp); (try with_reducible rfl)
      try simp only [Act.put, List.setIfInBounds_toArray, List.set_cons_zero, List.set_cons_succ]
      refine g_run (i := 14) rfl (by kernel_rfl) (by rfl) (fun K hK => ?_)
      go_simp; refine (awake_any _).mono ?_; rintro e v4 ⟨rfl, g⟩; refine hK _ _ ⟨g, ?_⟩; have hz4 := (g.block _ (lt_of_block hz4)).trans hz4; have zk4 := (g.block _ (lt_of_block zk4)).trans zk4; have rF4 := rF4.below g (Nat.le_refl _); have Bel4 := chain Bel4 g; clear hK K g
      try simp only [Act.put, List.setIfInBounds_toArray, List.set_cons_zero, List.set_cons_succ]
      refine g_take (i := 15) (d := (some 52)) (v := ?_) rfl rfl (by kernel_rfl) (fun _ _ _ h => h) (by rfl) (fun w' hb' => ?_) ?_
      rotate_left
      · (try go_simp); (try with_reducible rfl)
      try simp only [Act.put, List.setIfInBounds_toArray, List.set_cons_zero, List.set_cons_succ]
      refine g_take (i := 16) (d := (some 6)) (v := ?_) rfl rfl (by kernel_rfl) (fun _ _ _ h => h) (by rfl) (fun w' hb' => ?_) ?_
      rotate_left
      · (try go_simp); (try with_reducible rfl)
      try simp only [Act.put, List.setIfInBounds_toArray, List.set_cons_zero, List.set_cons_succ]
      refine g_done (by kernel_rfl) ?_
      go_wp2
      go_ret
      exact ⟨rfl, Bel4⟩
    · skip
      obtain ⟨ka, kb, kf⟩ := block_cells2 zk
      clear kf
      go_wp2_with fail
      refine (Tn _).mono ?_
      rintro e w1 ⟨B, rfl, hB, hz, g⟩
      have hWB : W.heap.size ≤ B := Nat.le_trans Bel.size hB
      have hkB : W.heap.size ≠ B := by have := lt_of_block zk; omega
      have hsA : ∀ w, (Instr.sliceAt 25 (.slice ao ln cap) none (some (.int .i64 (c : Int))) none).run Try.prog w = .ok (.slice (if cap = 0 then ao else ao.map (·.add 0)) c cap) w := fun w => run_to (P := Try.prog) Try.underlying25 hi0 hz1 ao ln cap c hc hlc w
      have hsB : ∀ w, (Instr.sliceAt 25 (.slice ao ln cap) (some (.int .i64 (c : Int))) none none).run Try.prog w = .ok (.slice (if cap = c then ao else ao.map (·.add (c * 1))) (ln - c) (cap - c)) w := fun w => run_from (P := Try.prog) Try.underlying25 hi0 hz1 ao ln cap c hc hlc w
      have rA : RdN w1 (.slice (if cap = 0 then ao else ao.map (·.add 0)) c cap) (m.take c) B := by
        have q := rd_sliced RD.out 0 c (by omega) hc
        have q2 : Rd w0 (.slice (if cap = 0 then ao else ao.map (·.add 0)) c cap) (m.take c) := by simpa using q
        exact q2.far g hB
      have rB : RdN w1 (.slice (if cap = c then ao else ao.map (·.add (c * 1))) (ln - c) (cap - c)) (m.drop c) B := by
        have q := rd_sliced RD.out c ln hc (Nat.le_refl _)
        rw [List.take_of_length_le (by rw [List.length_drop, ← ELN.out]; omega)] at q
        exact q.far g hB
      have rF : RdN w1 (.slice ao ln cap) m B := RD.out.far g hB
      generalize (if cap = 0 then ao else ao.map (·.add 0)) = aoA at rA hsA
      generalize (if cap = c then ao else ao.map (·.add (c * 1))) = aoB at rB hsB
      have zk1 : w1.heap[W.heap.size]? = some (.cells #[.int .u64 (k0 : Int), .int .u64 (k1 : Int)] 24 (0, 0)) := (g.block _ (lt_of_block zk)).trans zk
      have Bel1 : Below W.heap.size W w1 := chain Bel g
      clear ka kb g zk
      go_wp2_with fail
      refine (add_any B s hok 0 0 0 0 0 0 0 0 0 _ _ (by rw [List.length_take, ← ELN.out]; omega) w1 hz rA).mono ?_
      rintro e w2 ⟨rfl, s2, r0, r1, r2, r3, r4, r5, r6, r7, hf, hok2, hz2, hg⟩
      have Bel2 := below_grownB Bel1 hWB hg
      have zk2 : w2.heap[W.heap.size]? = some (.cells #[.int .u64 (k0 : Int), .int .u64 (k1 : Int)] 24 (0, 0)) := (hg.block _ (lt_of_block zk1) (by simp; first | exact fun e => hkB e.symm | exact hkB)).trans zk1
      have rB2 := rB.grown hg
      have rF2 := rF.grown hg
      rw [List.length_take, ← ELN.out, Nat.min_eq_left hc, Nat.zero_add] at hz2
      have HF := Lib.hid hf
      clear hf hg rB rF zk1 Bel1 hz rA hsA
      go_wp2_with fail
      refine (tag_any B s2 hok2 r0 r1 r2 r3 r4 r5 r6 r7 c (by omega) w2 hz2).mono ?_
      rintro e w3 ⟨rfl, g⟩
      have Bel3 : Below W.heap.size W w3 := chain Bel2 g
      have zk3 : w3.heap[W.heap.size]? = some (.cells #[.int .u64 (k0 : Int), .int .u64 (k1 : Int)] 24 (0, 0)) := (g.block _ (lt_of_block zk2)).trans zk2
      have hz3 : w3.heap[B]? = some (.cells (hashC s2 r0 r1 r2 r3 r4 r5 r6 r7 (c : Int)) 49 (0, 0)) := (g.block _ (lt_of_block hz2)).trans hz2
      have rB3 := rB2.below g
      have rF3 := rF2.below g
      clear g rB2 rF2 zk2 hz2 Bel2
      go_wp2_with fail
      refine (add_any B s2 hok2 r0 r1 r2 r3 r4 r5 r6 r7 c _ _ (by rw [List.length_drop, ← ELN.out]; omega) w3 hz3 rB3).mono ?_
      rintro e w4 ⟨rfl, s4, q0, q1', q2', q3, q4, q5, q6, q7, hf4, hok4, hz4, hg4⟩
      have Bel4 := below_grownB Bel3 hWB hg4
      have zk4 : w4.heap[W.heap.size]? = some (.cells #[.int .u64 (k0 : Int), .int .u64 (k1 : Int)] 24 (0, 0)) := (hg4.block _ (lt_of_block zk3) (by simp; first | exact fun e => hkB e.symm | exact hkB)).trans zk3
      have rF4 := (rF3.grown hg4).rd
      rw [List.length_drop, ← ELN.out, show c + (ln - c) = ln from by omega] at hz4
      have HF4 : feed (s, [0, 0, 0, 0, 0, 0, 0, 0]) 0 m = (s4, [q0, q1', q2', q3, q4, q5, q6, q7]) := by
        rw [← feed_cut _ m c (by rw [← ELN.out]; exact hc), HF.out, hf4]
      have Ts4 := fun w hd => Ts (.slice ao ln cap) m (by rw [← ELN.out]; omega) w hd
      rw [HT.out, HF4, ← ELN.out] at Ts4
      have Tt := tag_any B s4 hok4 q0 q1' q2' q3 q4 q5 q6 q7 ln (by omega)
      have Tc := count_any B s4 q0 q1' q2' q3 q4 q5 q6 q7 (ln : Int)
      generalize tagN (s4, [q0, q1', q2', q3, q4, q5, q6, q7]) ln = tg at Ts4 Tt
      clear HF HF4 hf4 hg4 rF3 rB3 zk3 hz3 Bel3 hsB
      go_wp2_with fail
      generalize hashC s4 q0 q1' q2' q3 q4 q5 q6 q7 (ln : Int) = hc4 at hz4 Tt Tc
      have hz4 : w4.drew.heap[B]? = some (.cells hc4 49 (0, 0)) := hz4
      have zk4 : w4.drew.heap[W.heap.size]? = some (.cells #[.int .u64 (k0 : Int), .int .u64 (k1 : Int)] 24 (0, 0)) := zk4
      have rF4 : Rd w4.drew (.slice ao ln cap) m := rF4.below (B := w4.heap.size) ⟨rfl, rfl, rfl, Nat.le_refl _, fun _ _ => rfl⟩ (Nat.le_refl _)
      have Bel4 : Below W.heap.size W w4.drew := ⟨Bel4.os, Bel4.tape, Bel4.output, Bel4.size, Bel4.block⟩
      refine g_start (by kernel_rfl) ?_
      refine g_take (i := 0) (d := (some 37)) (v := ?_) rfl rfl (by kernel_rfl) (fun _ _ _ h => h) (by rfl) (fun w' hb' => ?_) ?_
      rotate_left
      · (try go_simp); (try with_reducible rfl)
      try simp only [Act.put, List.setIfInBounds_toArray, List.set_cons_zero, List.set_cons_succ]
      refine g_take (i := 2) (d := (some 39)) (v := ?_) rfl rfl (by kernel_rfl) (fun _ _ _ h => h) (by rfl) (fun w' hb' => ?_) ?_
      rotate_left
      · have zz : w'.heap[W.heap.size]? = some (.cells #[.int .u64 (k0 : Int), .int .u64 (k1 : Int)] 24 (0, 0)) := (hb'.block _ (lt_of_block zk4)).trans zk4; obtain ⟨c0, c1, cf⟩ := block_cells2 zz; (try go_simp); (try with_reducible rfl)
      try simp only [Act.put, List.setIfInBounds_toArray, List.set_cons_zero, List.set_cons_succ]
      refine g_take (i := 3) (d := (some 40)) (v := ?_) rfl rfl (by kernel_rfl) (fun _ _ _ h => h) (by rfl) (fun w' hb' => ?_) ?_
      rotate_left
      · (try go_simp); (try with_reducible rfl)
      try simp only [Act.put, List.setIfInBounds_toArray, List.set_cons_zero, List.set_cons_succ]
      refine g_run (i := 1) rfl (by kernel_rfl) (by rfl) (fun K hK => ?_)
      go_simp; refine (Tt _ hz4).mono ?_; rintro e v1 ⟨rfl, g⟩; refine hK _ _ ⟨g, ?_⟩; have hz4 := (g.block _ (lt_of_block hz4)).trans hz4; have zk4 := (g.block _ (lt_of_block zk4)).trans zk4; have rF4 := rF4.below g (Nat.le_refl _); have Bel4 := chain Bel4 g; clear hK K g
      try simp only [Act.put, List.setIfInBounds_toArray, List.set_cons_zero, List.set_cons_succ]
      refine g_run (i := 4) rfl (by kernel_rfl) (by rfl) (fun K hK => ?_)
      go_simp; refine (Ts4 _ rF4).mono ?_; rintro e v2 ⟨rfl, g⟩; refine hK _ _ ⟨g, ?_⟩; have hz4 := (g.block _ (lt_of_block hz4)).trans hz4; have zk4 := (g.block _ (lt_of_block zk4)).trans zk4; have rF4 := rF4.below g (Nat.le_refl _); have Bel4 := chain Bel4 g; clear hK K g
      try simp only [Act.put, List.setIfInBounds_toArray, List.set_cons_zero, List.set_cons_succ]
      refine g_take (i := 5) (d := (some 42)) (v := ?_) rfl rfl (by kernel_rfl) (fun _ _ _ h => h) (by rfl) (fun w' hb' => ?_) ?_
      rotate_left
      · (try go_simp); (try with_reducible rfl)
      try simp only [Act.put, List.setIfInBounds_toArray, List.set_cons_zero, List.set_cons_succ]
      refine g_take (i := 6) (d := (some 43)) (v := ?_) rfl rfl (by kernel_rfl) (fun _ _ _ h => h) (by rfl) (fun w' hb' => ?_) ?_
      rotate_left
      · (try go_simp); (try with_reducible rfl)
      try simp only [Act.put, List.setIfInBounds_toArray, List.set_cons_zero, List.set_cons_succ]
      refine g_take (i := 7) (d := (some 44)) (v := ?_) rfl rfl (by kernel_rfl) (fun _ _ _ h => h) (by rfl) (fun w' hb' => ?_) ?_
      rotate_left
      · (try go_simp); (try with_reducible rfl)
      try simp only [Act.put, List.setIfInBounds_toArray, List.set_cons_zero, List.set_cons_succ]
      refine g_take (i := 9) (d := (some 46)) (v := ?_) rfl rfl (by kernel_rfl) (fun _ _ _ h => h) (by rfl) (fun w' hb' => ?_) ?_
      rotate_left
      · (try go_simp); (try with_reducible rfl)
      try simp only [Act.put, List.setIfInBounds_toArray, List.set_cons_zero, List.set_cons_succ]
      refine g_take (i := 10) (d := (some 47)) (v := ?_) rfl rfl (by kernel_rfl) (fun _ _ _ h => h) (by rfl) (fun w' hb' => ?_) ?_
      rotate_left
      · (try go_simp); (try with_reducible rfl)
      try simp only [Act.put, List.setIfInBounds_toArray, List.set_cons_zero, List.set_cons_succ]
      refine g_run (i := 8) rfl (by kernel_rfl) (by rfl) (fun K hK => ?_)
      go_simp; refine (Tc _ hz4).mono ?_; rintro e v3 ⟨rfl, rfl⟩; refine hK _ _ ⟨Below.refl _ _, ?_⟩; clear hK K
      try simp only [Act.put, List.setIfInBounds_toArray, List.set_cons_zero, List.set_cons_succ]
      refine g_take (i := 11) (d := (some 48)) (v := ?_) rfl rfl (by kernel_rfl) (fun _ _ _ h => h) (by rfl) (fun w' hb' => ?_) ?_
      rotate_left
      · (try go_simp); (try with_reducible rfl)
      try simp only [Act.put, List.setIfInBounds_toArray, List.set_cons_zero, List.set_cons_succ]
      refine g_take (i := 12) (d := (some 49)) (v := ?_) rfl rfl (by kernel_rfl) (fun _ _ _ h => h) (by rfl) (fun w' hb' => ?_) ?_
      rotate_left
      · (try go_simp); (try with_reducible rfl)
      try simp only [Act.put, List.setIfInBounds_toArray, List.set_cons_zero, List.set_cons_succ]
      refine g_take (i := 13) (d := (some 50)) (v := ?_) rfl rfl (by kernel_rfl) (fun _ _ _ h => h) (by rfl) (fun w' hb' => ?_) ?_
      rotate_left
      · (try go_simp); (try with_reducible rfl)
      try simp only [Act.put, List.setIfInBounds_toArray, List.set_cons_zero, List.set_cons_succ]
      refine g_run (i := 14) rfl (by kernel_rfl) (by rfl) (fun K hK => ?_)
      go_simp; refine (awake_any _).mono ?_; rintro e v4 ⟨rfl, g⟩; refine hK _ _ ⟨g, ?_⟩; have hz4 := (g.block _ (lt_of_block hz4)).trans hz4; have zk4 := (g.block _ (lt_of_block zk4)).trans zk4; have rF4 := rF4.below g (Nat.le_refl _); have Bel4 := chain Bel4 g; clear hK K g
      try simp only [Act.put, List.setIfInBounds_toArray, List.set_cons_zero, List.set_cons_succ]
      refine g_take (i := 15) (d := (some 52)) (v := ?_) rfl rfl (by kernel_rfl) (fun _ _ _ h => h) (by rfl) (fun w' hb' => ?_) ?_
      rotate_left
      · (try go_simp); (try with_reducible rfl)
      try simp only [Act.put, List.setIfInBounds_toArray, List.set_cons_zero, List.set_cons_succ]
      refine g_take (i := 16) (d := (some 6)) (v := ?_) rfl rfl (by kernel_rfl) (fun _ _ _ h => h) (by rfl) (fun w' hb' => ?_) ?_
      rotate_left
      · (try go_simp); (try with_reducible rfl)
      try simp only [Act.put, List.setIfInBounds_toArray, List.set_cons_zero, List.set_cons_succ]
      refine g_done (by kernel_rfl) ?_
      go_wp2
      go_ret
      exact ⟨rfl, Bel4⟩
end Go.Proofs.Ytfejjmodkjpmfaa
