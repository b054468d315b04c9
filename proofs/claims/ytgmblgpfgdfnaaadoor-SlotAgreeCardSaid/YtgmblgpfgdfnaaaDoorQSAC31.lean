/- Slots: the law SlotAgree. Written by wip/tools/gen29q.py. -/
import Derived.Test.YtgmblgpfgdfnaaaDoorQSAC24
import Derived.Test.YtgmblgpfgdfnaaaDoorQSAC30
namespace Go.Proofs.YtgmblgpfgdfnaaaDoor
open Go Go.RowKit
set_option linter.unusedVariables false
set_option linter.unusedSimpArgs false
set_option maxRecDepth 100000
theorem refFaults_n (n : Int) (w : World) : Calls Tryd.prog 23 #[.int .i64 n] w fun e w' => e = .returned (.int .i64 (fN n)) ∧ w = w' := refFaults_any n w
theorem both_none1 {la lb : List Vt} {vw p : Int} (h : voOf la p = none) : bothB la lb vw p = false := by unfold bothB; rw [h]
theorem both_none2 {la lb : List Vt} {vw p : Int} (h : voOf lb p = none) : bothB la lb vw p = false := by unfold bothB; rw [h]; cases voOf la p <;> rfl
theorem both_some {la lb : List Vt} {vw p : Int} {xb xc yb yc : Int} (h1 : voOf la p = some ⟨p, xb, xc⟩) (h2 : voOf lb p = some ⟨p, yb, yc⟩) : bothB la lb vw p = (!(decide (xb = yb) && decide (xc = yc)) && (decide (xb = vw) && decide (yb = vw))) := by unfold bothB; rw [h1, h2]; simp
theorem vo_fr {l : List Vt} {p : Int} {x : Vt} (h : voOf l p = some x) : x = ⟨p, x.vw, x.tm⟩ := by
  unfold voOf at h
  have := List.find?_some h
  simp only [decide_eq_true_eq] at this
  exact Vt.ext' this rfl rfl
/-- What a replica votes, as the law's function tells it. -/
theorem kp {w w' : World} {k : Nat} {o : Obj} (g : Below w.heap.size w w') (h : w.heap[k]? = some o) : w'.heap[k]? = some o := (g.block _ (lt_of_block h)).trans h
theorem ko {w : World} {k : Nat} {o : Obj} (u : Obj) (h : w.heap[k]? = some o) : (w.alloc u).heap[k]? = some o := (((Below.refl _ _).alloc (Nat.le_refl _) _).block _ (lt_of_block h)).trans h
/-- What a replica votes: none. -/
theorem votes_none (v : Value) (l : List Vt) (p : Int) (w : World) (h : RdT w v l) (hn : voOf l p = none) : Calls Tryd.prog 24 #[v, .int .i64 p] w fun e w' => e = .returned (.tuple #[.agg #[.int .i64 0, .int .i64 0, .int .i64 0], .bool false]) ∧ Below w.heap.size w w' := by
  have := votesOf_any v l p w h
  rw [hn] at this
  exact this
theorem votes_some (v : Value) (l : List Vt) (p b c : Int) (w : World) (h : RdT w v l) (hn : voOf l p = some ⟨p, b, c⟩) : Calls Tryd.prog 24 #[v, .int .i64 p] w fun e w' => e = .returned (.tuple #[.agg #[.int .i64 p, .int .i64 b, .int .i64 c], .bool true]) ∧ Below w.heap.size w w' := by
  have := votesOf_any v l p w h
  rw [hn] at this
  exact this
theorem cnt_yes {la lb : List Vt} {vw : Int} {k : Nat} (h : bothB la lb vw (k : Int) = true) : Value.int .i64 ((cntB la lb vw k : Int) + 1) = .int .i64 ((cntB la lb vw (k + 1) : Nat) : Int) := by rw [cntB_up, if_pos h]; push_cast; rfl
theorem cnt_no {la lb : List Vt} {vw : Int} {k : Nat} (h : bothB la lb vw (k : Int) = false) : Value.int .i64 ((cntB la lb vw k : Nat) : Int) = .int .i64 ((cntB la lb vw (k + 1) : Nat) : Int) := by rw [cntB_up, if_neg (by rw [h]; decide)]; rfl
theorem rdt6 {w w' : World} {B : Nat} {h : Bool} {v t : Int} {s : ByteArray} {P C : Value} {T : TypeId} {x : Value} {l : List Vt} (hP : ∃ a n c, P = Value.slice a n c) (hC : ∃ a n c, C = Value.slice a n c) (h0 : w.heap[B]? = some (.cells #[.bool h, .int .i64 v, .int .i64 t, .string s, P, C] T (0, 0))) (g : w.grownBy w' (some B)) (r : RdT w x l) : RdT w' x l := by
  obtain ⟨x1, n1, c1, rfl⟩ := hP
  obtain ⟨x2, n2, c2, rfl⟩ := hC
  obtain ⟨ao, cap, rfl, h1, h2, h3, h4⟩ := r
  refine ⟨ao, cap, rfl, h1, h2, h3, fun hl => ?_⟩
  obtain ⟨b, off, rfl, hb, hc⟩ := h4 hl
  have hne : b ≠ B := by
    rintro rfl
    have e0 := hc 0 (by omega)
    have e1 := hc 1 (by omega)
    have e2 := hc 2 (by omega)
    cases l with
    | nil => simp at hl
    | cons y r =>
      simp [vtC, World.cell?, h0] at e0 e1 e2
      rcases off with _ | _ | _ | _ | _ | _ | off <;> simp at e0 e1 e2
  refine ⟨b, off, rfl, Nat.lt_of_lt_of_le hb g.size, fun k hk => ?_⟩
  rw [← hc k hk]
  simp only [World.cell?]
  rw [g.block b hb (fun e => hne (by injection e))]
theorem rd_val {w : World} {v : Value} {l : List Vt} (r : RdT w v l) : ∃ a n c, v = Value.slice a n c := by
  obtain ⟨ao, cap, rfl, _⟩ := r
  exact ⟨_, _, _, rfl⟩
theorem fN_small {n : Int} (h : fN n ≠ 0) : 0 ≤ n ∧ n ≤ 16 := by unfold fN at h; split at h <;> first | omega | (split at h <;> first | omega | (split at h <;> first | omega | (split at h <;> first | omega | (split at h <;> omega))))
set_option maxHeartbeats 40000000 in
theorem agree_walk (a0 b0 : Sl) (ah bh : Bool) (av bv am bm : Int) (ab bb : List UInt8) (ap ac bp bc : List Vt) (vPa vCa vPb vCb : Value) (n : Int) (w : World) (ha : RdS w a0 vPa vCa) (hb : RdS w b0 vPb vCb) (hn : -9223372036854775808 ≤ n ∧ n ≤ 9223372036854775807) (hT : TabAt w) (ea : fewS a0 = ⟨ah, av, am, ab, ap, ac⟩) (eb : fewS b0 = ⟨bh, bv, bm, bb, bp, bc⟩) :
    Calls Tryd.prog 5 #[sV a0 vPa vCa, sV b0 vPb vCb, .int .i64 n] w fun e w' => e = .returned (.bool true) ∧ Below w.heap.size w w' := by
  have FA0 := fun w' (g : Below w.heap.size w w') => few_any a0 vPa vCa w' (ha.below g (Nat.le_refl _))
  have FB0 := fun w' (g : Below w.heap.size w w') => few_any b0 vPb vCb w' (hb.below g (Nat.le_refl _))
  rw [ea] at FA0
  rw [eb] at FB0
  unfold GivesF at FA0 FB0
  unfold sV at FA0 FB0 ⊢
  obtain ⟨ha0, va0, ta0, ba0, pa0, ca0⟩ := a0
  obtain ⟨hb0, vb0, tb0, bb0, pb0, cb0⟩ := b0
  simp only at FA0 FB0 ⊢
  obtain ⟨Sa, hSa⟩ : ∃ S, S = str ab := ⟨_, rfl⟩
  obtain ⟨Sb, hSb⟩ : ∃ S, S = str bb := ⟨_, rfl⟩
  rw [← hSa] at FA0
  rw [← hSb] at FB0
  have HSa := Lib.hid hSa
  have HSb := Lib.hid hSb
  have FA := Lib.hid FA0
  have FB := Lib.hid FB0
  have HT := Lib.hid hT
  have HN := Lib.hid hn
  have hal := two_allocs w (.cells #[.bool ha0, .int .i64 va0, .int .i64 ta0, .string (str ba0), vPa, vCa] 24) (.cells #[.bool hb0, .int .i64 vb0, .int .i64 tb0, .string (str bb0), vPb, vCb] 24)
  have q0 : (((w.alloc (.cells #[.bool ha0, .int .i64 va0, .int .i64 ta0, .string (str ba0), vPa, vCa] 24)).alloc (.cells #[.bool hb0, .int .i64 vb0, .int .i64 tb0, .string (str bb0), vPb, vCb] 24)).drew).heap[w.heap.size]? = some (.cells #[.bool ha0, .int .i64 va0, .int .i64 ta0, .string (str ba0), vPa, vCa] 24 (0, 0)) := hal.1
  have q1 : (((w.alloc (.cells #[.bool ha0, .int .i64 va0, .int .i64 ta0, .string (str ba0), vPa, vCa] 24)).alloc (.cells #[.bool hb0, .int .i64 vb0, .int .i64 tb0, .string (str bb0), vPb, vCb] 24)).drew).heap[w.heap.size + 1]? = some (.cells #[.bool hb0, .int .i64 vb0, .int .i64 tb0, .string (str bb0), vPb, vCb] 24 (0, 0)) := hal.2.1
  have BL0 := (((Below.refl w.heap.size w).alloc (Nat.le_refl _) (.cells #[.bool ha0, .int .i64 va0, .int .i64 ta0, .string (str ba0), vPa, vCa] 24)).alloc (by simp) (.cells #[.bool hb0, .int .i64 vb0, .int .i64 tb0, .string (str bb0), vPb, vCb] 24)).drew
  have sPa := rd_val ha.p
  have sCa := rd_val ha.c
  have sPb := rd_val hb.p
  have sCb := rd_val hb.c
  clear FA0 FB0 ha hb hal ea eb hT hSa hSb hn
  go_enter Tryd.func5, Tryd.ntmps5
  go_wp2_with fail
  refine t_start 4 (by kernel_rfl) ?_
  refine t_take (i := 0) (d := (some 15)) (v := ?_) rfl rfl (by kernel_rfl) (fun _ _ _ h => h) (by rfl) (fun w' hb' => ?_) ?_
  rotate_left
  · obtain ⟨d0, d1, d2, d3, d4, d5, df⟩ := block_cells6 ((hb'.block _ (lt_of_block q0)).trans q0); (try go_simp); (try with_reducible rfl)
  try simp only [Act.put, List.setIfInBounds_toArray, List.set_cons_zero, List.set_cons_succ]
  refine t_take (i := 2) (d := (some 17)) (v := ?_) rfl rfl (by kernel_rfl) (fun _ _ _ h => h) (by rfl) (fun w' hb' => ?_) ?_
  rotate_left
  · obtain ⟨d0, d1, d2, d3, d4, d5, df⟩ := block_cells6 ((hb'.block _ (lt_of_block q1)).trans q1); (try go_simp); (try with_reducible rfl)
  try simp only [Act.put, List.setIfInBounds_toArray, List.set_cons_zero, List.set_cons_succ]
  refine t_run (i := 1) rfl (by kernel_rfl) (by kernel_rfl) (by rfl) (fun K hK => ?_)
  go_simp; refine (FA.out _ BL0).mono ?_; rintro e w2 ⟨p1, l1, c1, p2, l2, c2, rfl, ra, g⟩; have qa := kp g q0; have qb := kp g q1; have BL2 := chain BL0 g; refine hK _ _ ⟨g, ?_⟩; clear hK K g
  try simp only [Act.put, List.setIfInBounds_toArray, List.set_cons_zero, List.set_cons_succ]
  refine t_run (i := 3) rfl (by kernel_rfl) (by kernel_rfl) (by rfl) (fun K hK => ?_)
  go_simp; refine (FB.out _ BL2).mono ?_; rintro e w3 ⟨p3, l3, c3, p4, l4, c4, rfl, rb, g⟩; have qa3 := kp g qa; have qb3 := kp g qb; have ra3 := RdS.below ra g (Nat.le_refl _); have BL3 := chain BL2 g; refine hK _ _ ⟨g, ?_⟩; clear hK K g qa qb ra
  try simp only [Act.put, List.setIfInBounds_toArray, List.set_cons_zero, List.set_cons_succ]
  refine t_into ?_
  refine t_tail (i := 4) rfl (by kernel_rfl) (by kernel_rfl) (by rfl) (fun K hK => ?_)
  obtain ⟨d0, d1, d2, d3, d4, d5, df⟩ := block_cells6 qa3
  go_simp
  refine hK _ _ ?_
  clear hK K d0 d1 d2 d3 d4 d5 df
  have qa4 := set6_new (u0 := .bool ah) (u1 := .int .i64 av) (u2 := .int .i64 am) (u3 := .string Sa) (u4 := .slice p1 l1 c1) (u5 := .slice p2 l2 c2) qa3
  have qb4 := (set6_old (w := w3) (B := w.heap.size) (k := w.heap.size + 1) (u0 := .bool ah) (u1 := .int .i64 av) (u2 := .int .i64 am) (u3 := .string Sa) (u4 := .slice p1 l1 c1) (u5 := .slice p2 l2 c2) (by omega)).trans qb3
  have gg4 := set6_grown (w := w3) (B := w.heap.size) (u0 := .bool ah) (u1 := .int .i64 av) (u2 := .int .i64 am) (u3 := .string Sa) (u4 := .slice p1 l1 c1) (u5 := .slice p2 l2 c2)
  obtain ⟨w4, hw4⟩ : ∃ W, W = ((((((w3.setCell ⟨w.heap.size, 0, none⟩ (.bool ah)).setCell ⟨w.heap.size, 1, none⟩ (.int .i64 av)).setCell ⟨w.heap.size, 2, none⟩ (.int .i64 am)).setCell ⟨w.heap.size, 3, none⟩ (.string Sa)).setCell ⟨w.heap.size, 4, none⟩ (.slice p1 l1 c1)).setCell ⟨w.heap.size, 5, none⟩ (.slice p2 l2 c2)) := ⟨_, rfl⟩
  rw [← hw4] at qa4 qb4 gg4
  change wpO _ _ _ _ _ _ _ (((((((w3.setCell ⟨w.heap.size, 0, none⟩ (.bool ah)).setCell ⟨w.heap.size, 1, none⟩ (.int .i64 av)).setCell ⟨w.heap.size, 2, none⟩ (.int .i64 am)).setCell ⟨w.heap.size, 3, none⟩ (.string Sa)).setCell ⟨w.heap.size, 4, none⟩ (.slice p1 l1 c1)).setCell ⟨w.heap.size, 5, none⟩ (.slice p2 l2 c2)))
  rw [← hw4]
  clear hw4
  try simp only [Act.put, List.setIfInBounds_toArray, List.set_cons_zero, List.set_cons_succ]
  refine t_tail (i := 5) rfl (by kernel_rfl) (by kernel_rfl) (by rfl) (fun K hK => ?_)
  obtain ⟨d0, d1, d2, d3, d4, d5, df⟩ := block_cells6 qb4
  go_simp
  refine hK _ _ ?_
  clear hK K d0 d1 d2 d3 d4 d5 df
  try simp only [Act.put, List.setIfInBounds_toArray, List.set_cons_zero, List.set_cons_succ]
  refine t_over (by kernel_rfl) ?_
  obtain ⟨W1, hW1⟩ : ∃ W, W = ((((((w4.setCell ⟨w.heap.size + 1, 0, none⟩ (.bool bh)).setCell ⟨w.heap.size + 1, 1, none⟩ (.int .i64 bv)).setCell ⟨w.heap.size + 1, 2, none⟩ (.int .i64 bm)).setCell ⟨w.heap.size + 1, 3, none⟩ (.string Sb)).setCell ⟨w.heap.size + 1, 4, none⟩ (.slice p3 l3 c3)).setCell ⟨w.heap.size + 1, 5, none⟩ (.slice p4 l4 c4)) := ⟨_, rfl⟩
  rw [← hW1]
  have gg5 : w4.grownBy W1 (some (w.heap.size + 1)) := by rw [hW1]; exact set6_grown
  have QA := Lib.hid (show W1.heap[w.heap.size]? = some (.cells #[.bool ah, .int .i64 av, .int .i64 am, .string Sa, .slice p1 l1 c1, .slice p2 l2 c2] 24 (0, 0)) by rw [hW1]; exact (set6_old (by omega)).trans qa4)
  have QB := Lib.hid (show W1.heap[w.heap.size + 1]? = some (.cells #[.bool bh, .int .i64 bv, .int .i64 bm, .string Sb, .slice p3 l3 c3, .slice p4 l4 c4] 24 (0, 0)) by rw [hW1]; exact set6_new qb4)
  have BW4 := below_grownB BL3 gg4 BL3.size (Nat.le_refl _)
  have BW := Lib.hid (below_grownB BW4 gg5 BW4.size (by omega))
  have RAp := Lib.hid (rdt6 sPb sCb qb4 gg5 (rdt6 sPa sCa qa3 gg4 ra3.p))
  have RAc := Lib.hid (rdt6 sPb sCb qb4 gg5 (rdt6 sPa sCa qa3 gg4 ra3.c))
  have RBp := Lib.hid (rdt6 sPb sCb qb4 gg5 (rdt6 sPa sCa qa3 gg4 rb.p))
  have RBc := Lib.hid (rdt6 sPb sCb qb4 gg5 (rdt6 sPa sCa qa3 gg4 rb.c))
  have RAb := Lib.hid ra3.b
  have RBb := Lib.hid rb.b
  simp only at RAp RAc RBp RBc RAb RBb
  have AW := Lib.hid (fun w' (g : Below W1.heap.size W1 w') => awake_any w' ((HT.out.below BW.out (Nat.lt_of_le_of_lt (Nat.zero_le _) HT.out.1)).below g (Nat.lt_of_le_of_lt (Nat.zero_le _) (lt_of_block QA.out))))
  have RFA := Lib.hid (fun w' => refFaults_n n w')
  clear hW1 gg5 gg4 BW4 qa4 qb4 qa3 qb3 q0 q1 BL0 BL2 BL3 ra3 rb FA FB sPa sCa sPb sCb
  obtain ⟨f, hf⟩ : ∃ f, f = fN n := ⟨_, rfl⟩
  rw [← hf] at RFA
  have HF0 := Lib.hid hf
  clear hf
  obtain ⟨a0, a1, a2, a3, a4, a5, af⟩ := block_cells6 QA.out
  obtain ⟨b0, b1, b2, b3, b4, b5, bf⟩ := block_cells6 QB.out
  by_cases h1 : f = 0
  · have g1 : (f == 0) = true := by simpa using h1
    subst h1
    go_wp2_with (first | ((with_reducible refine (RFA.out _).mono ?_); rintro e w8 ⟨rfl, rfl⟩) | ((with_reducible refine (AW.out _ (Below.refl _ _)).mono ?_); rintro e w9 ⟨rfl, g9⟩))
    go_ret
    exact ⟨rfl, chain BW.out g9⟩
  have g1 : (f == 0) = false := by simpa using h1
  by_cases h2 : av = bv
  rotate_left
  · have g2 : (av == bv) = false := by simpa using h2
    go_wp2_with (first | ((with_reducible refine (RFA.out _).mono ?_); rintro e w8 ⟨rfl, rfl⟩) | ((with_reducible refine (AW.out _ (Below.refl _ _)).mono ?_); rintro e w9 ⟨rfl, g9⟩))
    go_ret
    exact ⟨rfl, chain BW.out g9⟩
  obtain rfl : av = bv := h2
  by_cases h3 : am = bm
  · obtain rfl : am = bm := h3
    go_wp2_with (first | ((with_reducible refine (RFA.out _).mono ?_); rintro e w8 ⟨rfl, rfl⟩) | ((with_reducible refine (AW.out _ (Below.refl _ _)).mono ?_); rintro e w9 ⟨rfl, g9⟩))
    go_ret
    exact ⟨rfl, chain BW.out g9⟩
  have g3 : (am == bm) = false := by simpa using h3
  have hs := fN_small (n := n) (by rw [← HF0.out]; exact h1)
  have AP := Lib.hid (fun (ha : prepB ⟨ah, av, am, ab, ap, ac⟩ n = true) (hb : prepB (⟨bh, av, bm, bb, bp, bc⟩ : Sl) n = true) => agree_prep (a := ⟨ah, av, am, ab, ap, ac⟩) (b := ⟨bh, av, bm, bb, bp, bc⟩) rfl h3 ha hb)
  have AC := Lib.hid (fun (ha : comB ⟨ah, av, am, ab, ap, ac⟩ n = true) (hb : comB (⟨bh, av, bm, bb, bp, bc⟩ : Sl) n = true) => agree_com (a := ⟨ah, av, am, ab, ap, ac⟩) (b := ⟨bh, av, bm, bb, bp, bc⟩) rfl h3 ha hb)
  go_wp2_with ((with_reducible refine (RFA.out _).mono ?_); rintro e w8 ⟨rfl, rfl⟩)
  have PD0 := fun w' (g : Below W1.heap.size W1 w') => prepared_any ⟨ah, av, am, ab, ap, ac⟩ (.slice p1 l1 c1) (.slice p2 l2 c2) n w' ⟨RdT.below RAp.out g (Nat.le_refl _), RdT.below RAc.out g (Nat.le_refl _), RAb.out⟩ HN.out
  have PE0 := fun w' (g : Below W1.heap.size W1 w') => prepared_any ⟨bh, av, bm, bb, bp, bc⟩ (.slice p3 l3 c3) (.slice p4 l4 c4) n w' ⟨RdT.below RBp.out g (Nat.le_refl _), RdT.below RBc.out g (Nat.le_refl _), RBb.out⟩ HN.out
  have CD0 := fun w' (g : Below W1.heap.size W1 w') => committed_any ⟨ah, av, am, ab, ap, ac⟩ (.slice p1 l1 c1) (.slice p2 l2 c2) n w' ⟨RdT.below RAp.out g (Nat.le_refl _), RdT.below RAc.out g (Nat.le_refl _), RAb.out⟩ HN.out
  have CE0 := fun w' (g : Below W1.heap.size W1 w') => committed_any ⟨bh, av, bm, bb, bp, bc⟩ (.slice p3 l3 c3) (.slice p4 l4 c4) n w' ⟨RdT.below RBp.out g (Nat.le_refl _), RdT.below RBc.out g (Nat.le_refl _), RBb.out⟩ HN.out
  unfold sV at PD0 PE0 CD0 CE0
  simp only at PD0 PE0 CD0 CE0
  rw [← HSa.out] at PD0 CD0
  rw [← HSb.out] at PE0 CE0
  obtain ⟨PA, hPA⟩ : ∃ P, P = prepB ⟨ah, av, am, ab, ap, ac⟩ n := ⟨_, rfl⟩
  obtain ⟨PB, hPB⟩ : ∃ P, P = prepB ⟨bh, av, bm, bb, bp, bc⟩ n := ⟨_, rfl⟩
  obtain ⟨CA, hCA⟩ : ∃ P, P = comB ⟨ah, av, am, ab, ap, ac⟩ n := ⟨_, rfl⟩
  obtain ⟨CB, hCB⟩ : ∃ P, P = comB ⟨bh, av, bm, bb, bp, bc⟩ n := ⟨_, rfl⟩
  rw [← hPA] at PD0 AP
  rw [← hPB] at PE0 AP
  rw [← hCA] at CD0 AC
  rw [← hCB] at CE0 AC
  rw [← HF0.out] at AP AC
  have PD := Lib.hid PD0
  have PE := Lib.hid PE0
  have CD := Lib.hid CD0
  have CE := Lib.hid CE0
  clear PD0 PE0 CD0 CE0 hPA hPB hCA hCB
  obtain ⟨N, rfl⟩ : ∃ N : Nat, n = (N : Int) := ⟨n.toNat, by omega⟩
  rw [Int.toNat_natCast] at AP AC
  have AP : Hid (PA = true → PB = true → f ≤ (cntB ap bp av N : Int)) := AP
  have AC : Hid (CA = true → CB = true → f < (cntB ac bc av N : Int)) := AC
  have hN : N ≤ 16 := by omega
  clear hs HF0 h1 g1 h3 g3 RFA a0 a1 a2 a3 a4 a5 af b0 b1 b2 b3 b4 b5 bf HT RAb RBb HSa HSb HN
  go_loopw [8, 9, 10] (fun o c i wr => ∃ k : Nat, k ≤ N ∧ i = .int .i64 (k : Int) ∧ o = .int .i64 ((cntB ap bp av k : Nat) : Int) ∧ c = .int .i64 ((cntB ac bc av k : Nat) : Int) ∧ Below W1.heap.size W1 wr) (fun _ _ i _ => N - (intOf i).toNat)
  case atStart => exact ⟨0, Nat.zero_le _, rfl, rfl, rfl, Below.refl _ _⟩
  case round =>
    obtain ⟨k, hk, rfl, rfl, rfl, BK⟩ := hrel
    have qA := (BK.block _ (lt_of_block QA.out)).trans QA.out
    have qB := (BK.block _ (lt_of_block QB.out)).trans QB.out
    by_cases hlt : k < N
    · have hcp := cntB_le ap bp av k
      have hcc := cntB_le ac bc av k
      have hA1 := lt_of_block QA.out
      have hB1 := lt_of_block QB.out
      clear PD PE CD CE AP AC AW BW
      cases o1 : voOf ap (k : Int) with
      | none =>
        have HB1 := Lib.hid (both_none1 (lb := bp) (vw := av) o1)
        cases r1 : voOf bp (k : Int) with
        | none =>
          as_aux_lemma =>
            have C1 := Lib.hid (fun w' (g : Below W1.heap.size W1 w') => votes_none (.slice p1 l1 c1) ap (k : Int) w' (RdT.below RAp.out g (Nat.le_refl _)) o1)
            have C2 := Lib.hid (fun w' (g : Below W1.heap.size W1 w') => votes_none (.slice p3 l3 c3) bp (k : Int) w' (RdT.below RBp.out g (Nat.le_refl _)) r1)
            clear o1 r1
            obtain ⟨a0, a1, a2, a3, a4, a5, af⟩ := block_cells6 qA
            obtain ⟨b0, b1, b2, b3, b4, b5, bf⟩ := block_cells6 qB
            go_wp2_with fail
            refine (C1.out _ BK).mono ?_
            rintro e v1 ⟨rfl, g⟩
            replace qA := kp g qA
            replace qB := kp g qB
            replace BK := chain BK g
            clear g
            clear a0 a1 a2 a3 a4 a5 af b0 b1 b2 b3 b4 b5 bf
            obtain ⟨a0, a1, a2, a3, a4, a5, af⟩ := block_cells6 qA
            obtain ⟨b0, b1, b2, b3, b4, b5, bf⟩ := block_cells6 qB
            have hX := BK.size
            have qX : (v1.alloc (.cells #[.int .i64 0, .int .i64 0, .int .i64 0] 26)).heap[v1.heap.size]? = some (.cells #[.int .i64 0, .int .i64 0, .int .i64 0] 26 (0, 0)) := heap_alloc_new _ _
            replace qA := ko (.cells #[.int .i64 0, .int .i64 0, .int .i64 0] 26) qA
            replace qB := ko (.cells #[.int .i64 0, .int .i64 0, .int .i64 0] 26) qB
            replace BK := BK.alloc BK.size (.cells #[.int .i64 0, .int .i64 0, .int .i64 0] 26)
            clear a0 a1 a2 a3 a4 a5 af b0 b1 b2 b3 b4 b5 bf
            obtain ⟨a0, a1, a2, a3, a4, a5, af⟩ := block_cells6 qA
            obtain ⟨b0, b1, b2, b3, b4, b5, bf⟩ := block_cells6 qB
            go_wp2_with fail
            refine (C2.out _ BK).mono ?_
            rintro e v2 ⟨rfl, g⟩
            replace qA := kp g qA
            replace qB := kp g qB
            replace qX := kp g qX
            replace BK := chain BK g
            clear g
            have hY := BK.size
            have hXY := lt_of_block qX
            have qY : (v2.alloc (.cells #[.int .i64 0, .int .i64 0, .int .i64 0] 26)).heap[v2.heap.size]? = some (.cells #[.int .i64 0, .int .i64 0, .int .i64 0] 26 (0, 0)) := heap_alloc_new _ _
            replace qX := ko (.cells #[.int .i64 0, .int .i64 0, .int .i64 0] 26) qX
            replace qA := ko (.cells #[.int .i64 0, .int .i64 0, .int .i64 0] 26) qA
            replace qB := ko (.cells #[.int .i64 0, .int .i64 0, .int .i64 0] 26) qB
            replace BK := BK.alloc BK.size (.cells #[.int .i64 0, .int .i64 0, .int .i64 0] 26)
            obtain ⟨x0, x1, x2, xf⟩ := block_cells3 qX
            obtain ⟨y0, y1, y2, yf⟩ := block_cells3 qY
            clear a0 a1 a2 a3 a4 a5 af b0 b1 b2 b3 b4 b5 bf
            obtain ⟨a0, a1, a2, a3, a4, a5, af⟩ := block_cells6 qA
            obtain ⟨b0, b1, b2, b3, b4, b5, bf⟩ := block_cells6 qB
            go_wp2_with fail
            clear x0 x1 x2 xf y0 y1 y2 yf
            clear a0 a1 a2 a3 a4 a5 af b0 b1 b2 b3 b4 b5 bf
            cases o2 : voOf ac (k : Int) with
            | none =>
              have HB2 := Lib.hid (both_none1 (lb := bc) (vw := av) o2)
              cases r2 : voOf bc (k : Int) with
              | none =>
                have C3 := Lib.hid (fun w' (g : Below W1.heap.size W1 w') => votes_none (.slice p2 l2 c2) ac (k : Int) w' (RdT.below RAc.out g (Nat.le_refl _)) o2)
                have C4 := Lib.hid (fun w' (g : Below W1.heap.size W1 w') => votes_none (.slice p4 l4 c4) bc (k : Int) w' (RdT.below RBc.out g (Nat.le_refl _)) r2)
                clear o2 r2
                refine (C3.out _ BK).mono ?_
                rintro e v3 ⟨rfl, g⟩
                replace qA := kp g qA
                replace qB := kp g qB
                replace qX := kp g qX
                replace qY := kp g qY
                replace BK := chain BK g
                clear g
                obtain ⟨x0, x1, x2, xf⟩ := block_cells3 qX
                obtain ⟨a0, a1, a2, a3, a4, a5, af⟩ := block_cells6 qA
                obtain ⟨b0, b1, b2, b3, b4, b5, bf⟩ := block_cells6 qB
                go_wp2_with fail
                obtain ⟨w5, hw5⟩ : ∃ W, W = (((v3.setCell ⟨v1.heap.size, 0, none⟩ (.int .i64 0)).setCell ⟨v1.heap.size, 1, none⟩ (.int .i64 0)).setCell ⟨v1.heap.size, 2, none⟩ (.int .i64 0)) := ⟨_, rfl⟩
                rw [← hw5]
                have G5 : v3.grownBy w5 (some v1.heap.size) := by rw [hw5]; exact grown_setB (grown_setB (grown_setB grown_reflB))
                replace qX : w5.heap[v1.heap.size]? = some (.cells #[.int .i64 0, .int .i64 0, .int .i64 0] 26 (0, 0)) := by rw [hw5]; exact set3_new qX
                replace qA := (G5.block _ (lt_of_block qA) (fun e => by injection e with e; omega)).trans qA
                replace qB := (G5.block _ (lt_of_block qB) (fun e => by injection e with e; omega)).trans qB
                replace qY := (G5.block _ (lt_of_block qY) (fun e => by injection e with e; omega)).trans qY
                replace BK := below_grownB BK G5 BK.size (by omega)
                clear hw5 G5 x0 x1 x2 xf
                clear a0 a1 a2 a3 a4 a5 af b0 b1 b2 b3 b4 b5 bf
                refine (C4.out _ BK).mono ?_
                rintro e v4 ⟨rfl, g⟩
                replace qA := kp g qA
                replace qB := kp g qB
                replace qX := kp g qX
                replace qY := kp g qY
                replace BK := chain BK g
                clear g
                obtain ⟨y0, y1, y2, yf⟩ := block_cells3 qY
                obtain ⟨x0, x1, x2, xf⟩ := block_cells3 qX
                obtain ⟨a0, a1, a2, a3, a4, a5, af⟩ := block_cells6 qA
                obtain ⟨b0, b1, b2, b3, b4, b5, bf⟩ := block_cells6 qB
                have BE := Lib.hid (below_grownB BK (grown_setB (i := 2) (u := .int .i64 0) (grown_setB (i := 1) (u := .int .i64 0) (grown_setB (i := 0) (u := .int .i64 0) (grown_reflB (r := some v2.heap.size))))) BK.size (by omega))
                clear qA qB qX BK
                go_wp2_with fail
                exact ⟨⟨k + 1, by omega, by push_cast; rfl, cnt_no HB1.out, cnt_no HB2.out, BE.out⟩, by simp [intOf]; omega⟩
              | some y =>
                obtain ⟨yb2, yc2, e2⟩ : ∃ yb yc, y = ⟨(k : Int), yb, yc⟩ := ⟨_, _, vo_fr r2⟩
                subst e2
                have C3 := Lib.hid (fun w' (g : Below W1.heap.size W1 w') => votes_none (.slice p2 l2 c2) ac (k : Int) w' (RdT.below RAc.out g (Nat.le_refl _)) o2)
                have C4 := Lib.hid (fun w' (g : Below W1.heap.size W1 w') => votes_some (.slice p4 l4 c4) bc (k : Int) yb2 yc2 w' (RdT.below RBc.out g (Nat.le_refl _)) r2)
                clear o2 r2
                refine (C3.out _ BK).mono ?_
                rintro e v3 ⟨rfl, g⟩
                replace qA := kp g qA
                replace qB := kp g qB
                replace qX := kp g qX
                replace qY := kp g qY
                replace BK := chain BK g
                clear g
                obtain ⟨x0, x1, x2, xf⟩ := block_cells3 qX
                obtain ⟨a0, a1, a2, a3, a4, a5, af⟩ := block_cells6 qA
                obtain ⟨b0, b1, b2, b3, b4, b5, bf⟩ := block_cells6 qB
                go_wp2_with fail
                obtain ⟨w5, hw5⟩ : ∃ W, W = (((v3.setCell ⟨v1.heap.size, 0, none⟩ (.int .i64 0)).setCell ⟨v1.heap.size, 1, none⟩ (.int .i64 0)).setCell ⟨v1.heap.size, 2, none⟩ (.int .i64 0)) := ⟨_, rfl⟩
                rw [← hw5]
                have G5 : v3.grownBy w5 (some v1.heap.size) := by rw [hw5]; exact grown_setB (grown_setB (grown_setB grown_reflB))
                replace qX : w5.heap[v1.heap.size]? = some (.cells #[.int .i64 0, .int .i64 0, .int .i64 0] 26 (0, 0)) := by rw [hw5]; exact set3_new qX
                replace qA := (G5.block _ (lt_of_block qA) (fun e => by injection e with e; omega)).trans qA
                replace qB := (G5.block _ (lt_of_block qB) (fun e => by injection e with e; omega)).trans qB
                replace qY := (G5.block _ (lt_of_block qY) (fun e => by injection e with e; omega)).trans qY
                replace BK := below_grownB BK G5 BK.size (by omega)
                clear hw5 G5 x0 x1 x2 xf
                clear a0 a1 a2 a3 a4 a5 af b0 b1 b2 b3 b4 b5 bf
                refine (C4.out _ BK).mono ?_
                rintro e v4 ⟨rfl, g⟩
                replace qA := kp g qA
                replace qB := kp g qB
                replace qX := kp g qX
                replace qY := kp g qY
                replace BK := chain BK g
                clear g
                obtain ⟨y0, y1, y2, yf⟩ := block_cells3 qY
                obtain ⟨x0, x1, x2, xf⟩ := block_cells3 qX
                obtain ⟨a0, a1, a2, a3, a4, a5, af⟩ := block_cells6 qA
                obtain ⟨b0, b1, b2, b3, b4, b5, bf⟩ := block_cells6 qB
                have BE := Lib.hid (below_grownB BK (grown_setB (i := 2) (u := .int .i64 yc2) (grown_setB (i := 1) (u := .int .i64 yb2) (grown_setB (i := 0) (u := .int .i64 (k : Int)) (grown_reflB (r := some v2.heap.size))))) BK.size (by omega))
                clear qA qB qX BK
                go_wp2_with fail
                exact ⟨⟨k + 1, by omega, by push_cast; rfl, cnt_no HB1.out, cnt_no HB2.out, BE.out⟩, by simp [intOf]; omega⟩
            | some x =>
              obtain ⟨xb2, xc2, f2⟩ : ∃ xb xc, x = ⟨(k : Int), xb, xc⟩ := ⟨_, _, vo_fr o2⟩
              subst f2
              cases r2 : voOf bc (k : Int) with
              | none =>
                have HB2 := Lib.hid (both_none2 (la := ac) (vw := av) r2)
                have C3 := Lib.hid (fun w' (g : Below W1.heap.size W1 w') => votes_some (.slice p2 l2 c2) ac (k : Int) xb2 xc2 w' (RdT.below RAc.out g (Nat.le_refl _)) o2)
                have C4 := Lib.hid (fun w' (g : Below W1.heap.size W1 w') => votes_none (.slice p4 l4 c4) bc (k : Int) w' (RdT.below RBc.out g (Nat.le_refl _)) r2)
                clear o2 r2
                refine (C3.out _ BK).mono ?_
                rintro e v3 ⟨rfl, g⟩
                replace qA := kp g qA
                replace qB := kp g qB
                replace qX := kp g qX
                replace qY := kp g qY
                replace BK := chain BK g
                clear g
                obtain ⟨x0, x1, x2, xf⟩ := block_cells3 qX
                obtain ⟨a0, a1, a2, a3, a4, a5, af⟩ := block_cells6 qA
                obtain ⟨b0, b1, b2, b3, b4, b5, bf⟩ := block_cells6 qB
                go_wp2_with fail
                obtain ⟨w5, hw5⟩ : ∃ W, W = (((v3.setCell ⟨v1.heap.size, 0, none⟩ (.int .i64 (k : Int))).setCell ⟨v1.heap.size, 1, none⟩ (.int .i64 xb2)).setCell ⟨v1.heap.size, 2, none⟩ (.int .i64 xc2)) := ⟨_, rfl⟩
                rw [← hw5]
                have G5 : v3.grownBy w5 (some v1.heap.size) := by rw [hw5]; exact grown_setB (grown_setB (grown_setB grown_reflB))
                replace qX : w5.heap[v1.heap.size]? = some (.cells #[.int .i64 (k : Int), .int .i64 xb2, .int .i64 xc2] 26 (0, 0)) := by rw [hw5]; exact set3_new qX
                replace qA := (G5.block _ (lt_of_block qA) (fun e => by injection e with e; omega)).trans qA
                replace qB := (G5.block _ (lt_of_block qB) (fun e => by injection e with e; omega)).trans qB
                replace qY := (G5.block _ (lt_of_block qY) (fun e => by injection e with e; omega)).trans qY
                replace BK := below_grownB BK G5 BK.size (by omega)
                clear hw5 G5 x0 x1 x2 xf
                clear a0 a1 a2 a3 a4 a5 af b0 b1 b2 b3 b4 b5 bf
                refine (C4.out _ BK).mono ?_
                rintro e v4 ⟨rfl, g⟩
                replace qA := kp g qA
                replace qB := kp g qB
                replace qX := kp g qX
                replace qY := kp g qY
                replace BK := chain BK g
                clear g
                obtain ⟨y0, y1, y2, yf⟩ := block_cells3 qY
                obtain ⟨x0, x1, x2, xf⟩ := block_cells3 qX
                obtain ⟨a0, a1, a2, a3, a4, a5, af⟩ := block_cells6 qA
                obtain ⟨b0, b1, b2, b3, b4, b5, bf⟩ := block_cells6 qB
                have BE := Lib.hid (below_grownB BK (grown_setB (i := 2) (u := .int .i64 0) (grown_setB (i := 1) (u := .int .i64 0) (grown_setB (i := 0) (u := .int .i64 0) (grown_reflB (r := some v2.heap.size))))) BK.size (by omega))
                clear qA qB qX BK
                go_wp2_with fail
                exact ⟨⟨k + 1, by omega, by push_cast; rfl, cnt_no HB1.out, cnt_no HB2.out, BE.out⟩, by simp [intOf]; omega⟩
              | some y =>
                obtain ⟨yb2, yc2, e2⟩ : ∃ yb yc, y = ⟨(k : Int), yb, yc⟩ := ⟨_, _, vo_fr r2⟩
                subst e2
                have HB20 := both_some (vw := av) o2 r2
                by_cases hv2 : xb2 = yb2
                · obtain rfl : xb2 = yb2 := hv2
                  by_cases ht2 : xc2 = yc2
                  · obtain rfl : xc2 = yc2 := ht2
                    have HB2 := Lib.hid (show bothB ac bc av (k : Int) = false by rw [HB20]; simp)
                    clear HB20
                    have C3 := Lib.hid (fun w' (g : Below W1.heap.size W1 w') => votes_some (.slice p2 l2 c2) ac (k : Int) xb2 xc2 w' (RdT.below RAc.out g (Nat.le_refl _)) o2)
                    have C4 := Lib.hid (fun w' (g : Below W1.heap.size W1 w') => votes_some (.slice p4 l4 c4) bc (k : Int) xb2 xc2 w' (RdT.below RBc.out g (Nat.le_refl _)) r2)
                    clear o2 r2
                    refine (C3.out _ BK).mono ?_
                    rintro e v3 ⟨rfl, g⟩
                    replace qA := kp g qA
                    replace qB := kp g qB
                    replace qX := kp g qX
                    replace qY := kp g qY
                    replace BK := chain BK g
                    clear g
                    obtain ⟨x0, x1, x2, xf⟩ := block_cells3 qX
                    obtain ⟨a0, a1, a2, a3, a4, a5, af⟩ := block_cells6 qA
                    obtain ⟨b0, b1, b2, b3, b4, b5, bf⟩ := block_cells6 qB
                    go_wp2_with fail
                    obtain ⟨w5, hw5⟩ : ∃ W, W = (((v3.setCell ⟨v1.heap.size, 0, none⟩ (.int .i64 (k : Int))).setCell ⟨v1.heap.size, 1, none⟩ (.int .i64 xb2)).setCell ⟨v1.heap.size, 2, none⟩ (.int .i64 xc2)) := ⟨_, rfl⟩
                    rw [← hw5]
                    have G5 : v3.grownBy w5 (some v1.heap.size) := by rw [hw5]; exact grown_setB (grown_setB (grown_setB grown_reflB))
                    replace qX : w5.heap[v1.heap.size]? = some (.cells #[.int .i64 (k : Int), .int .i64 xb2, .int .i64 xc2] 26 (0, 0)) := by rw [hw5]; exact set3_new qX
                    replace qA := (G5.block _ (lt_of_block qA) (fun e => by injection e with e; omega)).trans qA
                    replace qB := (G5.block _ (lt_of_block qB) (fun e => by injection e with e; omega)).trans qB
                    replace qY := (G5.block _ (lt_of_block qY) (fun e => by injection e with e; omega)).trans qY
                    replace BK := below_grownB BK G5 BK.size (by omega)
                    clear hw5 G5 x0 x1 x2 xf
                    clear a0 a1 a2 a3 a4 a5 af b0 b1 b2 b3 b4 b5 bf
                    refine (C4.out _ BK).mono ?_
                    rintro e v4 ⟨rfl, g⟩
                    replace qA := kp g qA
                    replace qB := kp g qB
                    replace qX := kp g qX
                    replace qY := kp g qY
                    replace BK := chain BK g
                    clear g
                    obtain ⟨y0, y1, y2, yf⟩ := block_cells3 qY
                    obtain ⟨x0, x1, x2, xf⟩ := block_cells3 qX
                    obtain ⟨a0, a1, a2, a3, a4, a5, af⟩ := block_cells6 qA
                    obtain ⟨b0, b1, b2, b3, b4, b5, bf⟩ := block_cells6 qB
                    have BE := Lib.hid (below_grownB BK (grown_setB (i := 2) (u := .int .i64 xc2) (grown_setB (i := 1) (u := .int .i64 xb2) (grown_setB (i := 0) (u := .int .i64 (k : Int)) (grown_reflB (r := some v2.heap.size))))) BK.size (by omega))
                    clear qA qB qX BK
                    go_wp2_with fail
                    exact ⟨⟨k + 1, by omega, by push_cast; rfl, cnt_no HB1.out, cnt_no HB2.out, BE.out⟩, by simp [intOf]; omega⟩
                  · by_cases hw2 : xb2 = av
                    · have HB2 := Lib.hid (show bothB ac bc av (k : Int) = true by rw [HB20]; simp [ht2, hw2])
                      have fw2 : (xb2 == av) = true := by simpa using hw2
                      clear HB20 hw2
                      have C3 := Lib.hid (fun w' (g : Below W1.heap.size W1 w') => votes_some (.slice p2 l2 c2) ac (k : Int) xb2 xc2 w' (RdT.below RAc.out g (Nat.le_refl _)) o2)
                      have C4 := Lib.hid (fun w' (g : Below W1.heap.size W1 w') => votes_some (.slice p4 l4 c4) bc (k : Int) xb2 yc2 w' (RdT.below RBc.out g (Nat.le_refl _)) r2)
                      clear o2 r2
                      refine (C3.out _ BK).mono ?_
                      rintro e v3 ⟨rfl, g⟩
                      replace qA := kp g qA
                      replace qB := kp g qB
                      replace qX := kp g qX
                      replace qY := kp g qY
                      replace BK := chain BK g
                      clear g
                      obtain ⟨x0, x1, x2, xf⟩ := block_cells3 qX
                      obtain ⟨a0, a1, a2, a3, a4, a5, af⟩ := block_cells6 qA
                      obtain ⟨b0, b1, b2, b3, b4, b5, bf⟩ := block_cells6 qB
                      go_wp2_with fail
                      obtain ⟨w5, hw5⟩ : ∃ W, W = (((v3.setCell ⟨v1.heap.size, 0, none⟩ (.int .i64 (k : Int))).setCell ⟨v1.heap.size, 1, none⟩ (.int .i64 xb2)).setCell ⟨v1.heap.size, 2, none⟩ (.int .i64 xc2)) := ⟨_, rfl⟩
                      rw [← hw5]
                      have G5 : v3.grownBy w5 (some v1.heap.size) := by rw [hw5]; exact grown_setB (grown_setB (grown_setB grown_reflB))
                      replace qX : w5.heap[v1.heap.size]? = some (.cells #[.int .i64 (k : Int), .int .i64 xb2, .int .i64 xc2] 26 (0, 0)) := by rw [hw5]; exact set3_new qX
                      replace qA := (G5.block _ (lt_of_block qA) (fun e => by injection e with e; omega)).trans qA
                      replace qB := (G5.block _ (lt_of_block qB) (fun e => by injection e with e; omega)).trans qB
                      replace qY := (G5.block _ (lt_of_block qY) (fun e => by injection e with e; omega)).trans qY
                      replace BK := below_grownB BK G5 BK.size (by omega)
                      clear hw5 G5 x0 x1 x2 xf
                      clear a0 a1 a2 a3 a4 a5 af b0 b1 b2 b3 b4 b5 bf
                      refine (C4.out _ BK).mono ?_
                      rintro e v4 ⟨rfl, g⟩
                      replace qA := kp g qA
                      replace qB := kp g qB
                      replace qX := kp g qX
                      replace qY := kp g qY
                      replace BK := chain BK g
                      clear g
                      obtain ⟨y0, y1, y2, yf⟩ := block_cells3 qY
                      obtain ⟨x0, x1, x2, xf⟩ := block_cells3 qX
                      obtain ⟨a0, a1, a2, a3, a4, a5, af⟩ := block_cells6 qA
                      obtain ⟨b0, b1, b2, b3, b4, b5, bf⟩ := block_cells6 qB
                      have BE := Lib.hid (below_grownB BK (grown_setB (i := 2) (u := .int .i64 yc2) (grown_setB (i := 1) (u := .int .i64 xb2) (grown_setB (i := 0) (u := .int .i64 (k : Int)) (grown_reflB (r := some v2.heap.size))))) BK.size (by omega))
                      clear qA qB qX BK
                      go_wp2_with fail
                      exact ⟨⟨k + 1, by omega, by push_cast; rfl, cnt_no HB1.out, cnt_yes HB2.out, BE.out⟩, by simp [intOf]; omega⟩
                    · have HB2 := Lib.hid (show bothB ac bc av (k : Int) = false by rw [HB20]; simp [hw2])
                      have fw2 : (xb2 == av) = false := by simpa using hw2
                      clear HB20 hw2
                      have C3 := Lib.hid (fun w' (g : Below W1.heap.size W1 w') => votes_some (.slice p2 l2 c2) ac (k : Int) xb2 xc2 w' (RdT.below RAc.out g (Nat.le_refl _)) o2)
                      have C4 := Lib.hid (fun w' (g : Below W1.heap.size W1 w') => votes_some (.slice p4 l4 c4) bc (k : Int) xb2 yc2 w' (RdT.below RBc.out g (Nat.le_refl _)) r2)
                      clear o2 r2
                      refine (C3.out _ BK).mono ?_
                      rintro e v3 ⟨rfl, g⟩
                      replace qA := kp g qA
                      replace qB := kp g qB
                      replace qX := kp g qX
                      replace qY := kp g qY
                      replace BK := chain BK g
                      clear g
                      obtain ⟨x0, x1, x2, xf⟩ := block_cells3 qX
                      obtain ⟨a0, a1, a2, a3, a4, a5, af⟩ := block_cells6 qA
                      obtain ⟨b0, b1, b2, b3, b4, b5, bf⟩ := block_cells6 qB
                      go_wp2_with fail
                      obtain ⟨w5, hw5⟩ : ∃ W, W = (((v3.setCell ⟨v1.heap.size, 0, none⟩ (.int .i64 (k : Int))).setCell ⟨v1.heap.size, 1, none⟩ (.int .i64 xb2)).setCell ⟨v1.heap.size, 2, none⟩ (.int .i64 xc2)) := ⟨_, rfl⟩
                      rw [← hw5]
                      have G5 : v3.grownBy w5 (some v1.heap.size) := by rw [hw5]; exact grown_setB (grown_setB (grown_setB grown_reflB))
                      replace qX : w5.heap[v1.heap.size]? = some (.cells #[.int .i64 (k : Int), .int .i64 xb2, .int .i64 xc2] 26 (0, 0)) := by rw [hw5]; exact set3_new qX
                      replace qA := (G5.block _ (lt_of_block qA) (fun e => by injection e with e; omega)).trans qA
                      replace qB := (G5.block _ (lt_of_block qB) (fun e => by injection e with e; omega)).trans qB
                      replace qY := (G5.block _ (lt_of_block qY) (fun e => by injection e with e; omega)).trans qY
                      replace BK := below_grownB BK G5 BK.size (by omega)
                      clear hw5 G5 x0 x1 x2 xf
                      clear a0 a1 a2 a3 a4 a5 af b0 b1 b2 b3 b4 b5 bf
                      refine (C4.out _ BK).mono ?_
                      rintro e v4 ⟨rfl, g⟩
                      replace qA := kp g qA
                      replace qB := kp g qB
                      replace qX := kp g qX
                      replace qY := kp g qY
                      replace BK := chain BK g
                      clear g
                      obtain ⟨y0, y1, y2, yf⟩ := block_cells3 qY
                      obtain ⟨x0, x1, x2, xf⟩ := block_cells3 qX
                      obtain ⟨a0, a1, a2, a3, a4, a5, af⟩ := block_cells6 qA
                      obtain ⟨b0, b1, b2, b3, b4, b5, bf⟩ := block_cells6 qB
                      have BE := Lib.hid (below_grownB BK (grown_setB (i := 2) (u := .int .i64 yc2) (grown_setB (i := 1) (u := .int .i64 xb2) (grown_setB (i := 0) (u := .int .i64 (k : Int)) (grown_reflB (r := some v2.heap.size))))) BK.size (by omega))
                      clear qA qB qX BK
                      go_wp2_with fail
                      exact ⟨⟨k + 1, by omega, by push_cast; rfl, cnt_no HB1.out, cnt_no HB2.out, BE.out⟩, by simp [intOf]; omega⟩
                · by_cases hw2 : xb2 = av
                  · have hz2 : ¬ yb2 = av := fun e => hv2 (hw2.trans e.symm)
                    have HB2 := Lib.hid (show bothB ac bc av (k : Int) = false by rw [HB20]; simp [hz2])
                    have fw2 : (xb2 == av) = true := by simpa using hw2
                    have fz2 : (yb2 == av) = false := by simpa using hz2
                    clear HB20 hw2 hz2
                    have C3 := Lib.hid (fun w' (g : Below W1.heap.size W1 w') => votes_some (.slice p2 l2 c2) ac (k : Int) xb2 xc2 w' (RdT.below RAc.out g (Nat.le_refl _)) o2)
                    have C4 := Lib.hid (fun w' (g : Below W1.heap.size W1 w') => votes_some (.slice p4 l4 c4) bc (k : Int) yb2 yc2 w' (RdT.below RBc.out g (Nat.le_refl _)) r2)
                    clear o2 r2
                    refine (C3.out _ BK).mono ?_
                    rintro e v3 ⟨rfl, g⟩
                    replace qA := kp g qA
                    replace qB := kp g qB
                    replace qX := kp g qX
                    replace qY := kp g qY
                    replace BK := chain BK g
                    clear g
                    obtain ⟨x0, x1, x2, xf⟩ := block_cells3 qX
                    obtain ⟨a0, a1, a2, a3, a4, a5, af⟩ := block_cells6 qA
                    obtain ⟨b0, b1, b2, b3, b4, b5, bf⟩ := block_cells6 qB
                    go_wp2_with fail
                    obtain ⟨w5, hw5⟩ : ∃ W, W = (((v3.setCell ⟨v1.heap.size, 0, none⟩ (.int .i64 (k : Int))).setCell ⟨v1.heap.size, 1, none⟩ (.int .i64 xb2)).setCell ⟨v1.heap.size, 2, none⟩ (.int .i64 xc2)) := ⟨_, rfl⟩
                    rw [← hw5]
                    have G5 : v3.grownBy w5 (some v1.heap.size) := by rw [hw5]; exact grown_setB (grown_setB (grown_setB grown_reflB))
                    replace qX : w5.heap[v1.heap.size]? = some (.cells #[.int .i64 (k : Int), .int .i64 xb2, .int .i64 xc2] 26 (0, 0)) := by rw [hw5]; exact set3_new qX
                    replace qA := (G5.block _ (lt_of_block qA) (fun e => by injection e with e; omega)).trans qA
                    replace qB := (G5.block _ (lt_of_block qB) (fun e => by injection e with e; omega)).trans qB
                    replace qY := (G5.block _ (lt_of_block qY) (fun e => by injection e with e; omega)).trans qY
                    replace BK := below_grownB BK G5 BK.size (by omega)
                    clear hw5 G5 x0 x1 x2 xf
                    clear a0 a1 a2 a3 a4 a5 af b0 b1 b2 b3 b4 b5 bf
                    refine (C4.out _ BK).mono ?_
                    rintro e v4 ⟨rfl, g⟩
                    replace qA := kp g qA
                    replace qB := kp g qB
                    replace qX := kp g qX
                    replace qY := kp g qY
                    replace BK := chain BK g
                    clear g
                    obtain ⟨y0, y1, y2, yf⟩ := block_cells3 qY
                    obtain ⟨x0, x1, x2, xf⟩ := block_cells3 qX
                    obtain ⟨a0, a1, a2, a3, a4, a5, af⟩ := block_cells6 qA
                    obtain ⟨b0, b1, b2, b3, b4, b5, bf⟩ := block_cells6 qB
                    have BE := Lib.hid (below_grownB BK (grown_setB (i := 2) (u := .int .i64 yc2) (grown_setB (i := 1) (u := .int .i64 yb2) (grown_setB (i := 0) (u := .int .i64 (k : Int)) (grown_reflB (r := some v2.heap.size))))) BK.size (by omega))
                    clear qA qB qX BK
                    go_wp2_with fail
                    exact ⟨⟨k + 1, by omega, by push_cast; rfl, cnt_no HB1.out, cnt_no HB2.out, BE.out⟩, by simp [intOf]; omega⟩
                  · have HB2 := Lib.hid (show bothB ac bc av (k : Int) = false by rw [HB20]; simp [hw2])
                    have fw2 : (xb2 == av) = false := by simpa using hw2
                    clear HB20 hw2
                    have C3 := Lib.hid (fun w' (g : Below W1.heap.size W1 w') => votes_some (.slice p2 l2 c2) ac (k : Int) xb2 xc2 w' (RdT.below RAc.out g (Nat.le_refl _)) o2)
                    have C4 := Lib.hid (fun w' (g : Below W1.heap.size W1 w') => votes_some (.slice p4 l4 c4) bc (k : Int) yb2 yc2 w' (RdT.below RBc.out g (Nat.le_refl _)) r2)
                    clear o2 r2
                    refine (C3.out _ BK).mono ?_
                    rintro e v3 ⟨rfl, g⟩
                    replace qA := kp g qA
                    replace qB := kp g qB
                    replace qX := kp g qX
                    replace qY := kp g qY
                    replace BK := chain BK g
                    clear g
                    obtain ⟨x0, x1, x2, xf⟩ := block_cells3 qX
                    obtain ⟨a0, a1, a2, a3, a4, a5, af⟩ := block_cells6 qA
                    obtain ⟨b0, b1, b2, b3, b4, b5, bf⟩ := block_cells6 qB
                    go_wp2_with fail
                    obtain ⟨w5, hw5⟩ : ∃ W, W = (((v3.setCell ⟨v1.heap.size, 0, none⟩ (.int .i64 (k : Int))).setCell ⟨v1.heap.size, 1, none⟩ (.int .i64 xb2)).setCell ⟨v1.heap.size, 2, none⟩ (.int .i64 xc2)) := ⟨_, rfl⟩
                    rw [← hw5]
                    have G5 : v3.grownBy w5 (some v1.heap.size) := by rw [hw5]; exact grown_setB (grown_setB (grown_setB grown_reflB))
                    replace qX : w5.heap[v1.heap.size]? = some (.cells #[.int .i64 (k : Int), .int .i64 xb2, .int .i64 xc2] 26 (0, 0)) := by rw [hw5]; exact set3_new qX
                    replace qA := (G5.block _ (lt_of_block qA) (fun e => by injection e with e; omega)).trans qA
                    replace qB := (G5.block _ (lt_of_block qB) (fun e => by injection e with e; omega)).trans qB
                    replace qY := (G5.block _ (lt_of_block qY) (fun e => by injection e with e; omega)).trans qY
                    replace BK := below_grownB BK G5 BK.size (by omega)
                    clear hw5 G5 x0 x1 x2 xf
                    clear a0 a1 a2 a3 a4 a5 af b0 b1 b2 b3 b4 b5 bf
                    refine (C4.out _ BK).mono ?_
                    rintro e v4 ⟨rfl, g⟩
                    replace qA := kp g qA
                    replace qB := kp g qB
                    replace qX := kp g qX
                    replace qY := kp g qY
                    replace BK := chain BK g
                    clear g
                    obtain ⟨y0, y1, y2, yf⟩ := block_cells3 qY
                    obtain ⟨x0, x1, x2, xf⟩ := block_cells3 qX
                    obtain ⟨a0, a1, a2, a3, a4, a5, af⟩ := block_cells6 qA
                    obtain ⟨b0, b1, b2, b3, b4, b5, bf⟩ := block_cells6 qB
                    have BE := Lib.hid (below_grownB BK (grown_setB (i := 2) (u := .int .i64 yc2) (grown_setB (i := 1) (u := .int .i64 yb2) (grown_setB (i := 0) (u := .int .i64 (k : Int)) (grown_reflB (r := some v2.heap.size))))) BK.size (by omega))
                    clear qA qB qX BK
                    go_wp2_with fail
                    exact ⟨⟨k + 1, by omega, by push_cast; rfl, cnt_no HB1.out, cnt_no HB2.out, BE.out⟩, by simp [intOf]; omega⟩
        | some y =>
          obtain ⟨yb1, yc1, e1⟩ : ∃ yb yc, y = ⟨(k : Int), yb, yc⟩ := ⟨_, _, vo_fr r1⟩
          subst e1
          as_aux_lemma =>
            have C1 := Lib.hid (fun w' (g : Below W1.heap.size W1 w') => votes_none (.slice p1 l1 c1) ap (k : Int) w' (RdT.below RAp.out g (Nat.le_refl _)) o1)
            have C2 := Lib.hid (fun w' (g : Below W1.heap.size W1 w') => votes_some (.slice p3 l3 c3) bp (k : Int) yb1 yc1 w' (RdT.below RBp.out g (Nat.le_refl _)) r1)
            clear o1 r1
            obtain ⟨a0, a1, a2, a3, a4, a5, af⟩ := block_cells6 qA
            obtain ⟨b0, b1, b2, b3, b4, b5, bf⟩ := block_cells6 qB
            go_wp2_with fail
            refine (C1.out _ BK).mono ?_
            rintro e v1 ⟨rfl, g⟩
            replace qA := kp g qA
            replace qB := kp g qB
            replace BK := chain BK g
            clear g
            clear a0 a1 a2 a3 a4 a5 af b0 b1 b2 b3 b4 b5 bf
            obtain ⟨a0, a1, a2, a3, a4, a5, af⟩ := block_cells6 qA
            obtain ⟨b0, b1, b2, b3, b4, b5, bf⟩ := block_cells6 qB
            have hX := BK.size
            have qX : (v1.alloc (.cells #[.int .i64 0, .int .i64 0, .int .i64 0] 26)).heap[v1.heap.size]? = some (.cells #[.int .i64 0, .int .i64 0, .int .i64 0] 26 (0, 0)) := heap_alloc_new _ _
            replace qA := ko (.cells #[.int .i64 0, .int .i64 0, .int .i64 0] 26) qA
            replace qB := ko (.cells #[.int .i64 0, .int .i64 0, .int .i64 0] 26) qB
            replace BK := BK.alloc BK.size (.cells #[.int .i64 0, .int .i64 0, .int .i64 0] 26)
            clear a0 a1 a2 a3 a4 a5 af b0 b1 b2 b3 b4 b5 bf
            obtain ⟨a0, a1, a2, a3, a4, a5, af⟩ := block_cells6 qA
            obtain ⟨b0, b1, b2, b3, b4, b5, bf⟩ := block_cells6 qB
            go_wp2_with fail
            refine (C2.out _ BK).mono ?_
            rintro e v2 ⟨rfl, g⟩
            replace qA := kp g qA
            replace qB := kp g qB
            replace qX := kp g qX
            replace BK := chain BK g
            clear g
            have hY := BK.size
            have hXY := lt_of_block qX
            have qY : (v2.alloc (.cells #[.int .i64 (k : Int), .int .i64 yb1, .int .i64 yc1] 26)).heap[v2.heap.size]? = some (.cells #[.int .i64 (k : Int), .int .i64 yb1, .int .i64 yc1] 26 (0, 0)) := heap_alloc_new _ _
            replace qX := ko (.cells #[.int .i64 (k : Int), .int .i64 yb1, .int .i64 yc1] 26) qX
            replace qA := ko (.cells #[.int .i64 (k : Int), .int .i64 yb1, .int .i64 yc1] 26) qA
            replace qB := ko (.cells #[.int .i64 (k : Int), .int .i64 yb1, .int .i64 yc1] 26) qB
            replace BK := BK.alloc BK.size (.cells #[.int .i64 (k : Int), .int .i64 yb1, .int .i64 yc1] 26)
            obtain ⟨x0, x1, x2, xf⟩ := block_cells3 qX
            obtain ⟨y0, y1, y2, yf⟩ := block_cells3 qY
            clear a0 a1 a2 a3 a4 a5 af b0 b1 b2 b3 b4 b5 bf
            obtain ⟨a0, a1, a2, a3, a4, a5, af⟩ := block_cells6 qA
            obtain ⟨b0, b1, b2, b3, b4, b5, bf⟩ := block_cells6 qB
            go_wp2_with fail
            clear x0 x1 x2 xf y0 y1 y2 yf
            clear a0 a1 a2 a3 a4 a5 af b0 b1 b2 b3 b4 b5 bf
            cases o2 : voOf ac (k : Int) with
            | none =>
              have HB2 := Lib.hid (both_none1 (lb := bc) (vw := av) o2)
              cases r2 : voOf bc (k : Int) with
              | none =>
                have C3 := Lib.hid (fun w' (g : Below W1.heap.size W1 w') => votes_none (.slice p2 l2 c2) ac (k : Int) w' (RdT.below RAc.out g (Nat.le_refl _)) o2)
                have C4 := Lib.hid (fun w' (g : Below W1.heap.size W1 w') => votes_none (.slice p4 l4 c4) bc (k : Int) w' (RdT.below RBc.out g (Nat.le_refl _)) r2)
                clear o2 r2
                refine (C3.out _ BK).mono ?_
                rintro e v3 ⟨rfl, g⟩
                replace qA := kp g qA
                replace qB := kp g qB
                replace qX := kp g qX
                replace qY := kp g qY
                replace BK := chain BK g
                clear g
                obtain ⟨x0, x1, x2, xf⟩ := block_cells3 qX
                obtain ⟨a0, a1, a2, a3, a4, a5, af⟩ := block_cells6 qA
                obtain ⟨b0, b1, b2, b3, b4, b5, bf⟩ := block_cells6 qB
                go_wp2_with fail
                obtain ⟨w5, hw5⟩ : ∃ W, W = (((v3.setCell ⟨v1.heap.size, 0, none⟩ (.int .i64 0)).setCell ⟨v1.heap.size, 1, none⟩ (.int .i64 0)).setCell ⟨v1.heap.size, 2, none⟩ (.int .i64 0)) := ⟨_, rfl⟩
                rw [← hw5]
                have G5 : v3.grownBy w5 (some v1.heap.size) := by rw [hw5]; exact grown_setB (grown_setB (grown_setB grown_reflB))
                replace qX : w5.heap[v1.heap.size]? = some (.cells #[.int .i64 0, .int .i64 0, .int .i64 0] 26 (0, 0)) := by rw [hw5]; exact set3_new qX
                replace qA := (G5.block _ (lt_of_block qA) (fun e => by injection e with e; omega)).trans qA
                replace qB := (G5.block _ (lt_of_block qB) (fun e => by injection e with e; omega)).trans qB
                replace qY := (G5.block _ (lt_of_block qY) (fun e => by injection e with e; omega)).trans qY
                replace BK := below_grownB BK G5 BK.size (by omega)
                clear hw5 G5 x0 x1 x2 xf
                clear a0 a1 a2 a3 a4 a5 af b0 b1 b2 b3 b4 b5 bf
                refine (C4.out _ BK).mono ?_
                rintro e v4 ⟨rfl, g⟩
                replace qA := kp g qA
                replace qB := kp g qB
                replace qX := kp g qX
                replace qY := kp g qY
                replace BK := chain BK g
                clear g
                obtain ⟨y0, y1, y2, yf⟩ := block_cells3 qY
                obtain ⟨x0, x1, x2, xf⟩ := block_cells3 qX
                obtain ⟨a0, a1, a2, a3, a4, a5, af⟩ := block_cells6 qA
                obtain ⟨b0, b1, b2, b3, b4, b5, bf⟩ := block_cells6 qB
                have BE := Lib.hid (below_grownB BK (grown_setB (i := 2) (u := .int .i64 0) (grown_setB (i := 1) (u := .int .i64 0) (grown_setB (i := 0) (u := .int .i64 0) (grown_reflB (r := some v2.heap.size))))) BK.size (by omega))
                clear qA qB qX BK
                go_wp2_with fail
                exact ⟨⟨k + 1, by omega, by push_cast; rfl, cnt_no HB1.out, cnt_no HB2.out, BE.out⟩, by simp [intOf]; omega⟩
              | some y =>
                obtain ⟨yb2, yc2, e2⟩ : ∃ yb yc, y = ⟨(k : Int), yb, yc⟩ := ⟨_, _, vo_fr r2⟩
                subst e2
                have C3 := Lib.hid (fun w' (g : Below W1.heap.size W1 w') => votes_none (.slice p2 l2 c2) ac (k : Int) w' (RdT.below RAc.out g (Nat.le_refl _)) o2)
                have C4 := Lib.hid (fun w' (g : Below W1.heap.size W1 w') => votes_some (.slice p4 l4 c4) bc (k : Int) yb2 yc2 w' (RdT.below RBc.out g (Nat.le_refl _)) r2)
                clear o2 r2
                refine (C3.out _ BK).mono ?_
                rintro e v3 ⟨rfl, g⟩
                replace qA := kp g qA
                replace qB := kp g qB
                replace qX := kp g qX
                replace qY := kp g qY
                replace BK := chain BK g
                clear g
                obtain ⟨x0, x1, x2, xf⟩ := block_cells3 qX
                obtain ⟨a0, a1, a2, a3, a4, a5, af⟩ := block_cells6 qA
                obtain ⟨b0, b1, b2, b3, b4, b5, bf⟩ := block_cells6 qB
                go_wp2_with fail
                obtain ⟨w5, hw5⟩ : ∃ W, W = (((v3.setCell ⟨v1.heap.size, 0, none⟩ (.int .i64 0)).setCell ⟨v1.heap.size, 1, none⟩ (.int .i64 0)).setCell ⟨v1.heap.size, 2, none⟩ (.int .i64 0)) := ⟨_, rfl⟩
                rw [← hw5]
                have G5 : v3.grownBy w5 (some v1.heap.size) := by rw [hw5]; exact grown_setB (grown_setB (grown_setB grown_reflB))
                replace qX : w5.heap[v1.heap.size]? = some (.cells #[.int .i64 0, .int .i64 0, .int .i64 0] 26 (0, 0)) := by rw [hw5]; exact set3_new qX
                replace qA := (G5.block _ (lt_of_block qA) (fun e => by injection e with e; omega)).trans qA
                replace qB := (G5.block _ (lt_of_block qB) (fun e => by injection e with e; omega)).trans qB
                replace qY := (G5.block _ (lt_of_block qY) (fun e => by injection e with e; omega)).trans qY
                replace BK := below_grownB BK G5 BK.size (by omega)
                clear hw5 G5 x0 x1 x2 xf
                clear a0 a1 a2 a3 a4 a5 af b0 b1 b2 b3 b4 b5 bf
                refine (C4.out _ BK).mono ?_
                rintro e v4 ⟨rfl, g⟩
                replace qA := kp g qA
                replace qB := kp g qB
                replace qX := kp g qX
                replace qY := kp g qY
                replace BK := chain BK g
                clear g
                obtain ⟨y0, y1, y2, yf⟩ := block_cells3 qY
                obtain ⟨x0, x1, x2, xf⟩ := block_cells3 qX
                obtain ⟨a0, a1, a2, a3, a4, a5, af⟩ := block_cells6 qA
                obtain ⟨b0, b1, b2, b3, b4, b5, bf⟩ := block_cells6 qB
                have BE := Lib.hid (below_grownB BK (grown_setB (i := 2) (u := .int .i64 yc2) (grown_setB (i := 1) (u := .int .i64 yb2) (grown_setB (i := 0) (u := .int .i64 (k : Int)) (grown_reflB (r := some v2.heap.size))))) BK.size (by omega))
                clear qA qB qX BK
                go_wp2_with fail
                exact ⟨⟨k + 1, by omega, by push_cast; rfl, cnt_no HB1.out, cnt_no HB2.out, BE.out⟩, by simp [intOf]; omega⟩
            | some x =>
              obtain ⟨xb2, xc2, f2⟩ : ∃ xb xc, x = ⟨(k : Int), xb, xc⟩ := ⟨_, _, vo_fr o2⟩
              subst f2
              cases r2 : voOf bc (k : Int) with
              | none =>
                have HB2 := Lib.hid (both_none2 (la := ac) (vw := av) r2)
                have C3 := Lib.hid (fun w' (g : Below W1.heap.size W1 w') => votes_some (.slice p2 l2 c2) ac (k : Int) xb2 xc2 w' (RdT.below RAc.out g (Nat.le_refl _)) o2)
                have C4 := Lib.hid (fun w' (g : Below W1.heap.size W1 w') => votes_none (.slice p4 l4 c4) bc (k : Int) w' (RdT.below RBc.out g (Nat.le_refl _)) r2)
                clear o2 r2
                refine (C3.out _ BK).mono ?_
                rintro e v3 ⟨rfl, g⟩
                replace qA := kp g qA
                replace qB := kp g qB
                replace qX := kp g qX
                replace qY := kp g qY
                replace BK := chain BK g
                clear g
                obtain ⟨x0, x1, x2, xf⟩ := block_cells3 qX
                obtain ⟨a0, a1, a2, a3, a4, a5, af⟩ := block_cells6 qA
                obtain ⟨b0, b1, b2, b3, b4, b5, bf⟩ := block_cells6 qB
                go_wp2_with fail
                obtain ⟨w5, hw5⟩ : ∃ W, W = (((v3.setCell ⟨v1.heap.size, 0, none⟩ (.int .i64 (k : Int))).setCell ⟨v1.heap.size, 1, none⟩ (.int .i64 xb2)).setCell ⟨v1.heap.size, 2, none⟩ (.int .i64 xc2)) := ⟨_, rfl⟩
                rw [← hw5]
                have G5 : v3.grownBy w5 (some v1.heap.size) := by rw [hw5]; exact grown_setB (grown_setB (grown_setB grown_reflB))
                replace qX : w5.heap[v1.heap.size]? = some (.cells #[.int .i64 (k : Int), .int .i64 xb2, .int .i64 xc2] 26 (0, 0)) := by rw [hw5]; exact set3_new qX
                replace qA := (G5.block _ (lt_of_block qA) (fun e => by injection e with e; omega)).trans qA
                replace qB := (G5.block _ (lt_of_block qB) (fun e => by injection e with e; omega)).trans qB
                replace qY := (G5.block _ (lt_of_block qY) (fun e => by injection e with e; omega)).trans qY
                replace BK := below_grownB BK G5 BK.size (by omega)
                clear hw5 G5 x0 x1 x2 xf
                clear a0 a1 a2 a3 a4 a5 af b0 b1 b2 b3 b4 b5 bf
                refine (C4.out _ BK).mono ?_
                rintro e v4 ⟨rfl, g⟩
                replace qA := kp g qA
                replace qB := kp g qB
                replace qX := kp g qX
                replace qY := kp g qY
                replace BK := chain BK g
                clear g
                obtain ⟨y0, y1, y2, yf⟩ := block_cells3 qY
                obtain ⟨x0, x1, x2, xf⟩ := block_cells3 qX
                obtain ⟨a0, a1, a2, a3, a4, a5, af⟩ := block_cells6 qA
                obtain ⟨b0, b1, b2, b3, b4, b5, bf⟩ := block_cells6 qB
                have BE := Lib.hid (below_grownB BK (grown_setB (i := 2) (u := .int .i64 0) (grown_setB (i := 1) (u := .int .i64 0) (grown_setB (i := 0) (u := .int .i64 0) (grown_reflB (r := some v2.heap.size))))) BK.size (by omega))
                clear qA qB qX BK
                go_wp2_with fail
                exact ⟨⟨k + 1, by omega, by push_cast; rfl, cnt_no HB1.out, cnt_no HB2.out, BE.out⟩, by simp [intOf]; omega⟩
              | some y =>
                obtain ⟨yb2, yc2, e2⟩ : ∃ yb yc, y = ⟨(k : Int), yb, yc⟩ := ⟨_, _, vo_fr r2⟩
                subst e2
                have HB20 := both_some (vw := av) o2 r2
                by_cases hv2 : xb2 = yb2
                · obtain rfl : xb2 = yb2 := hv2
                  by_cases ht2 : xc2 = yc2
                  · obtain rfl : xc2 = yc2 := ht2
                    have HB2 := Lib.hid (show bothB ac bc av (k : Int) = false by rw [HB20]; simp)
                    clear HB20
                    have C3 := Lib.hid (fun w' (g : Below W1.heap.size W1 w') => votes_some (.slice p2 l2 c2) ac (k : Int) xb2 xc2 w' (RdT.below RAc.out g (Nat.le_refl _)) o2)
                    have C4 := Lib.hid (fun w' (g : Below W1.heap.size W1 w') => votes_some (.slice p4 l4 c4) bc (k : Int) xb2 xc2 w' (RdT.below RBc.out g (Nat.le_refl _)) r2)
                    clear o2 r2
                    refine (C3.out _ BK).mono ?_
                    rintro e v3 ⟨rfl, g⟩
                    replace qA := kp g qA
                    replace qB := kp g qB
                    replace qX := kp g qX
                    replace qY := kp g qY
                    replace BK := chain BK g
                    clear g
                    obtain ⟨x0, x1, x2, xf⟩ := block_cells3 qX
                    obtain ⟨a0, a1, a2, a3, a4, a5, af⟩ := block_cells6 qA
                    obtain ⟨b0, b1, b2, b3, b4, b5, bf⟩ := block_cells6 qB
                    go_wp2_with fail
                    obtain ⟨w5, hw5⟩ : ∃ W, W = (((v3.setCell ⟨v1.heap.size, 0, none⟩ (.int .i64 (k : Int))).setCell ⟨v1.heap.size, 1, none⟩ (.int .i64 xb2)).setCell ⟨v1.heap.size, 2, none⟩ (.int .i64 xc2)) := ⟨_, rfl⟩
                    rw [← hw5]
                    have G5 : v3.grownBy w5 (some v1.heap.size) := by rw [hw5]; exact grown_setB (grown_setB (grown_setB grown_reflB))
                    replace qX : w5.heap[v1.heap.size]? = some (.cells #[.int .i64 (k : Int), .int .i64 xb2, .int .i64 xc2] 26 (0, 0)) := by rw [hw5]; exact set3_new qX
                    replace qA := (G5.block _ (lt_of_block qA) (fun e => by injection e with e; omega)).trans qA
                    replace qB := (G5.block _ (lt_of_block qB) (fun e => by injection e with e; omega)).trans qB
                    replace qY := (G5.block _ (lt_of_block qY) (fun e => by injection e with e; omega)).trans qY
                    replace BK := below_grownB BK G5 BK.size (by omega)
                    clear hw5 G5 x0 x1 x2 xf
                    clear a0 a1 a2 a3 a4 a5 af b0 b1 b2 b3 b4 b5 bf
                    refine (C4.out _ BK).mono ?_
                    rintro e v4 ⟨rfl, g⟩
                    replace qA := kp g qA
                    replace qB := kp g qB
                    replace qX := kp g qX
                    replace qY := kp g qY
                    replace BK := chain BK g
                    clear g
                    obtain ⟨y0, y1, y2, yf⟩ := block_cells3 qY
                    obtain ⟨x0, x1, x2, xf⟩ := block_cells3 qX
                    obtain ⟨a0, a1, a2, a3, a4, a5, af⟩ := block_cells6 qA
                    obtain ⟨b0, b1, b2, b3, b4, b5, bf⟩ := block_cells6 qB
                    have BE := Lib.hid (below_grownB BK (grown_setB (i := 2) (u := .int .i64 xc2) (grown_setB (i := 1) (u := .int .i64 xb2) (grown_setB (i := 0) (u := .int .i64 (k : Int)) (grown_reflB (r := some v2.heap.size))))) BK.size (by omega))
                    clear qA qB qX BK
                    go_wp2_with fail
                    exact ⟨⟨k + 1, by omega, by push_cast; rfl, cnt_no HB1.out, cnt_no HB2.out, BE.out⟩, by simp [intOf]; omega⟩
                  · by_cases hw2 : xb2 = av
                    · have HB2 := Lib.hid (show bothB ac bc av (k : Int) = true by rw [HB20]; simp [ht2, hw2])
                      have fw2 : (xb2 == av) = true := by simpa using hw2
                      clear HB20 hw2
                      have C3 := Lib.hid (fun w' (g : Below W1.heap.size W1 w') => votes_some (.slice p2 l2 c2) ac (k : Int) xb2 xc2 w' (RdT.below RAc.out g (Nat.le_refl _)) o2)
                      have C4 := Lib.hid (fun w' (g : Below W1.heap.size W1 w') => votes_some (.slice p4 l4 c4) bc (k : Int) xb2 yc2 w' (RdT.below RBc.out g (Nat.le_refl _)) r2)
                      clear o2 r2
                      refine (C3.out _ BK).mono ?_
                      rintro e v3 ⟨rfl, g⟩
                      replace qA := kp g qA
                      replace qB := kp g qB
                      replace qX := kp g qX
                      replace qY := kp g qY
                      replace BK := chain BK g
                      clear g
                      obtain ⟨x0, x1, x2, xf⟩ := block_cells3 qX
                      obtain ⟨a0, a1, a2, a3, a4, a5, af⟩ := block_cells6 qA
                      obtain ⟨b0, b1, b2, b3, b4, b5, bf⟩ := block_cells6 qB
                      go_wp2_with fail
                      obtain ⟨w5, hw5⟩ : ∃ W, W = (((v3.setCell ⟨v1.heap.size, 0, none⟩ (.int .i64 (k : Int))).setCell ⟨v1.heap.size, 1, none⟩ (.int .i64 xb2)).setCell ⟨v1.heap.size, 2, none⟩ (.int .i64 xc2)) := ⟨_, rfl⟩
                      rw [← hw5]
                      have G5 : v3.grownBy w5 (some v1.heap.size) := by rw [hw5]; exact grown_setB (grown_setB (grown_setB grown_reflB))
                      replace qX : w5.heap[v1.heap.size]? = some (.cells #[.int .i64 (k : Int), .int .i64 xb2, .int .i64 xc2] 26 (0, 0)) := by rw [hw5]; exact set3_new qX
                      replace qA := (G5.block _ (lt_of_block qA) (fun e => by injection e with e; omega)).trans qA
                      replace qB := (G5.block _ (lt_of_block qB) (fun e => by injection e with e; omega)).trans qB
                      replace qY := (G5.block _ (lt_of_block qY) (fun e => by injection e with e; omega)).trans qY
                      replace BK := below_grownB BK G5 BK.size (by omega)
                      clear hw5 G5 x0 x1 x2 xf
                      clear a0 a1 a2 a3 a4 a5 af b0 b1 b2 b3 b4 b5 bf
                      refine (C4.out _ BK).mono ?_
                      rintro e v4 ⟨rfl, g⟩
                      replace qA := kp g qA
                      replace qB := kp g qB
                      replace qX := kp g qX
                      replace qY := kp g qY
                      replace BK := chain BK g
                      clear g
                      obtain ⟨y0, y1, y2, yf⟩ := block_cells3 qY
                      obtain ⟨x0, x1, x2, xf⟩ := block_cells3 qX
                      obtain ⟨a0, a1, a2, a3, a4, a5, af⟩ := block_cells6 qA
                      obtain ⟨b0, b1, b2, b3, b4, b5, bf⟩ := block_cells6 qB
                      have BE := Lib.hid (below_grownB BK (grown_setB (i := 2) (u := .int .i64 yc2) (grown_setB (i := 1) (u := .int .i64 xb2) (grown_setB (i := 0) (u := .int .i64 (k : Int)) (grown_reflB (r := some v2.heap.size))))) BK.size (by omega))
                      clear qA qB qX BK
                      go_wp2_with fail
                      exact ⟨⟨k + 1, by omega, by push_cast; rfl, cnt_no HB1.out, cnt_yes HB2.out, BE.out⟩, by simp [intOf]; omega⟩
                    · have HB2 := Lib.hid (show bothB ac bc av (k : Int) = false by rw [HB20]; simp [hw2])
                      have fw2 : (xb2 == av) = false := by simpa using hw2
                      clear HB20 hw2
                      have C3 := Lib.hid (fun w' (g : Below W1.heap.size W1 w') => votes_some (.slice p2 l2 c2) ac (k : Int) xb2 xc2 w' (RdT.below RAc.out g (Nat.le_refl _)) o2)
                      have C4 := Lib.hid (fun w' (g : Below W1.heap.size W1 w') => votes_some (.slice p4 l4 c4) bc (k : Int) xb2 yc2 w' (RdT.below RBc.out g (Nat.le_refl _)) r2)
                      clear o2 r2
                      refine (C3.out _ BK).mono ?_
                      rintro e v3 ⟨rfl, g⟩
                      replace qA := kp g qA
                      replace qB := kp g qB
                      replace qX := kp g qX
                      replace qY := kp g qY
                      replace BK := chain BK g
                      clear g
                      obtain ⟨x0, x1, x2, xf⟩ := block_cells3 qX
                      obtain ⟨a0, a1, a2, a3, a4, a5, af⟩ := block_cells6 qA
                      obtain ⟨b0, b1, b2, b3, b4, b5, bf⟩ := block_cells6 qB
                      go_wp2_with fail
                      obtain ⟨w5, hw5⟩ : ∃ W, W = (((v3.setCell ⟨v1.heap.size, 0, none⟩ (.int .i64 (k : Int))).setCell ⟨v1.heap.size, 1, none⟩ (.int .i64 xb2)).setCell ⟨v1.heap.size, 2, none⟩ (.int .i64 xc2)) := ⟨_, rfl⟩
                      rw [← hw5]
                      have G5 : v3.grownBy w5 (some v1.heap.size) := by rw [hw5]; exact grown_setB (grown_setB (grown_setB grown_reflB))
                      replace qX : w5.heap[v1.heap.size]? = some (.cells #[.int .i64 (k : Int), .int .i64 xb2, .int .i64 xc2] 26 (0, 0)) := by rw [hw5]; exact set3_new qX
                      replace qA := (G5.block _ (lt_of_block qA) (fun e => by injection e with e; omega)).trans qA
                      replace qB := (G5.block _ (lt_of_block qB) (fun e => by injection e with e; omega)).trans qB
                      replace qY := (G5.block _ (lt_of_block qY) (fun e => by injection e with e; omega)).trans qY
                      replace BK := below_grownB BK G5 BK.size (by omega)
                      clear hw5 G5 x0 x1 x2 xf
                      clear a0 a1 a2 a3 a4 a5 af b0 b1 b2 b3 b4 b5 bf
                      refine (C4.out _ BK).mono ?_
                      rintro e v4 ⟨rfl, g⟩
                      replace qA := kp g qA
                      replace qB := kp g qB
                      replace qX := kp g qX
                      replace qY := kp g qY
                      replace BK := chain BK g
                      clear g
                      obtain ⟨y0, y1, y2, yf⟩ := block_cells3 qY
                      obtain ⟨x0, x1, x2, xf⟩ := block_cells3 qX
                      obtain ⟨a0, a1, a2, a3, a4, a5, af⟩ := block_cells6 qA
                      obtain ⟨b0, b1, b2, b3, b4, b5, bf⟩ := block_cells6 qB
                      have BE := Lib.hid (below_grownB BK (grown_setB (i := 2) (u := .int .i64 yc2) (grown_setB (i := 1) (u := .int .i64 xb2) (grown_setB (i := 0) (u := .int .i64 (k : Int)) (grown_reflB (r := some v2.heap.size))))) BK.size (by omega))
                      clear qA qB qX BK
                      go_wp2_with fail
                      exact ⟨⟨k + 1, by omega, by push_cast; rfl, cnt_no HB1.out, cnt_no HB2.out, BE.out⟩, by simp [intOf]; omega⟩
                · by_cases hw2 : xb2 = av
                  · have hz2 : ¬ yb2 = av := fun e => hv2 (hw2.trans e.symm)
                    have HB2 := Lib.hid (show bothB ac bc av (k : Int) = false by rw [HB20]; simp [hz2])
                    have fw2 : (xb2 == av) = true := by simpa using hw2
                    have fz2 : (yb2 == av) = false := by simpa using hz2
                    clear HB20 hw2 hz2
                    have C3 := Lib.hid (fun w' (g : Below W1.heap.size W1 w') => votes_some (.slice p2 l2 c2) ac (k : Int) xb2 xc2 w' (RdT.below RAc.out g (Nat.le_refl _)) o2)
                    have C4 := Lib.hid (fun w' (g : Below W1.heap.size W1 w') => votes_some (.slice p4 l4 c4) bc (k : Int) yb2 yc2 w' (RdT.below RBc.out g (Nat.le_refl _)) r2)
                    clear o2 r2
                    refine (C3.out _ BK).mono ?_
                    rintro e v3 ⟨rfl, g⟩
                    replace qA := kp g qA
                    replace qB := kp g qB
                    replace qX := kp g qX
                    replace qY := kp g qY
                    replace BK := chain BK g
                    clear g
                    obtain ⟨x0, x1, x2, xf⟩ := block_cells3 qX
                    obtain ⟨a0, a1, a2, a3, a4, a5, af⟩ := block_cells6 qA
                    obtain ⟨b0, b1, b2, b3, b4, b5, bf⟩ := block_cells6 qB
                    go_wp2_with fail
                    obtain ⟨w5, hw5⟩ : ∃ W, W = (((v3.setCell ⟨v1.heap.size, 0, none⟩ (.int .i64 (k : Int))).setCell ⟨v1.heap.size, 1, none⟩ (.int .i64 xb2)).setCell ⟨v1.heap.size, 2, none⟩ (.int .i64 xc2)) := ⟨_, rfl⟩
                    rw [← hw5]
                    have G5 : v3.grownBy w5 (some v1.heap.size) := by rw [hw5]; exact grown_setB (grown_setB (grown_setB grown_reflB))
                    replace qX : w5.heap[v1.heap.size]? = some (.cells #[.int .i64 (k : Int), .int .i64 xb2, .int .i64 xc2] 26 (0, 0)) := by rw [hw5]; exact set3_new qX
                    replace qA := (G5.block _ (lt_of_block qA) (fun e => by injection e with e; omega)).trans qA
                    replace qB := (G5.block _ (lt_of_block qB) (fun e => by injection e with e; omega)).trans qB
                    replace qY := (G5.block _ (lt_of_block qY) (fun e => by injection e with e; omega)).trans qY
                    replace BK := below_grownB BK G5 BK.size (by omega)
                    clear hw5 G5 x0 x1 x2 xf
                    clear a0 a1 a2 a3 a4 a5 af b0 b1 b2 b3 b4 b5 bf
                    refine (C4.out _ BK).mono ?_
                    rintro e v4 ⟨rfl, g⟩
                    replace qA := kp g qA
                    replace qB := kp g qB
                    replace qX := kp g qX
                    replace qY := kp g qY
                    replace BK := chain BK g
                    clear g
                    obtain ⟨y0, y1, y2, yf⟩ := block_cells3 qY
                    obtain ⟨x0, x1, x2, xf⟩ := block_cells3 qX
                    obtain ⟨a0, a1, a2, a3, a4, a5, af⟩ := block_cells6 qA
                    obtain ⟨b0, b1, b2, b3, b4, b5, bf⟩ := block_cells6 qB
                    have BE := Lib.hid (below_grownB BK (grown_setB (i := 2) (u := .int .i64 yc2) (grown_setB (i := 1) (u := .int .i64 yb2) (grown_setB (i := 0) (u := .int .i64 (k : Int)) (grown_reflB (r := some v2.heap.size))))) BK.size (by omega))
                    clear qA qB qX BK
                    go_wp2_with fail
                    exact ⟨⟨k + 1, by omega, by push_cast; rfl, cnt_no HB1.out, cnt_no HB2.out, BE.out⟩, by simp [intOf]; omega⟩
                  · have HB2 := Lib.hid (show bothB ac bc av (k : Int) = false by rw [HB20]; simp [hw2])
                    have fw2 : (xb2 == av) = false := by simpa using hw2
                    clear HB20 hw2
                    have C3 := Lib.hid (fun w' (g : Below W1.heap.size W1 w') => votes_some (.slice p2 l2 c2) ac (k : Int) xb2 xc2 w' (RdT.below RAc.out g (Nat.le_refl _)) o2)
                    have C4 := Lib.hid (fun w' (g : Below W1.heap.size W1 w') => votes_some (.slice p4 l4 c4) bc (k : Int) yb2 yc2 w' (RdT.below RBc.out g (Nat.le_refl _)) r2)
                    clear o2 r2
                    refine (C3.out _ BK).mono ?_
                    rintro e v3 ⟨rfl, g⟩
                    replace qA := kp g qA
                    replace qB := kp g qB
                    replace qX := kp g qX
                    replace qY := kp g qY
                    replace BK := chain BK g
                    clear g
                    obtain ⟨x0, x1, x2, xf⟩ := block_cells3 qX
                    obtain ⟨a0, a1, a2, a3, a4, a5, af⟩ := block_cells6 qA
                    obtain ⟨b0, b1, b2, b3, b4, b5, bf⟩ := block_cells6 qB
                    go_wp2_with fail
                    obtain ⟨w5, hw5⟩ : ∃ W, W = (((v3.setCell ⟨v1.heap.size, 0, none⟩ (.int .i64 (k : Int))).setCell ⟨v1.heap.size, 1, none⟩ (.int .i64 xb2)).setCell ⟨v1.heap.size, 2, none⟩ (.int .i64 xc2)) := ⟨_, rfl⟩
                    rw [← hw5]
                    have G5 : v3.grownBy w5 (some v1.heap.size) := by rw [hw5]; exact grown_setB (grown_setB (grown_setB grown_reflB))
                    replace qX : w5.heap[v1.heap.size]? = some (.cells #[.int .i64 (k : Int), .int .i64 xb2, .int .i64 xc2] 26 (0, 0)) := by rw [hw5]; exact set3_new qX
                    replace qA := (G5.block _ (lt_of_block qA) (fun e => by injection e with e; omega)).trans qA
                    replace qB := (G5.block _ (lt_of_block qB) (fun e => by injection e with e; omega)).trans qB
                    replace qY := (G5.block _ (lt_of_block qY) (fun e => by injection e with e; omega)).trans qY
                    replace BK := below_grownB BK G5 BK.size (by omega)
                    clear hw5 G5 x0 x1 x2 xf
                    clear a0 a1 a2 a3 a4 a5 af b0 b1 b2 b3 b4 b5 bf
                    refine (C4.out _ BK).mono ?_
                    rintro e v4 ⟨rfl, g⟩
                    replace qA := kp g qA
                    replace qB := kp g qB
                    replace qX := kp g qX
                    replace qY := kp g qY
                    replace BK := chain BK g
                    clear g
                    obtain ⟨y0, y1, y2, yf⟩ := block_cells3 qY
                    obtain ⟨x0, x1, x2, xf⟩ := block_cells3 qX
                    obtain ⟨a0, a1, a2, a3, a4, a5, af⟩ := block_cells6 qA
                    obtain ⟨b0, b1, b2, b3, b4, b5, bf⟩ := block_cells6 qB
                    have BE := Lib.hid (below_grownB BK (grown_setB (i := 2) (u := .int .i64 yc2) (grown_setB (i := 1) (u := .int .i64 yb2) (grown_setB (i := 0) (u := .int .i64 (k : Int)) (grown_reflB (r := some v2.heap.size))))) BK.size (by omega))
                    clear qA qB qX BK
                    go_wp2_with fail
                    exact ⟨⟨k + 1, by omega, by push_cast; rfl, cnt_no HB1.out, cnt_no HB2.out, BE.out⟩, by simp [intOf]; omega⟩
      | some x =>
        obtain ⟨xb1, xc1, f1⟩ : ∃ xb xc, x = ⟨(k : Int), xb, xc⟩ := ⟨_, _, vo_fr o1⟩
        subst f1
        cases r1 : voOf bp (k : Int) with
        | none =>
          have HB1 := Lib.hid (both_none2 (la := ap) (vw := av) r1)
          as_aux_lemma =>
            have C1 := Lib.hid (fun w' (g : Below W1.heap.size W1 w') => votes_some (.slice p1 l1 c1) ap (k : Int) xb1 xc1 w' (RdT.below RAp.out g (Nat.le_refl _)) o1)
            have C2 := Lib.hid (fun w' (g : Below W1.heap.size W1 w') => votes_none (.slice p3 l3 c3) bp (k : Int) w' (RdT.below RBp.out g (Nat.le_refl _)) r1)
            clear o1 r1
            obtain ⟨a0, a1, a2, a3, a4, a5, af⟩ := block_cells6 qA
            obtain ⟨b0, b1, b2, b3, b4, b5, bf⟩ := block_cells6 qB
            go_wp2_with fail
            refine (C1.out _ BK).mono ?_
            rintro e v1 ⟨rfl, g⟩
            replace qA := kp g qA
            replace qB := kp g qB
            replace BK := chain BK g
            clear g
            clear a0 a1 a2 a3 a4 a5 af b0 b1 b2 b3 b4 b5 bf
            obtain ⟨a0, a1, a2, a3, a4, a5, af⟩ := block_cells6 qA
            obtain ⟨b0, b1, b2, b3, b4, b5, bf⟩ := block_cells6 qB
            have hX := BK.size
            have qX : (v1.alloc (.cells #[.int .i64 (k : Int), .int .i64 xb1, .int .i64 xc1] 26)).heap[v1.heap.size]? = some (.cells #[.int .i64 (k : Int), .int .i64 xb1, .int .i64 xc1] 26 (0, 0)) := heap_alloc_new _ _
            replace qA := ko (.cells #[.int .i64 (k : Int), .int .i64 xb1, .int .i64 xc1] 26) qA
            replace qB := ko (.cells #[.int .i64 (k : Int), .int .i64 xb1, .int .i64 xc1] 26) qB
            replace BK := BK.alloc BK.size (.cells #[.int .i64 (k : Int), .int .i64 xb1, .int .i64 xc1] 26)
            clear a0 a1 a2 a3 a4 a5 af b0 b1 b2 b3 b4 b5 bf
            obtain ⟨a0, a1, a2, a3, a4, a5, af⟩ := block_cells6 qA
            obtain ⟨b0, b1, b2, b3, b4, b5, bf⟩ := block_cells6 qB
            go_wp2_with fail
            refine (C2.out _ BK).mono ?_
            rintro e v2 ⟨rfl, g⟩
            replace qA := kp g qA
            replace qB := kp g qB
            replace qX := kp g qX
            replace BK := chain BK g
            clear g
            have hY := BK.size
            have hXY := lt_of_block qX
            have qY : (v2.alloc (.cells #[.int .i64 0, .int .i64 0, .int .i64 0] 26)).heap[v2.heap.size]? = some (.cells #[.int .i64 0, .int .i64 0, .int .i64 0] 26 (0, 0)) := heap_alloc_new _ _
            replace qX := ko (.cells #[.int .i64 0, .int .i64 0, .int .i64 0] 26) qX
            replace qA := ko (.cells #[.int .i64 0, .int .i64 0, .int .i64 0] 26) qA
            replace qB := ko (.cells #[.int .i64 0, .int .i64 0, .int .i64 0] 26) qB
            replace BK := BK.alloc BK.size (.cells #[.int .i64 0, .int .i64 0, .int .i64 0] 26)
            obtain ⟨x0, x1, x2, xf⟩ := block_cells3 qX
            obtain ⟨y0, y1, y2, yf⟩ := block_cells3 qY
            clear a0 a1 a2 a3 a4 a5 af b0 b1 b2 b3 b4 b5 bf
            obtain ⟨a0, a1, a2, a3, a4, a5, af⟩ := block_cells6 qA
            obtain ⟨b0, b1, b2, b3, b4, b5, bf⟩ := block_cells6 qB
            go_wp2_with fail
            clear x0 x1 x2 xf y0 y1 y2 yf
            clear a0 a1 a2 a3 a4 a5 af b0 b1 b2 b3 b4 b5 bf
            cases o2 : voOf ac (k : Int) with
            | none =>
              have HB2 := Lib.hid (both_none1 (lb := bc) (vw := av) o2)
              cases r2 : voOf bc (k : Int) with
              | none =>
                have C3 := Lib.hid (fun w' (g : Below W1.heap.size W1 w') => votes_none (.slice p2 l2 c2) ac (k : Int) w' (RdT.below RAc.out g (Nat.le_refl _)) o2)
                have C4 := Lib.hid (fun w' (g : Below W1.heap.size W1 w') => votes_none (.slice p4 l4 c4) bc (k : Int) w' (RdT.below RBc.out g (Nat.le_refl _)) r2)
                clear o2 r2
                refine (C3.out _ BK).mono ?_
                rintro e v3 ⟨rfl, g⟩
                replace qA := kp g qA
                replace qB := kp g qB
                replace qX := kp g qX
                replace qY := kp g qY
                replace BK := chain BK g
                clear g
                obtain ⟨x0, x1, x2, xf⟩ := block_cells3 qX
                obtain ⟨a0, a1, a2, a3, a4, a5, af⟩ := block_cells6 qA
                obtain ⟨b0, b1, b2, b3, b4, b5, bf⟩ := block_cells6 qB
                go_wp2_with fail
                obtain ⟨w5, hw5⟩ : ∃ W, W = (((v3.setCell ⟨v1.heap.size, 0, none⟩ (.int .i64 0)).setCell ⟨v1.heap.size, 1, none⟩ (.int .i64 0)).setCell ⟨v1.heap.size, 2, none⟩ (.int .i64 0)) := ⟨_, rfl⟩
                rw [← hw5]
                have G5 : v3.grownBy w5 (some v1.heap.size) := by rw [hw5]; exact grown_setB (grown_setB (grown_setB grown_reflB))
                replace qX : w5.heap[v1.heap.size]? = some (.cells #[.int .i64 0, .int .i64 0, .int .i64 0] 26 (0, 0)) := by rw [hw5]; exact set3_new qX
                replace qA := (G5.block _ (lt_of_block qA) (fun e => by injection e with e; omega)).trans qA
                replace qB := (G5.block _ (lt_of_block qB) (fun e => by injection e with e; omega)).trans qB
                replace qY := (G5.block _ (lt_of_block qY) (fun e => by injection e with e; omega)).trans qY
                replace BK := below_grownB BK G5 BK.size (by omega)
                clear hw5 G5 x0 x1 x2 xf
                clear a0 a1 a2 a3 a4 a5 af b0 b1 b2 b3 b4 b5 bf
                refine (C4.out _ BK).mono ?_
                rintro e v4 ⟨rfl, g⟩
                replace qA := kp g qA
                replace qB := kp g qB
                replace qX := kp g qX
                replace qY := kp g qY
                replace BK := chain BK g
                clear g
                obtain ⟨y0, y1, y2, yf⟩ := block_cells3 qY
                obtain ⟨x0, x1, x2, xf⟩ := block_cells3 qX
                obtain ⟨a0, a1, a2, a3, a4, a5, af⟩ := block_cells6 qA
                obtain ⟨b0, b1, b2, b3, b4, b5, bf⟩ := block_cells6 qB
                have BE := Lib.hid (below_grownB BK (grown_setB (i := 2) (u := .int .i64 0) (grown_setB (i := 1) (u := .int .i64 0) (grown_setB (i := 0) (u := .int .i64 0) (grown_reflB (r := some v2.heap.size))))) BK.size (by omega))
                clear qA qB qX BK
                go_wp2_with fail
                exact ⟨⟨k + 1, by omega, by push_cast; rfl, cnt_no HB1.out, cnt_no HB2.out, BE.out⟩, by simp [intOf]; omega⟩
              | some y =>
                obtain ⟨yb2, yc2, e2⟩ : ∃ yb yc, y = ⟨(k : Int), yb, yc⟩ := ⟨_, _, vo_fr r2⟩
                subst e2
                have C3 := Lib.hid (fun w' (g : Below W1.heap.size W1 w') => votes_none (.slice p2 l2 c2) ac (k : Int) w' (RdT.below RAc.out g (Nat.le_refl _)) o2)
                have C4 := Lib.hid (fun w' (g : Below W1.heap.size W1 w') => votes_some (.slice p4 l4 c4) bc (k : Int) yb2 yc2 w' (RdT.below RBc.out g (Nat.le_refl _)) r2)
                clear o2 r2
                refine (C3.out _ BK).mono ?_
                rintro e v3 ⟨rfl, g⟩
                replace qA := kp g qA
                replace qB := kp g qB
                replace qX := kp g qX
                replace qY := kp g qY
                replace BK := chain BK g
                clear g
                obtain ⟨x0, x1, x2, xf⟩ := block_cells3 qX
                obtain ⟨a0, a1, a2, a3, a4, a5, af⟩ := block_cells6 qA
                obtain ⟨b0, b1, b2, b3, b4, b5, bf⟩ := block_cells6 qB
                go_wp2_with fail
                obtain ⟨w5, hw5⟩ : ∃ W, W = (((v3.setCell ⟨v1.heap.size, 0, none⟩ (.int .i64 0)).setCell ⟨v1.heap.size, 1, none⟩ (.int .i64 0)).setCell ⟨v1.heap.size, 2, none⟩ (.int .i64 0)) := ⟨_, rfl⟩
                rw [← hw5]
                have G5 : v3.grownBy w5 (some v1.heap.size) := by rw [hw5]; exact grown_setB (grown_setB (grown_setB grown_reflB))
                replace qX : w5.heap[v1.heap.size]? = some (.cells #[.int .i64 0, .int .i64 0, .int .i64 0] 26 (0, 0)) := by rw [hw5]; exact set3_new qX
                replace qA := (G5.block _ (lt_of_block qA) (fun e => by injection e with e; omega)).trans qA
                replace qB := (G5.block _ (lt_of_block qB) (fun e => by injection e with e; omega)).trans qB
                replace qY := (G5.block _ (lt_of_block qY) (fun e => by injection e with e; omega)).trans qY
                replace BK := below_grownB BK G5 BK.size (by omega)
                clear hw5 G5 x0 x1 x2 xf
                clear a0 a1 a2 a3 a4 a5 af b0 b1 b2 b3 b4 b5 bf
                refine (C4.out _ BK).mono ?_
                rintro e v4 ⟨rfl, g⟩
                replace qA := kp g qA
                replace qB := kp g qB
                replace qX := kp g qX
                replace qY := kp g qY
                replace BK := chain BK g
                clear g
                obtain ⟨y0, y1, y2, yf⟩ := block_cells3 qY
                obtain ⟨x0, x1, x2, xf⟩ := block_cells3 qX
                obtain ⟨a0, a1, a2, a3, a4, a5, af⟩ := block_cells6 qA
                obtain ⟨b0, b1, b2, b3, b4, b5, bf⟩ := block_cells6 qB
                have BE := Lib.hid (below_grownB BK (grown_setB (i := 2) (u := .int .i64 yc2) (grown_setB (i := 1) (u := .int .i64 yb2) (grown_setB (i := 0) (u := .int .i64 (k : Int)) (grown_reflB (r := some v2.heap.size))))) BK.size (by omega))
                clear qA qB qX BK
                go_wp2_with fail
                exact ⟨⟨k + 1, by omega, by push_cast; rfl, cnt_no HB1.out, cnt_no HB2.out, BE.out⟩, by simp [intOf]; omega⟩
            | some x =>
              obtain ⟨xb2, xc2, f2⟩ : ∃ xb xc, x = ⟨(k : Int), xb, xc⟩ := ⟨_, _, vo_fr o2⟩
              subst f2
              cases r2 : voOf bc (k : Int) with
              | none =>
                have HB2 := Lib.hid (both_none2 (la := ac) (vw := av) r2)
                have C3 := Lib.hid (fun w' (g : Below W1.heap.size W1 w') => votes_some (.slice p2 l2 c2) ac (k : Int) xb2 xc2 w' (RdT.below RAc.out g (Nat.le_refl _)) o2)
                have C4 := Lib.hid (fun w' (g : Below W1.heap.size W1 w') => votes_none (.slice p4 l4 c4) bc (k : Int) w' (RdT.below RBc.out g (Nat.le_refl _)) r2)
                clear o2 r2
                refine (C3.out _ BK).mono ?_
                rintro e v3 ⟨rfl, g⟩
                replace qA := kp g qA
                replace qB := kp g qB
                replace qX := kp g qX
                replace qY := kp g qY
                replace BK := chain BK g
                clear g
                obtain ⟨x0, x1, x2, xf⟩ := block_cells3 qX
                obtain ⟨a0, a1, a2, a3, a4, a5, af⟩ := block_cells6 qA
                obtain ⟨b0, b1, b2, b3, b4, b5, bf⟩ := block_cells6 qB
                go_wp2_with fail
                obtain ⟨w5, hw5⟩ : ∃ W, W = (((v3.setCell ⟨v1.heap.size, 0, none⟩ (.int .i64 (k : Int))).setCell ⟨v1.heap.size, 1, none⟩ (.int .i64 xb2)).setCell ⟨v1.heap.size, 2, none⟩ (.int .i64 xc2)) := ⟨_, rfl⟩
                rw [← hw5]
                have G5 : v3.grownBy w5 (some v1.heap.size) := by rw [hw5]; exact grown_setB (grown_setB (grown_setB grown_reflB))
                replace qX : w5.heap[v1.heap.size]? = some (.cells #[.int .i64 (k : Int), .int .i64 xb2, .int .i64 xc2] 26 (0, 0)) := by rw [hw5]; exact set3_new qX
                replace qA := (G5.block _ (lt_of_block qA) (fun e => by injection e with e; omega)).trans qA
                replace qB := (G5.block _ (lt_of_block qB) (fun e => by injection e with e; omega)).trans qB
                replace qY := (G5.block _ (lt_of_block qY) (fun e => by injection e with e; omega)).trans qY
                replace BK := below_grownB BK G5 BK.size (by omega)
                clear hw5 G5 x0 x1 x2 xf
                clear a0 a1 a2 a3 a4 a5 af b0 b1 b2 b3 b4 b5 bf
                refine (C4.out _ BK).mono ?_
                rintro e v4 ⟨rfl, g⟩
                replace qA := kp g qA
                replace qB := kp g qB
                replace qX := kp g qX
                replace qY := kp g qY
                replace BK := chain BK g
                clear g
                obtain ⟨y0, y1, y2, yf⟩ := block_cells3 qY
                obtain ⟨x0, x1, x2, xf⟩ := block_cells3 qX
                obtain ⟨a0, a1, a2, a3, a4, a5, af⟩ := block_cells6 qA
                obtain ⟨b0, b1, b2, b3, b4, b5, bf⟩ := block_cells6 qB
                have BE := Lib.hid (below_grownB BK (grown_setB (i := 2) (u := .int .i64 0) (grown_setB (i := 1) (u := .int .i64 0) (grown_setB (i := 0) (u := .int .i64 0) (grown_reflB (r := some v2.heap.size))))) BK.size (by omega))
                clear qA qB qX BK
                go_wp2_with fail
                exact ⟨⟨k + 1, by omega, by push_cast; rfl, cnt_no HB1.out, cnt_no HB2.out, BE.out⟩, by simp [intOf]; omega⟩
              | some y =>
                obtain ⟨yb2, yc2, e2⟩ : ∃ yb yc, y = ⟨(k : Int), yb, yc⟩ := ⟨_, _, vo_fr r2⟩
                subst e2
                have HB20 := both_some (vw := av) o2 r2
                by_cases hv2 : xb2 = yb2
                · obtain rfl : xb2 = yb2 := hv2
                  by_cases ht2 : xc2 = yc2
                  · obtain rfl : xc2 = yc2 := ht2
                    have HB2 := Lib.hid (show bothB ac bc av (k : Int) = false by rw [HB20]; simp)
                    clear HB20
                    have C3 := Lib.hid (fun w' (g : Below W1.heap.size W1 w') => votes_some (.slice p2 l2 c2) ac (k : Int) xb2 xc2 w' (RdT.below RAc.out g (Nat.le_refl _)) o2)
                    have C4 := Lib.hid (fun w' (g : Below W1.heap.size W1 w') => votes_some (.slice p4 l4 c4) bc (k : Int) xb2 xc2 w' (RdT.below RBc.out g (Nat.le_refl _)) r2)
                    clear o2 r2
                    refine (C3.out _ BK).mono ?_
                    rintro e v3 ⟨rfl, g⟩
                    replace qA := kp g qA
                    replace qB := kp g qB
                    replace qX := kp g qX
                    replace qY := kp g qY
                    replace BK := chain BK g
                    clear g
                    obtain ⟨x0, x1, x2, xf⟩ := block_cells3 qX
                    obtain ⟨a0, a1, a2, a3, a4, a5, af⟩ := block_cells6 qA
                    obtain ⟨b0, b1, b2, b3, b4, b5, bf⟩ := block_cells6 qB
                    go_wp2_with fail
                    obtain ⟨w5, hw5⟩ : ∃ W, W = (((v3.setCell ⟨v1.heap.size, 0, none⟩ (.int .i64 (k : Int))).setCell ⟨v1.heap.size, 1, none⟩ (.int .i64 xb2)).setCell ⟨v1.heap.size, 2, none⟩ (.int .i64 xc2)) := ⟨_, rfl⟩
                    rw [← hw5]
                    have G5 : v3.grownBy w5 (some v1.heap.size) := by rw [hw5]; exact grown_setB (grown_setB (grown_setB grown_reflB))
                    replace qX : w5.heap[v1.heap.size]? = some (.cells #[.int .i64 (k : Int), .int .i64 xb2, .int .i64 xc2] 26 (0, 0)) := by rw [hw5]; exact set3_new qX
                    replace qA := (G5.block _ (lt_of_block qA) (fun e => by injection e with e; omega)).trans qA
                    replace qB := (G5.block _ (lt_of_block qB) (fun e => by injection e with e; omega)).trans qB
                    replace qY := (G5.block _ (lt_of_block qY) (fun e => by injection e with e; omega)).trans qY
                    replace BK := below_grownB BK G5 BK.size (by omega)
                    clear hw5 G5 x0 x1 x2 xf
                    clear a0 a1 a2 a3 a4 a5 af b0 b1 b2 b3 b4 b5 bf
                    refine (C4.out _ BK).mono ?_
                    rintro e v4 ⟨rfl, g⟩
                    replace qA := kp g qA
                    replace qB := kp g qB
                    replace qX := kp g qX
                    replace qY := kp g qY
                    replace BK := chain BK g
                    clear g
                    obtain ⟨y0, y1, y2, yf⟩ := block_cells3 qY
                    obtain ⟨x0, x1, x2, xf⟩ := block_cells3 qX
                    obtain ⟨a0, a1, a2, a3, a4, a5, af⟩ := block_cells6 qA
                    obtain ⟨b0, b1, b2, b3, b4, b5, bf⟩ := block_cells6 qB
                    have BE := Lib.hid (below_grownB BK (grown_setB (i := 2) (u := .int .i64 xc2) (grown_setB (i := 1) (u := .int .i64 xb2) (grown_setB (i := 0) (u := .int .i64 (k : Int)) (grown_reflB (r := some v2.heap.size))))) BK.size (by omega))
                    clear qA qB qX BK
                    go_wp2_with fail
                    exact ⟨⟨k + 1, by omega, by push_cast; rfl, cnt_no HB1.out, cnt_no HB2.out, BE.out⟩, by simp [intOf]; omega⟩
                  · by_cases hw2 : xb2 = av
                    · have HB2 := Lib.hid (show bothB ac bc av (k : Int) = true by rw [HB20]; simp [ht2, hw2])
                      have fw2 : (xb2 == av) = true := by simpa using hw2
                      clear HB20 hw2
                      have C3 := Lib.hid (fun w' (g : Below W1.heap.size W1 w') => votes_some (.slice p2 l2 c2) ac (k : Int) xb2 xc2 w' (RdT.below RAc.out g (Nat.le_refl _)) o2)
                      have C4 := Lib.hid (fun w' (g : Below W1.heap.size W1 w') => votes_some (.slice p4 l4 c4) bc (k : Int) xb2 yc2 w' (RdT.below RBc.out g (Nat.le_refl _)) r2)
                      clear o2 r2
                      refine (C3.out _ BK).mono ?_
                      rintro e v3 ⟨rfl, g⟩
                      replace qA := kp g qA
                      replace qB := kp g qB
                      replace qX := kp g qX
                      replace qY := kp g qY
                      replace BK := chain BK g
                      clear g
                      obtain ⟨x0, x1, x2, xf⟩ := block_cells3 qX
                      obtain ⟨a0, a1, a2, a3, a4, a5, af⟩ := block_cells6 qA
                      obtain ⟨b0, b1, b2, b3, b4, b5, bf⟩ := block_cells6 qB
                      go_wp2_with fail
                      obtain ⟨w5, hw5⟩ : ∃ W, W = (((v3.setCell ⟨v1.heap.size, 0, none⟩ (.int .i64 (k : Int))).setCell ⟨v1.heap.size, 1, none⟩ (.int .i64 xb2)).setCell ⟨v1.heap.size, 2, none⟩ (.int .i64 xc2)) := ⟨_, rfl⟩
                      rw [← hw5]
                      have G5 : v3.grownBy w5 (some v1.heap.size) := by rw [hw5]; exact grown_setB (grown_setB (grown_setB grown_reflB))
                      replace qX : w5.heap[v1.heap.size]? = some (.cells #[.int .i64 (k : Int), .int .i64 xb2, .int .i64 xc2] 26 (0, 0)) := by rw [hw5]; exact set3_new qX
                      replace qA := (G5.block _ (lt_of_block qA) (fun e => by injection e with e; omega)).trans qA
                      replace qB := (G5.block _ (lt_of_block qB) (fun e => by injection e with e; omega)).trans qB
                      replace qY := (G5.block _ (lt_of_block qY) (fun e => by injection e with e; omega)).trans qY
                      replace BK := below_grownB BK G5 BK.size (by omega)
                      clear hw5 G5 x0 x1 x2 xf
                      clear a0 a1 a2 a3 a4 a5 af b0 b1 b2 b3 b4 b5 bf
                      refine (C4.out _ BK).mono ?_
                      rintro e v4 ⟨rfl, g⟩
                      replace qA := kp g qA
                      replace qB := kp g qB
                      replace qX := kp g qX
                      replace qY := kp g qY
                      replace BK := chain BK g
                      clear g
                      obtain ⟨y0, y1, y2, yf⟩ := block_cells3 qY
                      obtain ⟨x0, x1, x2, xf⟩ := block_cells3 qX
                      obtain ⟨a0, a1, a2, a3, a4, a5, af⟩ := block_cells6 qA
                      obtain ⟨b0, b1, b2, b3, b4, b5, bf⟩ := block_cells6 qB
                      have BE := Lib.hid (below_grownB BK (grown_setB (i := 2) (u := .int .i64 yc2) (grown_setB (i := 1) (u := .int .i64 xb2) (grown_setB (i := 0) (u := .int .i64 (k : Int)) (grown_reflB (r := some v2.heap.size))))) BK.size (by omega))
                      clear qA qB qX BK
                      go_wp2_with fail
                      exact ⟨⟨k + 1, by omega, by push_cast; rfl, cnt_no HB1.out, cnt_yes HB2.out, BE.out⟩, by simp [intOf]; omega⟩
                    · have HB2 := Lib.hid (show bothB ac bc av (k : Int) = false by rw [HB20]; simp [hw2])
                      have fw2 : (xb2 == av) = false := by simpa using hw2
                      clear HB20 hw2
                      have C3 := Lib.hid (fun w' (g : Below W1.heap.size W1 w') => votes_some (.slice p2 l2 c2) ac (k : Int) xb2 xc2 w' (RdT.below RAc.out g (Nat.le_refl _)) o2)
                      have C4 := Lib.hid (fun w' (g : Below W1.heap.size W1 w') => votes_some (.slice p4 l4 c4) bc (k : Int) xb2 yc2 w' (RdT.below RBc.out g (Nat.le_refl _)) r2)
                      clear o2 r2
                      refine (C3.out _ BK).mono ?_
                      rintro e v3 ⟨rfl, g⟩
                      replace qA := kp g qA
                      replace qB := kp g qB
                      replace qX := kp g qX
                      replace qY := kp g qY
                      replace BK := chain BK g
                      clear g
                      obtain ⟨x0, x1, x2, xf⟩ := block_cells3 qX
                      obtain ⟨a0, a1, a2, a3, a4, a5, af⟩ := block_cells6 qA
                      obtain ⟨b0, b1, b2, b3, b4, b5, bf⟩ := block_cells6 qB
                      go_wp2_with fail
                      obtain ⟨w5, hw5⟩ : ∃ W, W = (((v3.setCell ⟨v1.heap.size, 0, none⟩ (.int .i64 (k : Int))).setCell ⟨v1.heap.size, 1, none⟩ (.int .i64 xb2)).setCell ⟨v1.heap.size, 2, none⟩ (.int .i64 xc2)) := ⟨_, rfl⟩
                      rw [← hw5]
                      have G5 : v3.grownBy w5 (some v1.heap.size) := by rw [hw5]; exact grown_setB (grown_setB (grown_setB grown_reflB))
                      replace qX : w5.heap[v1.heap.size]? = some (.cells #[.int .i64 (k : Int), .int .i64 xb2, .int .i64 xc2] 26 (0, 0)) := by rw [hw5]; exact set3_new qX
                      replace qA := (G5.block _ (lt_of_block qA) (fun e => by injection e with e; omega)).trans qA
                      replace qB := (G5.block _ (lt_of_block qB) (fun e => by injection e with e; omega)).trans qB
                      replace qY := (G5.block _ (lt_of_block qY) (fun e => by injection e with e; omega)).trans qY
                      replace BK := below_grownB BK G5 BK.size (by omega)
                      clear hw5 G5 x0 x1 x2 xf
                      clear a0 a1 a2 a3 a4 a5 af b0 b1 b2 b3 b4 b5 bf
                      refine (C4.out _ BK).mono ?_
                      rintro e v4 ⟨rfl, g⟩
                      replace qA := kp g qA
                      replace qB := kp g qB
                      replace qX := kp g qX
                      replace qY := kp g qY
                      replace BK := chain BK g
                      clear g
                      obtain ⟨y0, y1, y2, yf⟩ := block_cells3 qY
                      obtain ⟨x0, x1, x2, xf⟩ := block_cells3 qX
                      obtain ⟨a0, a1, a2, a3, a4, a5, af⟩ := block_cells6 qA
                      obtain ⟨b0, b1, b2, b3, b4, b5, bf⟩ := block_cells6 qB
                      have BE := Lib.hid (below_grownB BK (grown_setB (i := 2) (u := .int .i64 yc2) (grown_setB (i := 1) (u := .int .i64 xb2) (grown_setB (i := 0) (u := .int .i64 (k : Int)) (grown_reflB (r := some v2.heap.size))))) BK.size (by omega))
                      clear qA qB qX BK
                      go_wp2_with fail
                      exact ⟨⟨k + 1, by omega, by push_cast; rfl, cnt_no HB1.out, cnt_no HB2.out, BE.out⟩, by simp [intOf]; omega⟩
                · by_cases hw2 : xb2 = av
                  · have hz2 : ¬ yb2 = av := fun e => hv2 (hw2.trans e.symm)
                    have HB2 := Lib.hid (show bothB ac bc av (k : Int) = false by rw [HB20]; simp [hz2])
                    have fw2 : (xb2 == av) = true := by simpa using hw2
                    have fz2 : (yb2 == av) = false := by simpa using hz2
                    clear HB20 hw2 hz2
                    have C3 := Lib.hid (fun w' (g : Below W1.heap.size W1 w') => votes_some (.slice p2 l2 c2) ac (k : Int) xb2 xc2 w' (RdT.below RAc.out g (Nat.le_refl _)) o2)
                    have C4 := Lib.hid (fun w' (g : Below W1.heap.size W1 w') => votes_some (.slice p4 l4 c4) bc (k : Int) yb2 yc2 w' (RdT.below RBc.out g (Nat.le_refl _)) r2)
                    clear o2 r2
                    refine (C3.out _ BK).mono ?_
                    rintro e v3 ⟨rfl, g⟩
                    replace qA := kp g qA
                    replace qB := kp g qB
                    replace qX := kp g qX
                    replace qY := kp g qY
                    replace BK := chain BK g
                    clear g
                    obtain ⟨x0, x1, x2, xf⟩ := block_cells3 qX
                    obtain ⟨a0, a1, a2, a3, a4, a5, af⟩ := block_cells6 qA
                    obtain ⟨b0, b1, b2, b3, b4, b5, bf⟩ := block_cells6 qB
                    go_wp2_with fail
                    obtain ⟨w5, hw5⟩ : ∃ W, W = (((v3.setCell ⟨v1.heap.size, 0, none⟩ (.int .i64 (k : Int))).setCell ⟨v1.heap.size, 1, none⟩ (.int .i64 xb2)).setCell ⟨v1.heap.size, 2, none⟩ (.int .i64 xc2)) := ⟨_, rfl⟩
                    rw [← hw5]
                    have G5 : v3.grownBy w5 (some v1.heap.size) := by rw [hw5]; exact grown_setB (grown_setB (grown_setB grown_reflB))
                    replace qX : w5.heap[v1.heap.size]? = some (.cells #[.int .i64 (k : Int), .int .i64 xb2, .int .i64 xc2] 26 (0, 0)) := by rw [hw5]; exact set3_new qX
                    replace qA := (G5.block _ (lt_of_block qA) (fun e => by injection e with e; omega)).trans qA
                    replace qB := (G5.block _ (lt_of_block qB) (fun e => by injection e with e; omega)).trans qB
                    replace qY := (G5.block _ (lt_of_block qY) (fun e => by injection e with e; omega)).trans qY
                    replace BK := below_grownB BK G5 BK.size (by omega)
                    clear hw5 G5 x0 x1 x2 xf
                    clear a0 a1 a2 a3 a4 a5 af b0 b1 b2 b3 b4 b5 bf
                    refine (C4.out _ BK).mono ?_
                    rintro e v4 ⟨rfl, g⟩
                    replace qA := kp g qA
                    replace qB := kp g qB
                    replace qX := kp g qX
                    replace qY := kp g qY
                    replace BK := chain BK g
                    clear g
                    obtain ⟨y0, y1, y2, yf⟩ := block_cells3 qY
                    obtain ⟨x0, x1, x2, xf⟩ := block_cells3 qX
                    obtain ⟨a0, a1, a2, a3, a4, a5, af⟩ := block_cells6 qA
                    obtain ⟨b0, b1, b2, b3, b4, b5, bf⟩ := block_cells6 qB
                    have BE := Lib.hid (below_grownB BK (grown_setB (i := 2) (u := .int .i64 yc2) (grown_setB (i := 1) (u := .int .i64 yb2) (grown_setB (i := 0) (u := .int .i64 (k : Int)) (grown_reflB (r := some v2.heap.size))))) BK.size (by omega))
                    clear qA qB qX BK
                    go_wp2_with fail
                    exact ⟨⟨k + 1, by omega, by push_cast; rfl, cnt_no HB1.out, cnt_no HB2.out, BE.out⟩, by simp [intOf]; omega⟩
                  · have HB2 := Lib.hid (show bothB ac bc av (k : Int) = false by rw [HB20]; simp [hw2])
                    have fw2 : (xb2 == av) = false := by simpa using hw2
                    clear HB20 hw2
                    have C3 := Lib.hid (fun w' (g : Below W1.heap.size W1 w') => votes_some (.slice p2 l2 c2) ac (k : Int) xb2 xc2 w' (RdT.below RAc.out g (Nat.le_refl _)) o2)
                    have C4 := Lib.hid (fun w' (g : Below W1.heap.size W1 w') => votes_some (.slice p4 l4 c4) bc (k : Int) yb2 yc2 w' (RdT.below RBc.out g (Nat.le_refl _)) r2)
                    clear o2 r2
                    refine (C3.out _ BK).mono ?_
                    rintro e v3 ⟨rfl, g⟩
                    replace qA := kp g qA
                    replace qB := kp g qB
                    replace qX := kp g qX
                    replace qY := kp g qY
                    replace BK := chain BK g
                    clear g
                    obtain ⟨x0, x1, x2, xf⟩ := block_cells3 qX
                    obtain ⟨a0, a1, a2, a3, a4, a5, af⟩ := block_cells6 qA
                    obtain ⟨b0, b1, b2, b3, b4, b5, bf⟩ := block_cells6 qB
                    go_wp2_with fail
                    obtain ⟨w5, hw5⟩ : ∃ W, W = (((v3.setCell ⟨v1.heap.size, 0, none⟩ (.int .i64 (k : Int))).setCell ⟨v1.heap.size, 1, none⟩ (.int .i64 xb2)).setCell ⟨v1.heap.size, 2, none⟩ (.int .i64 xc2)) := ⟨_, rfl⟩
                    rw [← hw5]
                    have G5 : v3.grownBy w5 (some v1.heap.size) := by rw [hw5]; exact grown_setB (grown_setB (grown_setB grown_reflB))
                    replace qX : w5.heap[v1.heap.size]? = some (.cells #[.int .i64 (k : Int), .int .i64 xb2, .int .i64 xc2] 26 (0, 0)) := by rw [hw5]; exact set3_new qX
                    replace qA := (G5.block _ (lt_of_block qA) (fun e => by injection e with e; omega)).trans qA
                    replace qB := (G5.block _ (lt_of_block qB) (fun e => by injection e with e; omega)).trans qB
                    replace qY := (G5.block _ (lt_of_block qY) (fun e => by injection e with e; omega)).trans qY
                    replace BK := below_grownB BK G5 BK.size (by omega)
                    clear hw5 G5 x0 x1 x2 xf
                    clear a0 a1 a2 a3 a4 a5 af b0 b1 b2 b3 b4 b5 bf
                    refine (C4.out _ BK).mono ?_
                    rintro e v4 ⟨rfl, g⟩
                    replace qA := kp g qA
                    replace qB := kp g qB
                    replace qX := kp g qX
                    replace qY := kp g qY
                    replace BK := chain BK g
                    clear g
                    obtain ⟨y0, y1, y2, yf⟩ := block_cells3 qY
                    obtain ⟨x0, x1, x2, xf⟩ := block_cells3 qX
                    obtain ⟨a0, a1, a2, a3, a4, a5, af⟩ := block_cells6 qA
                    obtain ⟨b0, b1, b2, b3, b4, b5, bf⟩ := block_cells6 qB
                    have BE := Lib.hid (below_grownB BK (grown_setB (i := 2) (u := .int .i64 yc2) (grown_setB (i := 1) (u := .int .i64 yb2) (grown_setB (i := 0) (u := .int .i64 (k : Int)) (grown_reflB (r := some v2.heap.size))))) BK.size (by omega))
                    clear qA qB qX BK
                    go_wp2_with fail
                    exact ⟨⟨k + 1, by omega, by push_cast; rfl, cnt_no HB1.out, cnt_no HB2.out, BE.out⟩, by simp [intOf]; omega⟩
        | some y =>
          obtain ⟨yb1, yc1, e1⟩ : ∃ yb yc, y = ⟨(k : Int), yb, yc⟩ := ⟨_, _, vo_fr r1⟩
          subst e1
          have HB10 := both_some (vw := av) o1 r1
          by_cases hv1 : xb1 = yb1
          · obtain rfl : xb1 = yb1 := hv1
            by_cases ht1 : xc1 = yc1
            · obtain rfl : xc1 = yc1 := ht1
              have HB1 := Lib.hid (show bothB ap bp av (k : Int) = false by rw [HB10]; simp)
              clear HB10
              as_aux_lemma =>
                have C1 := Lib.hid (fun w' (g : Below W1.heap.size W1 w') => votes_some (.slice p1 l1 c1) ap (k : Int) xb1 xc1 w' (RdT.below RAp.out g (Nat.le_refl _)) o1)
                have C2 := Lib.hid (fun w' (g : Below W1.heap.size W1 w') => votes_some (.slice p3 l3 c3) bp (k : Int) xb1 xc1 w' (RdT.below RBp.out g (Nat.le_refl _)) r1)
                clear o1 r1
                obtain ⟨a0, a1, a2, a3, a4, a5, af⟩ := block_cells6 qA
                obtain ⟨b0, b1, b2, b3, b4, b5, bf⟩ := block_cells6 qB
                go_wp2_with fail
                refine (C1.out _ BK).mono ?_
                rintro e v1 ⟨rfl, g⟩
                replace qA := kp g qA
                replace qB := kp g qB
                replace BK := chain BK g
                clear g
                clear a0 a1 a2 a3 a4 a5 af b0 b1 b2 b3 b4 b5 bf
                obtain ⟨a0, a1, a2, a3, a4, a5, af⟩ := block_cells6 qA
                obtain ⟨b0, b1, b2, b3, b4, b5, bf⟩ := block_cells6 qB
                have hX := BK.size
                have qX : (v1.alloc (.cells #[.int .i64 (k : Int), .int .i64 xb1, .int .i64 xc1] 26)).heap[v1.heap.size]? = some (.cells #[.int .i64 (k : Int), .int .i64 xb1, .int .i64 xc1] 26 (0, 0)) := heap_alloc_new _ _
                replace qA := ko (.cells #[.int .i64 (k : Int), .int .i64 xb1, .int .i64 xc1] 26) qA
                replace qB := ko (.cells #[.int .i64 (k : Int), .int .i64 xb1, .int .i64 xc1] 26) qB
                replace BK := BK.alloc BK.size (.cells #[.int .i64 (k : Int), .int .i64 xb1, .int .i64 xc1] 26)
                clear a0 a1 a2 a3 a4 a5 af b0 b1 b2 b3 b4 b5 bf
                obtain ⟨a0, a1, a2, a3, a4, a5, af⟩ := block_cells6 qA
                obtain ⟨b0, b1, b2, b3, b4, b5, bf⟩ := block_cells6 qB
                go_wp2_with fail
                refine (C2.out _ BK).mono ?_
                rintro e v2 ⟨rfl, g⟩
                replace qA := kp g qA
                replace qB := kp g qB
                replace qX := kp g qX
                replace BK := chain BK g
                clear g
                have hY := BK.size
                have hXY := lt_of_block qX
                have qY : (v2.alloc (.cells #[.int .i64 (k : Int), .int .i64 xb1, .int .i64 xc1] 26)).heap[v2.heap.size]? = some (.cells #[.int .i64 (k : Int), .int .i64 xb1, .int .i64 xc1] 26 (0, 0)) := heap_alloc_new _ _
                replace qX := ko (.cells #[.int .i64 (k : Int), .int .i64 xb1, .int .i64 xc1] 26) qX
                replace qA := ko (.cells #[.int .i64 (k : Int), .int .i64 xb1, .int .i64 xc1] 26) qA
                replace qB := ko (.cells #[.int .i64 (k : Int), .int .i64 xb1, .int .i64 xc1] 26) qB
                replace BK := BK.alloc BK.size (.cells #[.int .i64 (k : Int), .int .i64 xb1, .int .i64 xc1] 26)
                obtain ⟨x0, x1, x2, xf⟩ := block_cells3 qX
                obtain ⟨y0, y1, y2, yf⟩ := block_cells3 qY
                clear a0 a1 a2 a3 a4 a5 af b0 b1 b2 b3 b4 b5 bf
                obtain ⟨a0, a1, a2, a3, a4, a5, af⟩ := block_cells6 qA
                obtain ⟨b0, b1, b2, b3, b4, b5, bf⟩ := block_cells6 qB
                go_wp2_with fail
                clear x0 x1 x2 xf y0 y1 y2 yf
                clear a0 a1 a2 a3 a4 a5 af b0 b1 b2 b3 b4 b5 bf
                cases o2 : voOf ac (k : Int) with
                | none =>
                  have HB2 := Lib.hid (both_none1 (lb := bc) (vw := av) o2)
                  cases r2 : voOf bc (k : Int) with
                  | none =>
                    have C3 := Lib.hid (fun w' (g : Below W1.heap.size W1 w') => votes_none (.slice p2 l2 c2) ac (k : Int) w' (RdT.below RAc.out g (Nat.le_refl _)) o2)
                    have C4 := Lib.hid (fun w' (g : Below W1.heap.size W1 w') => votes_none (.slice p4 l4 c4) bc (k : Int) w' (RdT.below RBc.out g (Nat.le_refl _)) r2)
                    clear o2 r2
                    refine (C3.out _ BK).mono ?_
                    rintro e v3 ⟨rfl, g⟩
                    replace qA := kp g qA
                    replace qB := kp g qB
                    replace qX := kp g qX
                    replace qY := kp g qY
                    replace BK := chain BK g
                    clear g
                    obtain ⟨x0, x1, x2, xf⟩ := block_cells3 qX
                    obtain ⟨a0, a1, a2, a3, a4, a5, af⟩ := block_cells6 qA
                    obtain ⟨b0, b1, b2, b3, b4, b5, bf⟩ := block_cells6 qB
                    go_wp2_with fail
                    obtain ⟨w5, hw5⟩ : ∃ W, W = (((v3.setCell ⟨v1.heap.size, 0, none⟩ (.int .i64 0)).setCell ⟨v1.heap.size, 1, none⟩ (.int .i64 0)).setCell ⟨v1.heap.size, 2, none⟩ (.int .i64 0)) := ⟨_, rfl⟩
                    rw [← hw5]
                    have G5 : v3.grownBy w5 (some v1.heap.size) := by rw [hw5]; exact grown_setB (grown_setB (grown_setB grown_reflB))
                    replace qX : w5.heap[v1.heap.size]? = some (.cells #[.int .i64 0, .int .i64 0, .int .i64 0] 26 (0, 0)) := by rw [hw5]; exact set3_new qX
                    replace qA := (G5.block _ (lt_of_block qA) (fun e => by injection e with e; omega)).trans qA
                    replace qB := (G5.block _ (lt_of_block qB) (fun e => by injection e with e; omega)).trans qB
                    replace qY := (G5.block _ (lt_of_block qY) (fun e => by injection e with e; omega)).trans qY
                    replace BK := below_grownB BK G5 BK.size (by omega)
                    clear hw5 G5 x0 x1 x2 xf
                    clear a0 a1 a2 a3 a4 a5 af b0 b1 b2 b3 b4 b5 bf
                    refine (C4.out _ BK).mono ?_
                    rintro e v4 ⟨rfl, g⟩
                    replace qA := kp g qA
                    replace qB := kp g qB
                    replace qX := kp g qX
                    replace qY := kp g qY
                    replace BK := chain BK g
                    clear g
                    obtain ⟨y0, y1, y2, yf⟩ := block_cells3 qY
                    obtain ⟨x0, x1, x2, xf⟩ := block_cells3 qX
                    obtain ⟨a0, a1, a2, a3, a4, a5, af⟩ := block_cells6 qA
                    obtain ⟨b0, b1, b2, b3, b4, b5, bf⟩ := block_cells6 qB
                    have BE := Lib.hid (below_grownB BK (grown_setB (i := 2) (u := .int .i64 0) (grown_setB (i := 1) (u := .int .i64 0) (grown_setB (i := 0) (u := .int .i64 0) (grown_reflB (r := some v2.heap.size))))) BK.size (by omega))
                    clear qA qB qX BK
                    go_wp2_with fail
                    exact ⟨⟨k + 1, by omega, by push_cast; rfl, cnt_no HB1.out, cnt_no HB2.out, BE.out⟩, by simp [intOf]; omega⟩
                  | some y =>
                    obtain ⟨yb2, yc2, e2⟩ : ∃ yb yc, y = ⟨(k : Int), yb, yc⟩ := ⟨_, _, vo_fr r2⟩
                    subst e2
                    have C3 := Lib.hid (fun w' (g : Below W1.heap.size W1 w') => votes_none (.slice p2 l2 c2) ac (k : Int) w' (RdT.below RAc.out g (Nat.le_refl _)) o2)
                    have C4 := Lib.hid (fun w' (g : Below W1.heap.size W1 w') => votes_some (.slice p4 l4 c4) bc (k : Int) yb2 yc2 w' (RdT.below RBc.out g (Nat.le_refl _)) r2)
                    clear o2 r2
                    refine (C3.out _ BK).mono ?_
                    rintro e v3 ⟨rfl, g⟩
                    replace qA := kp g qA
                    replace qB := kp g qB
                    replace qX := kp g qX
                    replace qY := kp g qY
                    replace BK := chain BK g
                    clear g
                    obtain ⟨x0, x1, x2, xf⟩ := block_cells3 qX
                    obtain ⟨a0, a1, a2, a3, a4, a5, af⟩ := block_cells6 qA
                    obtain ⟨b0, b1, b2, b3, b4, b5, bf⟩ := block_cells6 qB
                    go_wp2_with fail
                    obtain ⟨w5, hw5⟩ : ∃ W, W = (((v3.setCell ⟨v1.heap.size, 0, none⟩ (.int .i64 0)).setCell ⟨v1.heap.size, 1, none⟩ (.int .i64 0)).setCell ⟨v1.heap.size, 2, none⟩ (.int .i64 0)) := ⟨_, rfl⟩
                    rw [← hw5]
                    have G5 : v3.grownBy w5 (some v1.heap.size) := by rw [hw5]; exact grown_setB (grown_setB (grown_setB grown_reflB))
                    replace qX : w5.heap[v1.heap.size]? = some (.cells #[.int .i64 0, .int .i64 0, .int .i64 0] 26 (0, 0)) := by rw [hw5]; exact set3_new qX
                    replace qA := (G5.block _ (lt_of_block qA) (fun e => by injection e with e; omega)).trans qA
                    replace qB := (G5.block _ (lt_of_block qB) (fun e => by injection e with e; omega)).trans qB
                    replace qY := (G5.block _ (lt_of_block qY) (fun e => by injection e with e; omega)).trans qY
                    replace BK := below_grownB BK G5 BK.size (by omega)
                    clear hw5 G5 x0 x1 x2 xf
                    clear a0 a1 a2 a3 a4 a5 af b0 b1 b2 b3 b4 b5 bf
                    refine (C4.out _ BK).mono ?_
                    rintro e v4 ⟨rfl, g⟩
                    replace qA := kp g qA
                    replace qB := kp g qB
                    replace qX := kp g qX
                    replace qY := kp g qY
                    replace BK := chain BK g
                    clear g
                    obtain ⟨y0, y1, y2, yf⟩ := block_cells3 qY
                    obtain ⟨x0, x1, x2, xf⟩ := block_cells3 qX
                    obtain ⟨a0, a1, a2, a3, a4, a5, af⟩ := block_cells6 qA
                    obtain ⟨b0, b1, b2, b3, b4, b5, bf⟩ := block_cells6 qB
                    have BE := Lib.hid (below_grownB BK (grown_setB (i := 2) (u := .int .i64 yc2) (grown_setB (i := 1) (u := .int .i64 yb2) (grown_setB (i := 0) (u := .int .i64 (k : Int)) (grown_reflB (r := some v2.heap.size))))) BK.size (by omega))
                    clear qA qB qX BK
                    go_wp2_with fail
                    exact ⟨⟨k + 1, by omega, by push_cast; rfl, cnt_no HB1.out, cnt_no HB2.out, BE.out⟩, by simp [intOf]; omega⟩
                | some x =>
                  obtain ⟨xb2, xc2, f2⟩ : ∃ xb xc, x = ⟨(k : Int), xb, xc⟩ := ⟨_, _, vo_fr o2⟩
                  subst f2
                  cases r2 : voOf bc (k : Int) with
                  | none =>
                    have HB2 := Lib.hid (both_none2 (la := ac) (vw := av) r2)
                    have C3 := Lib.hid (fun w' (g : Below W1.heap.size W1 w') => votes_some (.slice p2 l2 c2) ac (k : Int) xb2 xc2 w' (RdT.below RAc.out g (Nat.le_refl _)) o2)
                    have C4 := Lib.hid (fun w' (g : Below W1.heap.size W1 w') => votes_none (.slice p4 l4 c4) bc (k : Int) w' (RdT.below RBc.out g (Nat.le_refl _)) r2)
                    clear o2 r2
                    refine (C3.out _ BK).mono ?_
                    rintro e v3 ⟨rfl, g⟩
                    replace qA := kp g qA
                    replace qB := kp g qB
                    replace qX := kp g qX
                    replace qY := kp g qY
                    replace BK := chain BK g
                    clear g
                    obtain ⟨x0, x1, x2, xf⟩ := block_cells3 qX
                    obtain ⟨a0, a1, a2, a3, a4, a5, af⟩ := block_cells6 qA
                    obtain ⟨b0, b1, b2, b3, b4, b5, bf⟩ := block_cells6 qB
                    go_wp2_with fail
                    obtain ⟨w5, hw5⟩ : ∃ W, W = (((v3.setCell ⟨v1.heap.size, 0, none⟩ (.int .i64 (k : Int))).setCell ⟨v1.heap.size, 1, none⟩ (.int .i64 xb2)).setCell ⟨v1.heap.size, 2, none⟩ (.int .i64 xc2)) := ⟨_, rfl⟩
                    rw [← hw5]
                    have G5 : v3.grownBy w5 (some v1.heap.size) := by rw [hw5]; exact grown_setB (grown_setB (grown_setB grown_reflB))
                    replace qX : w5.heap[v1.heap.size]? = some (.cells #[.int .i64 (k : Int), .int .i64 xb2, .int .i64 xc2] 26 (0, 0)) := by rw [hw5]; exact set3_new qX
                    replace qA := (G5.block _ (lt_of_block qA) (fun e => by injection e with e; omega)).trans qA
                    replace qB := (G5.block _ (lt_of_block qB) (fun e => by injection e with e; omega)).trans qB
                    replace qY := (G5.block _ (lt_of_block qY) (fun e => by injection e with e; omega)).trans qY
                    replace BK := below_grownB BK G5 BK.size (by omega)
                    clear hw5 G5 x0 x1 x2 xf
                    clear a0 a1 a2 a3 a4 a5 af b0 b1 b2 b3 b4 b5 bf
                    refine (C4.out _ BK).mono ?_
                    rintro e v4 ⟨rfl, g⟩
                    replace qA := kp g qA
                    replace qB := kp g qB
                    replace qX := kp g qX
                    replace qY := kp g qY
                    replace BK := chain BK g
                    clear g
                    obtain ⟨y0, y1, y2, yf⟩ := block_cells3 qY
                    obtain ⟨x0, x1, x2, xf⟩ := block_cells3 qX
                    obtain ⟨a0, a1, a2, a3, a4, a5, af⟩ := block_cells6 qA
                    obtain ⟨b0, b1, b2, b3, b4, b5, bf⟩ := block_cells6 qB
                    have BE := Lib.hid (below_grownB BK (grown_setB (i := 2) (u := .int .i64 0) (grown_setB (i := 1) (u := .int .i64 0) (grown_setB (i := 0) (u := .int .i64 0) (grown_reflB (r := some v2.heap.size))))) BK.size (by omega))
                    clear qA qB qX BK
                    go_wp2_with fail
                    exact ⟨⟨k + 1, by omega, by push_cast; rfl, cnt_no HB1.out, cnt_no HB2.out, BE.out⟩, by simp [intOf]; omega⟩
                  | some y =>
                    obtain ⟨yb2, yc2, e2⟩ : ∃ yb yc, y = ⟨(k : Int), yb, yc⟩ := ⟨_, _, vo_fr r2⟩
                    subst e2
                    have HB20 := both_some (vw := av) o2 r2
                    by_cases hv2 : xb2 = yb2
                    · obtain rfl : xb2 = yb2 := hv2
                      by_cases ht2 : xc2 = yc2
                      · obtain rfl : xc2 = yc2 := ht2
                        have HB2 := Lib.hid (show bothB ac bc av (k : Int) = false by rw [HB20]; simp)
                        clear HB20
                        have C3 := Lib.hid (fun w' (g : Below W1.heap.size W1 w') => votes_some (.slice p2 l2 c2) ac (k : Int) xb2 xc2 w' (RdT.below RAc.out g (Nat.le_refl _)) o2)
                        have C4 := Lib.hid (fun w' (g : Below W1.heap.size W1 w') => votes_some (.slice p4 l4 c4) bc (k : Int) xb2 xc2 w' (RdT.below RBc.out g (Nat.le_refl _)) r2)
                        clear o2 r2
                        refine (C3.out _ BK).mono ?_
                        rintro e v3 ⟨rfl, g⟩
                        replace qA := kp g qA
                        replace qB := kp g qB
                        replace qX := kp g qX
                        replace qY := kp g qY
                        replace BK := chain BK g
                        clear g
                        obtain ⟨x0, x1, x2, xf⟩ := block_cells3 qX
                        obtain ⟨a0, a1, a2, a3, a4, a5, af⟩ := block_cells6 qA
                        obtain ⟨b0, b1, b2, b3, b4, b5, bf⟩ := block_cells6 qB
                        go_wp2_with fail
                        obtain ⟨w5, hw5⟩ : ∃ W, W = (((v3.setCell ⟨v1.heap.size, 0, none⟩ (.int .i64 (k : Int))).setCell ⟨v1.heap.size, 1, none⟩ (.int .i64 xb2)).setCell ⟨v1.heap.size, 2, none⟩ (.int .i64 xc2)) := ⟨_, rfl⟩
                        rw [← hw5]
                        have G5 : v3.grownBy w5 (some v1.heap.size) := by rw [hw5]; exact grown_setB (grown_setB (grown_setB grown_reflB))
                        replace qX : w5.heap[v1.heap.size]? = some (.cells #[.int .i64 (k : Int), .int .i64 xb2, .int .i64 xc2] 26 (0, 0)) := by rw [hw5]; exact set3_new qX
                        replace qA := (G5.block _ (lt_of_block qA) (fun e => by injection e with e; omega)).trans qA
                        replace qB := (G5.block _ (lt_of_block qB) (fun e => by injection e with e; omega)).trans qB
                        replace qY := (G5.block _ (lt_of_block qY) (fun e => by injection e with e; omega)).trans qY
                        replace BK := below_grownB BK G5 BK.size (by omega)
                        clear hw5 G5 x0 x1 x2 xf
                        clear a0 a1 a2 a3 a4 a5 af b0 b1 b2 b3 b4 b5 bf
                        refine (C4.out _ BK).mono ?_
                        rintro e v4 ⟨rfl, g⟩
                        replace qA := kp g qA
                        replace qB := kp g qB
                        replace qX := kp g qX
                        replace qY := kp g qY
                        replace BK := chain BK g
                        clear g
                        obtain ⟨y0, y1, y2, yf⟩ := block_cells3 qY
                        obtain ⟨x0, x1, x2, xf⟩ := block_cells3 qX
                        obtain ⟨a0, a1, a2, a3, a4, a5, af⟩ := block_cells6 qA
                        obtain ⟨b0, b1, b2, b3, b4, b5, bf⟩ := block_cells6 qB
                        have BE := Lib.hid (below_grownB BK (grown_setB (i := 2) (u := .int .i64 xc2) (grown_setB (i := 1) (u := .int .i64 xb2) (grown_setB (i := 0) (u := .int .i64 (k : Int)) (grown_reflB (r := some v2.heap.size))))) BK.size (by omega))
                        clear qA qB qX BK
                        go_wp2_with fail
                        exact ⟨⟨k + 1, by omega, by push_cast; rfl, cnt_no HB1.out, cnt_no HB2.out, BE.out⟩, by simp [intOf]; omega⟩
                      · by_cases hw2 : xb2 = av
                        · have HB2 := Lib.hid (show bothB ac bc av (k : Int) = true by rw [HB20]; simp [ht2, hw2])
                          have fw2 : (xb2 == av) = true := by simpa using hw2
                          clear HB20 hw2
                          have C3 := Lib.hid (fun w' (g : Below W1.heap.size W1 w') => votes_some (.slice p2 l2 c2) ac (k : Int) xb2 xc2 w' (RdT.below RAc.out g (Nat.le_refl _)) o2)
                          have C4 := Lib.hid (fun w' (g : Below W1.heap.size W1 w') => votes_some (.slice p4 l4 c4) bc (k : Int) xb2 yc2 w' (RdT.below RBc.out g (Nat.le_refl _)) r2)
                          clear o2 r2
                          refine (C3.out _ BK).mono ?_
                          rintro e v3 ⟨rfl, g⟩
                          replace qA := kp g qA
                          replace qB := kp g qB
                          replace qX := kp g qX
                          replace qY := kp g qY
                          replace BK := chain BK g
                          clear g
                          obtain ⟨x0, x1, x2, xf⟩ := block_cells3 qX
                          obtain ⟨a0, a1, a2, a3, a4, a5, af⟩ := block_cells6 qA
                          obtain ⟨b0, b1, b2, b3, b4, b5, bf⟩ := block_cells6 qB
                          go_wp2_with fail
                          obtain ⟨w5, hw5⟩ : ∃ W, W = (((v3.setCell ⟨v1.heap.size, 0, none⟩ (.int .i64 (k : Int))).setCell ⟨v1.heap.size, 1, none⟩ (.int .i64 xb2)).setCell ⟨v1.heap.size, 2, none⟩ (.int .i64 xc2)) := ⟨_, rfl⟩
                          rw [← hw5]
                          have G5 : v3.grownBy w5 (some v1.heap.size) := by rw [hw5]; exact grown_setB (grown_setB (grown_setB grown_reflB))
                          replace qX : w5.heap[v1.heap.size]? = some (.cells #[.int .i64 (k : Int), .int .i64 xb2, .int .i64 xc2] 26 (0, 0)) := by rw [hw5]; exact set3_new qX
                          replace qA := (G5.block _ (lt_of_block qA) (fun e => by injection e with e; omega)).trans qA
                          replace qB := (G5.block _ (lt_of_block qB) (fun e => by injection e with e; omega)).trans qB
                          replace qY := (G5.block _ (lt_of_block qY) (fun e => by injection e with e; omega)).trans qY
                          replace BK := below_grownB BK G5 BK.size (by omega)
                          clear hw5 G5 x0 x1 x2 xf
                          clear a0 a1 a2 a3 a4 a5 af b0 b1 b2 b3 b4 b5 bf
                          refine (C4.out _ BK).mono ?_
                          rintro e v4 ⟨rfl, g⟩
                          replace qA := kp g qA
                          replace qB := kp g qB
                          replace qX := kp g qX
                          replace qY := kp g qY
                          replace BK := chain BK g
                          clear g
                          obtain ⟨y0, y1, y2, yf⟩ := block_cells3 qY
                          obtain ⟨x0, x1, x2, xf⟩ := block_cells3 qX
                          obtain ⟨a0, a1, a2, a3, a4, a5, af⟩ := block_cells6 qA
                          obtain ⟨b0, b1, b2, b3, b4, b5, bf⟩ := block_cells6 qB
                          have BE := Lib.hid (below_grownB BK (grown_setB (i := 2) (u := .int .i64 yc2) (grown_setB (i := 1) (u := .int .i64 xb2) (grown_setB (i := 0) (u := .int .i64 (k : Int)) (grown_reflB (r := some v2.heap.size))))) BK.size (by omega))
                          clear qA qB qX BK
                          go_wp2_with fail
                          exact ⟨⟨k + 1, by omega, by push_cast; rfl, cnt_no HB1.out, cnt_yes HB2.out, BE.out⟩, by simp [intOf]; omega⟩
                        · have HB2 := Lib.hid (show bothB ac bc av (k : Int) = false by rw [HB20]; simp [hw2])
                          have fw2 : (xb2 == av) = false := by simpa using hw2
                          clear HB20 hw2
                          have C3 := Lib.hid (fun w' (g : Below W1.heap.size W1 w') => votes_some (.slice p2 l2 c2) ac (k : Int) xb2 xc2 w' (RdT.below RAc.out g (Nat.le_refl _)) o2)
                          have C4 := Lib.hid (fun w' (g : Below W1.heap.size W1 w') => votes_some (.slice p4 l4 c4) bc (k : Int) xb2 yc2 w' (RdT.below RBc.out g (Nat.le_refl _)) r2)
                          clear o2 r2
                          refine (C3.out _ BK).mono ?_
                          rintro e v3 ⟨rfl, g⟩
                          replace qA := kp g qA
                          replace qB := kp g qB
                          replace qX := kp g qX
                          replace qY := kp g qY
                          replace BK := chain BK g
                          clear g
                          obtain ⟨x0, x1, x2, xf⟩ := block_cells3 qX
                          obtain ⟨a0, a1, a2, a3, a4, a5, af⟩ := block_cells6 qA
                          obtain ⟨b0, b1, b2, b3, b4, b5, bf⟩ := block_cells6 qB
                          go_wp2_with fail
                          obtain ⟨w5, hw5⟩ : ∃ W, W = (((v3.setCell ⟨v1.heap.size, 0, none⟩ (.int .i64 (k : Int))).setCell ⟨v1.heap.size, 1, none⟩ (.int .i64 xb2)).setCell ⟨v1.heap.size, 2, none⟩ (.int .i64 xc2)) := ⟨_, rfl⟩
                          rw [← hw5]
                          have G5 : v3.grownBy w5 (some v1.heap.size) := by rw [hw5]; exact grown_setB (grown_setB (grown_setB grown_reflB))
                          replace qX : w5.heap[v1.heap.size]? = some (.cells #[.int .i64 (k : Int), .int .i64 xb2, .int .i64 xc2] 26 (0, 0)) := by rw [hw5]; exact set3_new qX
                          replace qA := (G5.block _ (lt_of_block qA) (fun e => by injection e with e; omega)).trans qA
                          replace qB := (G5.block _ (lt_of_block qB) (fun e => by injection e with e; omega)).trans qB
                          replace qY := (G5.block _ (lt_of_block qY) (fun e => by injection e with e; omega)).trans qY
                          replace BK := below_grownB BK G5 BK.size (by omega)
                          clear hw5 G5 x0 x1 x2 xf
                          clear a0 a1 a2 a3 a4 a5 af b0 b1 b2 b3 b4 b5 bf
                          refine (C4.out _ BK).mono ?_
                          rintro e v4 ⟨rfl, g⟩
                          replace qA := kp g qA
                          replace qB := kp g qB
                          replace qX := kp g qX
                          replace qY := kp g qY
                          replace BK := chain BK g
                          clear g
                          obtain ⟨y0, y1, y2, yf⟩ := block_cells3 qY
                          obtain ⟨x0, x1, x2, xf⟩ := block_cells3 qX
                          obtain ⟨a0, a1, a2, a3, a4, a5, af⟩ := block_cells6 qA
                          obtain ⟨b0, b1, b2, b3, b4, b5, bf⟩ := block_cells6 qB
                          have BE := Lib.hid (below_grownB BK (grown_setB (i := 2) (u := .int .i64 yc2) (grown_setB (i := 1) (u := .int .i64 xb2) (grown_setB (i := 0) (u := .int .i64 (k : Int)) (grown_reflB (r := some v2.heap.size))))) BK.size (by omega))
                          clear qA qB qX BK
                          go_wp2_with fail
                          exact ⟨⟨k + 1, by omega, by push_cast; rfl, cnt_no HB1.out, cnt_no HB2.out, BE.out⟩, by simp [intOf]; omega⟩
                    · by_cases hw2 : xb2 = av
                      · have hz2 : ¬ yb2 = av := fun e => hv2 (hw2.trans e.symm)
                        have HB2 := Lib.hid (show bothB ac bc av (k : Int) = false by rw [HB20]; simp [hz2])
                        have fw2 : (xb2 == av) = true := by simpa using hw2
                        have fz2 : (yb2 == av) = false := by simpa using hz2
                        clear HB20 hw2 hz2
                        have C3 := Lib.hid (fun w' (g : Below W1.heap.size W1 w') => votes_some (.slice p2 l2 c2) ac (k : Int) xb2 xc2 w' (RdT.below RAc.out g (Nat.le_refl _)) o2)
                        have C4 := Lib.hid (fun w' (g : Below W1.heap.size W1 w') => votes_some (.slice p4 l4 c4) bc (k : Int) yb2 yc2 w' (RdT.below RBc.out g (Nat.le_refl _)) r2)
                        clear o2 r2
                        refine (C3.out _ BK).mono ?_
                        rintro e v3 ⟨rfl, g⟩
                        replace qA := kp g qA
                        replace qB := kp g qB
                        replace qX := kp g qX
                        replace qY := kp g qY
                        replace BK := chain BK g
                        clear g
                        obtain ⟨x0, x1, x2, xf⟩ := block_cells3 qX
                        obtain ⟨a0, a1, a2, a3, a4, a5, af⟩ := block_cells6 qA
                        obtain ⟨b0, b1, b2, b3, b4, b5, bf⟩ := block_cells6 qB
                        go_wp2_with fail
                        obtain ⟨w5, hw5⟩ : ∃ W, W = (((v3.setCell ⟨v1.heap.size, 0, none⟩ (.int .i64 (k : Int))).setCell ⟨v1.heap.size, 1, none⟩ (.int .i64 xb2)).setCell ⟨v1.heap.size, 2, none⟩ (.int .i64 xc2)) := ⟨_, rfl⟩
                        rw [← hw5]
                        have G5 : v3.grownBy w5 (some v1.heap.size) := by rw [hw5]; exact grown_setB (grown_setB (grown_setB grown_reflB))
                        replace qX : w5.heap[v1.heap.size]? = some (.cells #[.int .i64 (k : Int), .int .i64 xb2, .int .i64 xc2] 26 (0, 0)) := by rw [hw5]; exact set3_new qX
                        replace qA := (G5.block _ (lt_of_block qA) (fun e => by injection e with e; omega)).trans qA
                        replace qB := (G5.block _ (lt_of_block qB) (fun e => by injection e with e; omega)).trans qB
                        replace qY := (G5.block _ (lt_of_block qY) (fun e => by injection e with e; omega)).trans qY
                        replace BK := below_grownB BK G5 BK.size (by omega)
                        clear hw5 G5 x0 x1 x2 xf
                        clear a0 a1 a2 a3 a4 a5 af b0 b1 b2 b3 b4 b5 bf
                        refine (C4.out _ BK).mono ?_
                        rintro e v4 ⟨rfl, g⟩
                        replace qA := kp g qA
                        replace qB := kp g qB
                        replace qX := kp g qX
                        replace qY := kp g qY
                        replace BK := chain BK g
                        clear g
                        obtain ⟨y0, y1, y2, yf⟩ := block_cells3 qY
                        obtain ⟨x0, x1, x2, xf⟩ := block_cells3 qX
                        obtain ⟨a0, a1, a2, a3, a4, a5, af⟩ := block_cells6 qA
                        obtain ⟨b0, b1, b2, b3, b4, b5, bf⟩ := block_cells6 qB
                        have BE := Lib.hid (below_grownB BK (grown_setB (i := 2) (u := .int .i64 yc2) (grown_setB (i := 1) (u := .int .i64 yb2) (grown_setB (i := 0) (u := .int .i64 (k : Int)) (grown_reflB (r := some v2.heap.size))))) BK.size (by omega))
                        clear qA qB qX BK
                        go_wp2_with fail
                        exact ⟨⟨k + 1, by omega, by push_cast; rfl, cnt_no HB1.out, cnt_no HB2.out, BE.out⟩, by simp [intOf]; omega⟩
                      · have HB2 := Lib.hid (show bothB ac bc av (k : Int) = false by rw [HB20]; simp [hw2])
                        have fw2 : (xb2 == av) = false := by simpa using hw2
                        clear HB20 hw2
                        have C3 := Lib.hid (fun w' (g : Below W1.heap.size W1 w') => votes_some (.slice p2 l2 c2) ac (k : Int) xb2 xc2 w' (RdT.below RAc.out g (Nat.le_refl _)) o2)
                        have C4 := Lib.hid (fun w' (g : Below W1.heap.size W1 w') => votes_some (.slice p4 l4 c4) bc (k : Int) yb2 yc2 w' (RdT.below RBc.out g (Nat.le_refl _)) r2)
                        clear o2 r2
                        refine (C3.out _ BK).mono ?_
                        rintro e v3 ⟨rfl, g⟩
                        replace qA := kp g qA
                        replace qB := kp g qB
                        replace qX := kp g qX
                        replace qY := kp g qY
                        replace BK := chain BK g
                        clear g
                        obtain ⟨x0, x1, x2, xf⟩ := block_cells3 qX
                        obtain ⟨a0, a1, a2, a3, a4, a5, af⟩ := block_cells6 qA
                        obtain ⟨b0, b1, b2, b3, b4, b5, bf⟩ := block_cells6 qB
                        go_wp2_with fail
                        obtain ⟨w5, hw5⟩ : ∃ W, W = (((v3.setCell ⟨v1.heap.size, 0, none⟩ (.int .i64 (k : Int))).setCell ⟨v1.heap.size, 1, none⟩ (.int .i64 xb2)).setCell ⟨v1.heap.size, 2, none⟩ (.int .i64 xc2)) := ⟨_, rfl⟩
                        rw [← hw5]
                        have G5 : v3.grownBy w5 (some v1.heap.size) := by rw [hw5]; exact grown_setB (grown_setB (grown_setB grown_reflB))
                        replace qX : w5.heap[v1.heap.size]? = some (.cells #[.int .i64 (k : Int), .int .i64 xb2, .int .i64 xc2] 26 (0, 0)) := by rw [hw5]; exact set3_new qX
                        replace qA := (G5.block _ (lt_of_block qA) (fun e => by injection e with e; omega)).trans qA
                        replace qB := (G5.block _ (lt_of_block qB) (fun e => by injection e with e; omega)).trans qB
                        replace qY := (G5.block _ (lt_of_block qY) (fun e => by injection e with e; omega)).trans qY
                        replace BK := below_grownB BK G5 BK.size (by omega)
                        clear hw5 G5 x0 x1 x2 xf
                        clear a0 a1 a2 a3 a4 a5 af b0 b1 b2 b3 b4 b5 bf
                        refine (C4.out _ BK).mono ?_
                        rintro e v4 ⟨rfl, g⟩
                        replace qA := kp g qA
                        replace qB := kp g qB
                        replace qX := kp g qX
                        replace qY := kp g qY
                        replace BK := chain BK g
                        clear g
                        obtain ⟨y0, y1, y2, yf⟩ := block_cells3 qY
                        obtain ⟨x0, x1, x2, xf⟩ := block_cells3 qX
                        obtain ⟨a0, a1, a2, a3, a4, a5, af⟩ := block_cells6 qA
                        obtain ⟨b0, b1, b2, b3, b4, b5, bf⟩ := block_cells6 qB
                        have BE := Lib.hid (below_grownB BK (grown_setB (i := 2) (u := .int .i64 yc2) (grown_setB (i := 1) (u := .int .i64 yb2) (grown_setB (i := 0) (u := .int .i64 (k : Int)) (grown_reflB (r := some v2.heap.size))))) BK.size (by omega))
                        clear qA qB qX BK
                        go_wp2_with fail
                        exact ⟨⟨k + 1, by omega, by push_cast; rfl, cnt_no HB1.out, cnt_no HB2.out, BE.out⟩, by simp [intOf]; omega⟩
            · by_cases hw1 : xb1 = av
              · have HB1 := Lib.hid (show bothB ap bp av (k : Int) = true by rw [HB10]; simp [ht1, hw1])
                have fw1 : (xb1 == av) = true := by simpa using hw1
                clear HB10 hw1
                as_aux_lemma =>
                  have C1 := Lib.hid (fun w' (g : Below W1.heap.size W1 w') => votes_some (.slice p1 l1 c1) ap (k : Int) xb1 xc1 w' (RdT.below RAp.out g (Nat.le_refl _)) o1)
                  have C2 := Lib.hid (fun w' (g : Below W1.heap.size W1 w') => votes_some (.slice p3 l3 c3) bp (k : Int) xb1 yc1 w' (RdT.below RBp.out g (Nat.le_refl _)) r1)
                  clear o1 r1
                  obtain ⟨a0, a1, a2, a3, a4, a5, af⟩ := block_cells6 qA
                  obtain ⟨b0, b1, b2, b3, b4, b5, bf⟩ := block_cells6 qB
                  go_wp2_with fail
                  refine (C1.out _ BK).mono ?_
                  rintro e v1 ⟨rfl, g⟩
                  replace qA := kp g qA
                  replace qB := kp g qB
                  replace BK := chain BK g
                  clear g
                  clear a0 a1 a2 a3 a4 a5 af b0 b1 b2 b3 b4 b5 bf
                  obtain ⟨a0, a1, a2, a3, a4, a5, af⟩ := block_cells6 qA
                  obtain ⟨b0, b1, b2, b3, b4, b5, bf⟩ := block_cells6 qB
                  have hX := BK.size
                  have qX : (v1.alloc (.cells #[.int .i64 (k : Int), .int .i64 xb1, .int .i64 xc1] 26)).heap[v1.heap.size]? = some (.cells #[.int .i64 (k : Int), .int .i64 xb1, .int .i64 xc1] 26 (0, 0)) := heap_alloc_new _ _
                  replace qA := ko (.cells #[.int .i64 (k : Int), .int .i64 xb1, .int .i64 xc1] 26) qA
                  replace qB := ko (.cells #[.int .i64 (k : Int), .int .i64 xb1, .int .i64 xc1] 26) qB
                  replace BK := BK.alloc BK.size (.cells #[.int .i64 (k : Int), .int .i64 xb1, .int .i64 xc1] 26)
                  clear a0 a1 a2 a3 a4 a5 af b0 b1 b2 b3 b4 b5 bf
                  obtain ⟨a0, a1, a2, a3, a4, a5, af⟩ := block_cells6 qA
                  obtain ⟨b0, b1, b2, b3, b4, b5, bf⟩ := block_cells6 qB
                  go_wp2_with fail
                  refine (C2.out _ BK).mono ?_
                  rintro e v2 ⟨rfl, g⟩
                  replace qA := kp g qA
                  replace qB := kp g qB
                  replace qX := kp g qX
                  replace BK := chain BK g
                  clear g
                  have hY := BK.size
                  have hXY := lt_of_block qX
                  have qY : (v2.alloc (.cells #[.int .i64 (k : Int), .int .i64 xb1, .int .i64 yc1] 26)).heap[v2.heap.size]? = some (.cells #[.int .i64 (k : Int), .int .i64 xb1, .int .i64 yc1] 26 (0, 0)) := heap_alloc_new _ _
                  replace qX := ko (.cells #[.int .i64 (k : Int), .int .i64 xb1, .int .i64 yc1] 26) qX
                  replace qA := ko (.cells #[.int .i64 (k : Int), .int .i64 xb1, .int .i64 yc1] 26) qA
                  replace qB := ko (.cells #[.int .i64 (k : Int), .int .i64 xb1, .int .i64 yc1] 26) qB
                  replace BK := BK.alloc BK.size (.cells #[.int .i64 (k : Int), .int .i64 xb1, .int .i64 yc1] 26)
                  obtain ⟨x0, x1, x2, xf⟩ := block_cells3 qX
                  obtain ⟨y0, y1, y2, yf⟩ := block_cells3 qY
                  clear a0 a1 a2 a3 a4 a5 af b0 b1 b2 b3 b4 b5 bf
                  obtain ⟨a0, a1, a2, a3, a4, a5, af⟩ := block_cells6 qA
                  obtain ⟨b0, b1, b2, b3, b4, b5, bf⟩ := block_cells6 qB
                  go_wp2_with fail
                  clear x0 x1 x2 xf y0 y1 y2 yf
                  clear a0 a1 a2 a3 a4 a5 af b0 b1 b2 b3 b4 b5 bf
                  cases o2 : voOf ac (k : Int) with
                  | none =>
                    have HB2 := Lib.hid (both_none1 (lb := bc) (vw := av) o2)
                    cases r2 : voOf bc (k : Int) with
                    | none =>
                      have C3 := Lib.hid (fun w' (g : Below W1.heap.size W1 w') => votes_none (.slice p2 l2 c2) ac (k : Int) w' (RdT.below RAc.out g (Nat.le_refl _)) o2)
                      have C4 := Lib.hid (fun w' (g : Below W1.heap.size W1 w') => votes_none (.slice p4 l4 c4) bc (k : Int) w' (RdT.below RBc.out g (Nat.le_refl _)) r2)
                      clear o2 r2
                      refine (C3.out _ BK).mono ?_
                      rintro e v3 ⟨rfl, g⟩
                      replace qA := kp g qA
                      replace qB := kp g qB
                      replace qX := kp g qX
                      replace qY := kp g qY
                      replace BK := chain BK g
                      clear g
                      obtain ⟨x0, x1, x2, xf⟩ := block_cells3 qX
                      obtain ⟨a0, a1, a2, a3, a4, a5, af⟩ := block_cells6 qA
                      obtain ⟨b0, b1, b2, b3, b4, b5, bf⟩ := block_cells6 qB
                      go_wp2_with fail
                      obtain ⟨w5, hw5⟩ : ∃ W, W = (((v3.setCell ⟨v1.heap.size, 0, none⟩ (.int .i64 0)).setCell ⟨v1.heap.size, 1, none⟩ (.int .i64 0)).setCell ⟨v1.heap.size, 2, none⟩ (.int .i64 0)) := ⟨_, rfl⟩
                      rw [← hw5]
                      have G5 : v3.grownBy w5 (some v1.heap.size) := by rw [hw5]; exact grown_setB (grown_setB (grown_setB grown_reflB))
                      replace qX : w5.heap[v1.heap.size]? = some (.cells #[.int .i64 0, .int .i64 0, .int .i64 0] 26 (0, 0)) := by rw [hw5]; exact set3_new qX
                      replace qA := (G5.block _ (lt_of_block qA) (fun e => by injection e with e; omega)).trans qA
                      replace qB := (G5.block _ (lt_of_block qB) (fun e => by injection e with e; omega)).trans qB
                      replace qY := (G5.block _ (lt_of_block qY) (fun e => by injection e with e; omega)).trans qY
                      replace BK := below_grownB BK G5 BK.size (by omega)
                      clear hw5 G5 x0 x1 x2 xf
                      clear a0 a1 a2 a3 a4 a5 af b0 b1 b2 b3 b4 b5 bf
                      refine (C4.out _ BK).mono ?_
                      rintro e v4 ⟨rfl, g⟩
                      replace qA := kp g qA
                      replace qB := kp g qB
                      replace qX := kp g qX
                      replace qY := kp g qY
                      replace BK := chain BK g
                      clear g
                      obtain ⟨y0, y1, y2, yf⟩ := block_cells3 qY
                      obtain ⟨x0, x1, x2, xf⟩ := block_cells3 qX
                      obtain ⟨a0, a1, a2, a3, a4, a5, af⟩ := block_cells6 qA
                      obtain ⟨b0, b1, b2, b3, b4, b5, bf⟩ := block_cells6 qB
                      have BE := Lib.hid (below_grownB BK (grown_setB (i := 2) (u := .int .i64 0) (grown_setB (i := 1) (u := .int .i64 0) (grown_setB (i := 0) (u := .int .i64 0) (grown_reflB (r := some v2.heap.size))))) BK.size (by omega))
                      clear qA qB qX BK
                      go_wp2_with fail
                      exact ⟨⟨k + 1, by omega, by push_cast; rfl, cnt_yes HB1.out, cnt_no HB2.out, BE.out⟩, by simp [intOf]; omega⟩
                    | some y =>
                      obtain ⟨yb2, yc2, e2⟩ : ∃ yb yc, y = ⟨(k : Int), yb, yc⟩ := ⟨_, _, vo_fr r2⟩
                      subst e2
                      have C3 := Lib.hid (fun w' (g : Below W1.heap.size W1 w') => votes_none (.slice p2 l2 c2) ac (k : Int) w' (RdT.below RAc.out g (Nat.le_refl _)) o2)
                      have C4 := Lib.hid (fun w' (g : Below W1.heap.size W1 w') => votes_some (.slice p4 l4 c4) bc (k : Int) yb2 yc2 w' (RdT.below RBc.out g (Nat.le_refl _)) r2)
                      clear o2 r2
                      refine (C3.out _ BK).mono ?_
                      rintro e v3 ⟨rfl, g⟩
                      replace qA := kp g qA
                      replace qB := kp g qB
                      replace qX := kp g qX
                      replace qY := kp g qY
                      replace BK := chain BK g
                      clear g
                      obtain ⟨x0, x1, x2, xf⟩ := block_cells3 qX
                      obtain ⟨a0, a1, a2, a3, a4, a5, af⟩ := block_cells6 qA
                      obtain ⟨b0, b1, b2, b3, b4, b5, bf⟩ := block_cells6 qB
                      go_wp2_with fail
                      obtain ⟨w5, hw5⟩ : ∃ W, W = (((v3.setCell ⟨v1.heap.size, 0, none⟩ (.int .i64 0)).setCell ⟨v1.heap.size, 1, none⟩ (.int .i64 0)).setCell ⟨v1.heap.size, 2, none⟩ (.int .i64 0)) := ⟨_, rfl⟩
                      rw [← hw5]
                      have G5 : v3.grownBy w5 (some v1.heap.size) := by rw [hw5]; exact grown_setB (grown_setB (grown_setB grown_reflB))
                      replace qX : w5.heap[v1.heap.size]? = some (.cells #[.int .i64 0, .int .i64 0, .int .i64 0] 26 (0, 0)) := by rw [hw5]; exact set3_new qX
                      replace qA := (G5.block _ (lt_of_block qA) (fun e => by injection e with e; omega)).trans qA
                      replace qB := (G5.block _ (lt_of_block qB) (fun e => by injection e with e; omega)).trans qB
                      replace qY := (G5.block _ (lt_of_block qY) (fun e => by injection e with e; omega)).trans qY
                      replace BK := below_grownB BK G5 BK.size (by omega)
                      clear hw5 G5 x0 x1 x2 xf
                      clear a0 a1 a2 a3 a4 a5 af b0 b1 b2 b3 b4 b5 bf
                      refine (C4.out _ BK).mono ?_
                      rintro e v4 ⟨rfl, g⟩
                      replace qA := kp g qA
                      replace qB := kp g qB
                      replace qX := kp g qX
                      replace qY := kp g qY
                      replace BK := chain BK g
                      clear g
                      obtain ⟨y0, y1, y2, yf⟩ := block_cells3 qY
                      obtain ⟨x0, x1, x2, xf⟩ := block_cells3 qX
                      obtain ⟨a0, a1, a2, a3, a4, a5, af⟩ := block_cells6 qA
                      obtain ⟨b0, b1, b2, b3, b4, b5, bf⟩ := block_cells6 qB
                      have BE := Lib.hid (below_grownB BK (grown_setB (i := 2) (u := .int .i64 yc2) (grown_setB (i := 1) (u := .int .i64 yb2) (grown_setB (i := 0) (u := .int .i64 (k : Int)) (grown_reflB (r := some v2.heap.size))))) BK.size (by omega))
                      clear qA qB qX BK
                      go_wp2_with fail
                      exact ⟨⟨k + 1, by omega, by push_cast; rfl, cnt_yes HB1.out, cnt_no HB2.out, BE.out⟩, by simp [intOf]; omega⟩
                  | some x =>
                    obtain ⟨xb2, xc2, f2⟩ : ∃ xb xc, x = ⟨(k : Int), xb, xc⟩ := ⟨_, _, vo_fr o2⟩
                    subst f2
                    cases r2 : voOf bc (k : Int) with
                    | none =>
                      have HB2 := Lib.hid (both_none2 (la := ac) (vw := av) r2)
                      have C3 := Lib.hid (fun w' (g : Below W1.heap.size W1 w') => votes_some (.slice p2 l2 c2) ac (k : Int) xb2 xc2 w' (RdT.below RAc.out g (Nat.le_refl _)) o2)
                      have C4 := Lib.hid (fun w' (g : Below W1.heap.size W1 w') => votes_none (.slice p4 l4 c4) bc (k : Int) w' (RdT.below RBc.out g (Nat.le_refl _)) r2)
                      clear o2 r2
                      refine (C3.out _ BK).mono ?_
                      rintro e v3 ⟨rfl, g⟩
                      replace qA := kp g qA
                      replace qB := kp g qB
                      replace qX := kp g qX
                      replace qY := kp g qY
                      replace BK := chain BK g
                      clear g
                      obtain ⟨x0, x1, x2, xf⟩ := block_cells3 qX
                      obtain ⟨a0, a1, a2, a3, a4, a5, af⟩ := block_cells6 qA
                      obtain ⟨b0, b1, b2, b3, b4, b5, bf⟩ := block_cells6 qB
                      go_wp2_with fail
                      obtain ⟨w5, hw5⟩ : ∃ W, W = (((v3.setCell ⟨v1.heap.size, 0, none⟩ (.int .i64 (k : Int))).setCell ⟨v1.heap.size, 1, none⟩ (.int .i64 xb2)).setCell ⟨v1.heap.size, 2, none⟩ (.int .i64 xc2)) := ⟨_, rfl⟩
                      rw [← hw5]
                      have G5 : v3.grownBy w5 (some v1.heap.size) := by rw [hw5]; exact grown_setB (grown_setB (grown_setB grown_reflB))
                      replace qX : w5.heap[v1.heap.size]? = some (.cells #[.int .i64 (k : Int), .int .i64 xb2, .int .i64 xc2] 26 (0, 0)) := by rw [hw5]; exact set3_new qX
                      replace qA := (G5.block _ (lt_of_block qA) (fun e => by injection e with e; omega)).trans qA
                      replace qB := (G5.block _ (lt_of_block qB) (fun e => by injection e with e; omega)).trans qB
                      replace qY := (G5.block _ (lt_of_block qY) (fun e => by injection e with e; omega)).trans qY
                      replace BK := below_grownB BK G5 BK.size (by omega)
                      clear hw5 G5 x0 x1 x2 xf
                      clear a0 a1 a2 a3 a4 a5 af b0 b1 b2 b3 b4 b5 bf
                      refine (C4.out _ BK).mono ?_
                      rintro e v4 ⟨rfl, g⟩
                      replace qA := kp g qA
                      replace qB := kp g qB
                      replace qX := kp g qX
                      replace qY := kp g qY
                      replace BK := chain BK g
                      clear g
                      obtain ⟨y0, y1, y2, yf⟩ := block_cells3 qY
                      obtain ⟨x0, x1, x2, xf⟩ := block_cells3 qX
                      obtain ⟨a0, a1, a2, a3, a4, a5, af⟩ := block_cells6 qA
                      obtain ⟨b0, b1, b2, b3, b4, b5, bf⟩ := block_cells6 qB
                      have BE := Lib.hid (below_grownB BK (grown_setB (i := 2) (u := .int .i64 0) (grown_setB (i := 1) (u := .int .i64 0) (grown_setB (i := 0) (u := .int .i64 0) (grown_reflB (r := some v2.heap.size))))) BK.size (by omega))
                      clear qA qB qX BK
                      go_wp2_with fail
                      exact ⟨⟨k + 1, by omega, by push_cast; rfl, cnt_yes HB1.out, cnt_no HB2.out, BE.out⟩, by simp [intOf]; omega⟩
                    | some y =>
                      obtain ⟨yb2, yc2, e2⟩ : ∃ yb yc, y = ⟨(k : Int), yb, yc⟩ := ⟨_, _, vo_fr r2⟩
                      subst e2
                      have HB20 := both_some (vw := av) o2 r2
                      by_cases hv2 : xb2 = yb2
                      · obtain rfl : xb2 = yb2 := hv2
                        by_cases ht2 : xc2 = yc2
                        · obtain rfl : xc2 = yc2 := ht2
                          have HB2 := Lib.hid (show bothB ac bc av (k : Int) = false by rw [HB20]; simp)
                          clear HB20
                          have C3 := Lib.hid (fun w' (g : Below W1.heap.size W1 w') => votes_some (.slice p2 l2 c2) ac (k : Int) xb2 xc2 w' (RdT.below RAc.out g (Nat.le_refl _)) o2)
                          have C4 := Lib.hid (fun w' (g : Below W1.heap.size W1 w') => votes_some (.slice p4 l4 c4) bc (k : Int) xb2 xc2 w' (RdT.below RBc.out g (Nat.le_refl _)) r2)
                          clear o2 r2
                          refine (C3.out _ BK).mono ?_
                          rintro e v3 ⟨rfl, g⟩
                          replace qA := kp g qA
                          replace qB := kp g qB
                          replace qX := kp g qX
                          replace qY := kp g qY
                          replace BK := chain BK g
                          clear g
                          obtain ⟨x0, x1, x2, xf⟩ := block_cells3 qX
                          obtain ⟨a0, a1, a2, a3, a4, a5, af⟩ := block_cells6 qA
                          obtain ⟨b0, b1, b2, b3, b4, b5, bf⟩ := block_cells6 qB
                          go_wp2_with fail
                          obtain ⟨w5, hw5⟩ : ∃ W, W = (((v3.setCell ⟨v1.heap.size, 0, none⟩ (.int .i64 (k : Int))).setCell ⟨v1.heap.size, 1, none⟩ (.int .i64 xb2)).setCell ⟨v1.heap.size, 2, none⟩ (.int .i64 xc2)) := ⟨_, rfl⟩
                          rw [← hw5]
                          have G5 : v3.grownBy w5 (some v1.heap.size) := by rw [hw5]; exact grown_setB (grown_setB (grown_setB grown_reflB))
                          replace qX : w5.heap[v1.heap.size]? = some (.cells #[.int .i64 (k : Int), .int .i64 xb2, .int .i64 xc2] 26 (0, 0)) := by rw [hw5]; exact set3_new qX
                          replace qA := (G5.block _ (lt_of_block qA) (fun e => by injection e with e; omega)).trans qA
                          replace qB := (G5.block _ (lt_of_block qB) (fun e => by injection e with e; omega)).trans qB
                          replace qY := (G5.block _ (lt_of_block qY) (fun e => by injection e with e; omega)).trans qY
                          replace BK := below_grownB BK G5 BK.size (by omega)
                          clear hw5 G5 x0 x1 x2 xf
                          clear a0 a1 a2 a3 a4 a5 af b0 b1 b2 b3 b4 b5 bf
                          refine (C4.out _ BK).mono ?_
                          rintro e v4 ⟨rfl, g⟩
                          replace qA := kp g qA
                          replace qB := kp g qB
                          replace qX := kp g qX
                          replace qY := kp g qY
                          replace BK := chain BK g
                          clear g
                          obtain ⟨y0, y1, y2, yf⟩ := block_cells3 qY
                          obtain ⟨x0, x1, x2, xf⟩ := block_cells3 qX
                          obtain ⟨a0, a1, a2, a3, a4, a5, af⟩ := block_cells6 qA
                          obtain ⟨b0, b1, b2, b3, b4, b5, bf⟩ := block_cells6 qB
                          have BE := Lib.hid (below_grownB BK (grown_setB (i := 2) (u := .int .i64 xc2) (grown_setB (i := 1) (u := .int .i64 xb2) (grown_setB (i := 0) (u := .int .i64 (k : Int)) (grown_reflB (r := some v2.heap.size))))) BK.size (by omega))
                          clear qA qB qX BK
                          go_wp2_with fail
                          exact ⟨⟨k + 1, by omega, by push_cast; rfl, cnt_yes HB1.out, cnt_no HB2.out, BE.out⟩, by simp [intOf]; omega⟩
                        · by_cases hw2 : xb2 = av
                          · have HB2 := Lib.hid (show bothB ac bc av (k : Int) = true by rw [HB20]; simp [ht2, hw2])
                            have fw2 : (xb2 == av) = true := by simpa using hw2
                            clear HB20 hw2
                            have C3 := Lib.hid (fun w' (g : Below W1.heap.size W1 w') => votes_some (.slice p2 l2 c2) ac (k : Int) xb2 xc2 w' (RdT.below RAc.out g (Nat.le_refl _)) o2)
                            have C4 := Lib.hid (fun w' (g : Below W1.heap.size W1 w') => votes_some (.slice p4 l4 c4) bc (k : Int) xb2 yc2 w' (RdT.below RBc.out g (Nat.le_refl _)) r2)
                            clear o2 r2
                            refine (C3.out _ BK).mono ?_
                            rintro e v3 ⟨rfl, g⟩
                            replace qA := kp g qA
                            replace qB := kp g qB
                            replace qX := kp g qX
                            replace qY := kp g qY
                            replace BK := chain BK g
                            clear g
                            obtain ⟨x0, x1, x2, xf⟩ := block_cells3 qX
                            obtain ⟨a0, a1, a2, a3, a4, a5, af⟩ := block_cells6 qA
                            obtain ⟨b0, b1, b2, b3, b4, b5, bf⟩ := block_cells6 qB
                            go_wp2_with fail
                            obtain ⟨w5, hw5⟩ : ∃ W, W = (((v3.setCell ⟨v1.heap.size, 0, none⟩ (.int .i64 (k : Int))).setCell ⟨v1.heap.size, 1, none⟩ (.int .i64 xb2)).setCell ⟨v1.heap.size, 2, none⟩ (.int .i64 xc2)) := ⟨_, rfl⟩
                            rw [← hw5]
                            have G5 : v3.grownBy w5 (some v1.heap.size) := by rw [hw5]; exact grown_setB (grown_setB (grown_setB grown_reflB))
                            replace qX : w5.heap[v1.heap.size]? = some (.cells #[.int .i64 (k : Int), .int .i64 xb2, .int .i64 xc2] 26 (0, 0)) := by rw [hw5]; exact set3_new qX
                            replace qA := (G5.block _ (lt_of_block qA) (fun e => by injection e with e; omega)).trans qA
                            replace qB := (G5.block _ (lt_of_block qB) (fun e => by injection e with e; omega)).trans qB
                            replace qY := (G5.block _ (lt_of_block qY) (fun e => by injection e with e; omega)).trans qY
                            replace BK := below_grownB BK G5 BK.size (by omega)
                            clear hw5 G5 x0 x1 x2 xf
                            clear a0 a1 a2 a3 a4 a5 af b0 b1 b2 b3 b4 b5 bf
                            refine (C4.out _ BK).mono ?_
                            rintro e v4 ⟨rfl, g⟩
                            replace qA := kp g qA
                            replace qB := kp g qB
                            replace qX := kp g qX
                            replace qY := kp g qY
                            replace BK := chain BK g
                            clear g
                            obtain ⟨y0, y1, y2, yf⟩ := block_cells3 qY
                            obtain ⟨x0, x1, x2, xf⟩ := block_cells3 qX
                            obtain ⟨a0, a1, a2, a3, a4, a5, af⟩ := block_cells6 qA
                            obtain ⟨b0, b1, b2, b3, b4, b5, bf⟩ := block_cells6 qB
                            have BE := Lib.hid (below_grownB BK (grown_setB (i := 2) (u := .int .i64 yc2) (grown_setB (i := 1) (u := .int .i64 xb2) (grown_setB (i := 0) (u := .int .i64 (k : Int)) (grown_reflB (r := some v2.heap.size))))) BK.size (by omega))
                            clear qA qB qX BK
                            go_wp2_with fail
                            exact ⟨⟨k + 1, by omega, by push_cast; rfl, cnt_yes HB1.out, cnt_yes HB2.out, BE.out⟩, by simp [intOf]; omega⟩
                          · have HB2 := Lib.hid (show bothB ac bc av (k : Int) = false by rw [HB20]; simp [hw2])
                            have fw2 : (xb2 == av) = false := by simpa using hw2
                            clear HB20 hw2
                            have C3 := Lib.hid (fun w' (g : Below W1.heap.size W1 w') => votes_some (.slice p2 l2 c2) ac (k : Int) xb2 xc2 w' (RdT.below RAc.out g (Nat.le_refl _)) o2)
                            have C4 := Lib.hid (fun w' (g : Below W1.heap.size W1 w') => votes_some (.slice p4 l4 c4) bc (k : Int) xb2 yc2 w' (RdT.below RBc.out g (Nat.le_refl _)) r2)
                            clear o2 r2
                            refine (C3.out _ BK).mono ?_
                            rintro e v3 ⟨rfl, g⟩
                            replace qA := kp g qA
                            replace qB := kp g qB
                            replace qX := kp g qX
                            replace qY := kp g qY
                            replace BK := chain BK g
                            clear g
                            obtain ⟨x0, x1, x2, xf⟩ := block_cells3 qX
                            obtain ⟨a0, a1, a2, a3, a4, a5, af⟩ := block_cells6 qA
                            obtain ⟨b0, b1, b2, b3, b4, b5, bf⟩ := block_cells6 qB
                            go_wp2_with fail
                            obtain ⟨w5, hw5⟩ : ∃ W, W = (((v3.setCell ⟨v1.heap.size, 0, none⟩ (.int .i64 (k : Int))).setCell ⟨v1.heap.size, 1, none⟩ (.int .i64 xb2)).setCell ⟨v1.heap.size, 2, none⟩ (.int .i64 xc2)) := ⟨_, rfl⟩
                            rw [← hw5]
                            have G5 : v3.grownBy w5 (some v1.heap.size) := by rw [hw5]; exact grown_setB (grown_setB (grown_setB grown_reflB))
                            replace qX : w5.heap[v1.heap.size]? = some (.cells #[.int .i64 (k : Int), .int .i64 xb2, .int .i64 xc2] 26 (0, 0)) := by rw [hw5]; exact set3_new qX
                            replace qA := (G5.block _ (lt_of_block qA) (fun e => by injection e with e; omega)).trans qA
                            replace qB := (G5.block _ (lt_of_block qB) (fun e => by injection e with e; omega)).trans qB
                            replace qY := (G5.block _ (lt_of_block qY) (fun e => by injection e with e; omega)).trans qY
                            replace BK := below_grownB BK G5 BK.size (by omega)
                            clear hw5 G5 x0 x1 x2 xf
                            clear a0 a1 a2 a3 a4 a5 af b0 b1 b2 b3 b4 b5 bf
                            refine (C4.out _ BK).mono ?_
                            rintro e v4 ⟨rfl, g⟩
                            replace qA := kp g qA
                            replace qB := kp g qB
                            replace qX := kp g qX
                            replace qY := kp g qY
                            replace BK := chain BK g
                            clear g
                            obtain ⟨y0, y1, y2, yf⟩ := block_cells3 qY
                            obtain ⟨x0, x1, x2, xf⟩ := block_cells3 qX
                            obtain ⟨a0, a1, a2, a3, a4, a5, af⟩ := block_cells6 qA
                            obtain ⟨b0, b1, b2, b3, b4, b5, bf⟩ := block_cells6 qB
                            have BE := Lib.hid (below_grownB BK (grown_setB (i := 2) (u := .int .i64 yc2) (grown_setB (i := 1) (u := .int .i64 xb2) (grown_setB (i := 0) (u := .int .i64 (k : Int)) (grown_reflB (r := some v2.heap.size))))) BK.size (by omega))
                            clear qA qB qX BK
                            go_wp2_with fail
                            exact ⟨⟨k + 1, by omega, by push_cast; rfl, cnt_yes HB1.out, cnt_no HB2.out, BE.out⟩, by simp [intOf]; omega⟩
                      · by_cases hw2 : xb2 = av
                        · have hz2 : ¬ yb2 = av := fun e => hv2 (hw2.trans e.symm)
                          have HB2 := Lib.hid (show bothB ac bc av (k : Int) = false by rw [HB20]; simp [hz2])
                          have fw2 : (xb2 == av) = true := by simpa using hw2
                          have fz2 : (yb2 == av) = false := by simpa using hz2
                          clear HB20 hw2 hz2
                          have C3 := Lib.hid (fun w' (g : Below W1.heap.size W1 w') => votes_some (.slice p2 l2 c2) ac (k : Int) xb2 xc2 w' (RdT.below RAc.out g (Nat.le_refl _)) o2)
                          have C4 := Lib.hid (fun w' (g : Below W1.heap.size W1 w') => votes_some (.slice p4 l4 c4) bc (k : Int) yb2 yc2 w' (RdT.below RBc.out g (Nat.le_refl _)) r2)
                          clear o2 r2
                          refine (C3.out _ BK).mono ?_
                          rintro e v3 ⟨rfl, g⟩
                          replace qA := kp g qA
                          replace qB := kp g qB
                          replace qX := kp g qX
                          replace qY := kp g qY
                          replace BK := chain BK g
                          clear g
                          obtain ⟨x0, x1, x2, xf⟩ := block_cells3 qX
                          obtain ⟨a0, a1, a2, a3, a4, a5, af⟩ := block_cells6 qA
                          obtain ⟨b0, b1, b2, b3, b4, b5, bf⟩ := block_cells6 qB
                          go_wp2_with fail
                          obtain ⟨w5, hw5⟩ : ∃ W, W = (((v3.setCell ⟨v1.heap.size, 0, none⟩ (.int .i64 (k : Int))).setCell ⟨v1.heap.size, 1, none⟩ (.int .i64 xb2)).setCell ⟨v1.heap.size, 2, none⟩ (.int .i64 xc2)) := ⟨_, rfl⟩
                          rw [← hw5]
                          have G5 : v3.grownBy w5 (some v1.heap.size) := by rw [hw5]; exact grown_setB (grown_setB (grown_setB grown_reflB))
                          replace qX : w5.heap[v1.heap.size]? = some (.cells #[.int .i64 (k : Int), .int .i64 xb2, .int .i64 xc2] 26 (0, 0)) := by rw [hw5]; exact set3_new qX
                          replace qA := (G5.block _ (lt_of_block qA) (fun e => by injection e with e; omega)).trans qA
                          replace qB := (G5.block _ (lt_of_block qB) (fun e => by injection e with e; omega)).trans qB
                          replace qY := (G5.block _ (lt_of_block qY) (fun e => by injection e with e; omega)).trans qY
                          replace BK := below_grownB BK G5 BK.size (by omega)
                          clear hw5 G5 x0 x1 x2 xf
                          clear a0 a1 a2 a3 a4 a5 af b0 b1 b2 b3 b4 b5 bf
                          refine (C4.out _ BK).mono ?_
                          rintro e v4 ⟨rfl, g⟩
                          replace qA := kp g qA
                          replace qB := kp g qB
                          replace qX := kp g qX
                          replace qY := kp g qY
                          replace BK := chain BK g
                          clear g
                          obtain ⟨y0, y1, y2, yf⟩ := block_cells3 qY
                          obtain ⟨x0, x1, x2, xf⟩ := block_cells3 qX
                          obtain ⟨a0, a1, a2, a3, a4, a5, af⟩ := block_cells6 qA
                          obtain ⟨b0, b1, b2, b3, b4, b5, bf⟩ := block_cells6 qB
                          have BE := Lib.hid (below_grownB BK (grown_setB (i := 2) (u := .int .i64 yc2) (grown_setB (i := 1) (u := .int .i64 yb2) (grown_setB (i := 0) (u := .int .i64 (k : Int)) (grown_reflB (r := some v2.heap.size))))) BK.size (by omega))
                          clear qA qB qX BK
                          go_wp2_with fail
                          exact ⟨⟨k + 1, by omega, by push_cast; rfl, cnt_yes HB1.out, cnt_no HB2.out, BE.out⟩, by simp [intOf]; omega⟩
                        · have HB2 := Lib.hid (show bothB ac bc av (k : Int) = false by rw [HB20]; simp [hw2])
                          have fw2 : (xb2 == av) = false := by simpa using hw2
                          clear HB20 hw2
                          have C3 := Lib.hid (fun w' (g : Below W1.heap.size W1 w') => votes_some (.slice p2 l2 c2) ac (k : Int) xb2 xc2 w' (RdT.below RAc.out g (Nat.le_refl _)) o2)
                          have C4 := Lib.hid (fun w' (g : Below W1.heap.size W1 w') => votes_some (.slice p4 l4 c4) bc (k : Int) yb2 yc2 w' (RdT.below RBc.out g (Nat.le_refl _)) r2)
                          clear o2 r2
                          refine (C3.out _ BK).mono ?_
                          rintro e v3 ⟨rfl, g⟩
                          replace qA := kp g qA
                          replace qB := kp g qB
                          replace qX := kp g qX
                          replace qY := kp g qY
                          replace BK := chain BK g
                          clear g
                          obtain ⟨x0, x1, x2, xf⟩ := block_cells3 qX
                          obtain ⟨a0, a1, a2, a3, a4, a5, af⟩ := block_cells6 qA
                          obtain ⟨b0, b1, b2, b3, b4, b5, bf⟩ := block_cells6 qB
                          go_wp2_with fail
                          obtain ⟨w5, hw5⟩ : ∃ W, W = (((v3.setCell ⟨v1.heap.size, 0, none⟩ (.int .i64 (k : Int))).setCell ⟨v1.heap.size, 1, none⟩ (.int .i64 xb2)).setCell ⟨v1.heap.size, 2, none⟩ (.int .i64 xc2)) := ⟨_, rfl⟩
                          rw [← hw5]
                          have G5 : v3.grownBy w5 (some v1.heap.size) := by rw [hw5]; exact grown_setB (grown_setB (grown_setB grown_reflB))
                          replace qX : w5.heap[v1.heap.size]? = some (.cells #[.int .i64 (k : Int), .int .i64 xb2, .int .i64 xc2] 26 (0, 0)) := by rw [hw5]; exact set3_new qX
                          replace qA := (G5.block _ (lt_of_block qA) (fun e => by injection e with e; omega)).trans qA
                          replace qB := (G5.block _ (lt_of_block qB) (fun e => by injection e with e; omega)).trans qB
                          replace qY := (G5.block _ (lt_of_block qY) (fun e => by injection e with e; omega)).trans qY
                          replace BK := below_grownB BK G5 BK.size (by omega)
                          clear hw5 G5 x0 x1 x2 xf
                          clear a0 a1 a2 a3 a4 a5 af b0 b1 b2 b3 b4 b5 bf
                          refine (C4.out _ BK).mono ?_
                          rintro e v4 ⟨rfl, g⟩
                          replace qA := kp g qA
                          replace qB := kp g qB
                          replace qX := kp g qX
                          replace qY := kp g qY
                          replace BK := chain BK g
                          clear g
                          obtain ⟨y0, y1, y2, yf⟩ := block_cells3 qY
                          obtain ⟨x0, x1, x2, xf⟩ := block_cells3 qX
                          obtain ⟨a0, a1, a2, a3, a4, a5, af⟩ := block_cells6 qA
                          obtain ⟨b0, b1, b2, b3, b4, b5, bf⟩ := block_cells6 qB
                          have BE := Lib.hid (below_grownB BK (grown_setB (i := 2) (u := .int .i64 yc2) (grown_setB (i := 1) (u := .int .i64 yb2) (grown_setB (i := 0) (u := .int .i64 (k : Int)) (grown_reflB (r := some v2.heap.size))))) BK.size (by omega))
                          clear qA qB qX BK
                          go_wp2_with fail
                          exact ⟨⟨k + 1, by omega, by push_cast; rfl, cnt_yes HB1.out, cnt_no HB2.out, BE.out⟩, by simp [intOf]; omega⟩
              · have HB1 := Lib.hid (show bothB ap bp av (k : Int) = false by rw [HB10]; simp [hw1])
                have fw1 : (xb1 == av) = false := by simpa using hw1
                clear HB10 hw1
                as_aux_lemma =>
                  have C1 := Lib.hid (fun w' (g : Below W1.heap.size W1 w') => votes_some (.slice p1 l1 c1) ap (k : Int) xb1 xc1 w' (RdT.below RAp.out g (Nat.le_refl _)) o1)
                  have C2 := Lib.hid (fun w' (g : Below W1.heap.size W1 w') => votes_some (.slice p3 l3 c3) bp (k : Int) xb1 yc1 w' (RdT.below RBp.out g (Nat.le_refl _)) r1)
                  clear o1 r1
                  obtain ⟨a0, a1, a2, a3, a4, a5, af⟩ := block_cells6 qA
                  obtain ⟨b0, b1, b2, b3, b4, b5, bf⟩ := block_cells6 qB
                  go_wp2_with fail
                  refine (C1.out _ BK).mono ?_
                  rintro e v1 ⟨rfl, g⟩
                  replace qA := kp g qA
                  replace qB := kp g qB
                  replace BK := chain BK g
                  clear g
                  clear a0 a1 a2 a3 a4 a5 af b0 b1 b2 b3 b4 b5 bf
                  obtain ⟨a0, a1, a2, a3, a4, a5, af⟩ := block_cells6 qA
                  obtain ⟨b0, b1, b2, b3, b4, b5, bf⟩ := block_cells6 qB
                  have hX := BK.size
                  have qX : (v1.alloc (.cells #[.int .i64 (k : Int), .int .i64 xb1, .int .i64 xc1] 26)).heap[v1.heap.size]? = some (.cells #[.int .i64 (k : Int), .int .i64 xb1, .int .i64 xc1] 26 (0, 0)) := heap_alloc_new _ _
                  replace qA := ko (.cells #[.int .i64 (k : Int), .int .i64 xb1, .int .i64 xc1] 26) qA
                  replace qB := ko (.cells #[.int .i64 (k : Int), .int .i64 xb1, .int .i64 xc1] 26) qB
                  replace BK := BK.alloc BK.size (.cells #[.int .i64 (k : Int), .int .i64 xb1, .int .i64 xc1] 26)
                  clear a0 a1 a2 a3 a4 a5 af b0 b1 b2 b3 b4 b5 bf
                  obtain ⟨a0, a1, a2, a3, a4, a5, af⟩ := block_cells6 qA
                  obtain ⟨b0, b1, b2, b3, b4, b5, bf⟩ := block_cells6 qB
                  go_wp2_with fail
                  refine (C2.out _ BK).mono ?_
                  rintro e v2 ⟨rfl, g⟩
                  replace qA := kp g qA
                  replace qB := kp g qB
                  replace qX := kp g qX
                  replace BK := chain BK g
                  clear g
                  have hY := BK.size
                  have hXY := lt_of_block qX
                  have qY : (v2.alloc (.cells #[.int .i64 (k : Int), .int .i64 xb1, .int .i64 yc1] 26)).heap[v2.heap.size]? = some (.cells #[.int .i64 (k : Int), .int .i64 xb1, .int .i64 yc1] 26 (0, 0)) := heap_alloc_new _ _
                  replace qX := ko (.cells #[.int .i64 (k : Int), .int .i64 xb1, .int .i64 yc1] 26) qX
                  replace qA := ko (.cells #[.int .i64 (k : Int), .int .i64 xb1, .int .i64 yc1] 26) qA
                  replace qB := ko (.cells #[.int .i64 (k : Int), .int .i64 xb1, .int .i64 yc1] 26) qB
                  replace BK := BK.alloc BK.size (.cells #[.int .i64 (k : Int), .int .i64 xb1, .int .i64 yc1] 26)
                  obtain ⟨x0, x1, x2, xf⟩ := block_cells3 qX
                  obtain ⟨y0, y1, y2, yf⟩ := block_cells3 qY
                  clear a0 a1 a2 a3 a4 a5 af b0 b1 b2 b3 b4 b5 bf
                  obtain ⟨a0, a1, a2, a3, a4, a5, af⟩ := block_cells6 qA
                  obtain ⟨b0, b1, b2, b3, b4, b5, bf⟩ := block_cells6 qB
                  go_wp2_with fail
                  clear x0 x1 x2 xf y0 y1 y2 yf
                  clear a0 a1 a2 a3 a4 a5 af b0 b1 b2 b3 b4 b5 bf
                  cases o2 : voOf ac (k : Int) with
                  | none =>
                    have HB2 := Lib.hid (both_none1 (lb := bc) (vw := av) o2)
                    cases r2 : voOf bc (k : Int) with
                    | none =>
                      have C3 := Lib.hid (fun w' (g : Below W1.heap.size W1 w') => votes_none (.slice p2 l2 c2) ac (k : Int) w' (RdT.below RAc.out g (Nat.le_refl _)) o2)
                      have C4 := Lib.hid (fun w' (g : Below W1.heap.size W1 w') => votes_none (.slice p4 l4 c4) bc (k : Int) w' (RdT.below RBc.out g (Nat.le_refl _)) r2)
                      clear o2 r2
                      refine (C3.out _ BK).mono ?_
                      rintro e v3 ⟨rfl, g⟩
                      replace qA := kp g qA
                      replace qB := kp g qB
                      replace qX := kp g qX
                      replace qY := kp g qY
                      replace BK := chain BK g
                      clear g
                      obtain ⟨x0, x1, x2, xf⟩ := block_cells3 qX
                      obtain ⟨a0, a1, a2, a3, a4, a5, af⟩ := block_cells6 qA
                      obtain ⟨b0, b1, b2, b3, b4, b5, bf⟩ := block_cells6 qB
                      go_wp2_with fail
                      obtain ⟨w5, hw5⟩ : ∃ W, W = (((v3.setCell ⟨v1.heap.size, 0, none⟩ (.int .i64 0)).setCell ⟨v1.heap.size, 1, none⟩ (.int .i64 0)).setCell ⟨v1.heap.size, 2, none⟩ (.int .i64 0)) := ⟨_, rfl⟩
                      rw [← hw5]
                      have G5 : v3.grownBy w5 (some v1.heap.size) := by rw [hw5]; exact grown_setB (grown_setB (grown_setB grown_reflB))
                      replace qX : w5.heap[v1.heap.size]? = some (.cells #[.int .i64 0, .int .i64 0, .int .i64 0] 26 (0, 0)) := by rw [hw5]; exact set3_new qX
                      replace qA := (G5.block _ (lt_of_block qA) (fun e => by injection e with e; omega)).trans qA
                      replace qB := (G5.block _ (lt_of_block qB) (fun e => by injection e with e; omega)).trans qB
                      replace qY := (G5.block _ (lt_of_block qY) (fun e => by injection e with e; omega)).trans qY
                      replace BK := below_grownB BK G5 BK.size (by omega)
                      clear hw5 G5 x0 x1 x2 xf
                      clear a0 a1 a2 a3 a4 a5 af b0 b1 b2 b3 b4 b5 bf
                      refine (C4.out _ BK).mono ?_
                      rintro e v4 ⟨rfl, g⟩
                      replace qA := kp g qA
                      replace qB := kp g qB
                      replace qX := kp g qX
                      replace qY := kp g qY
                      replace BK := chain BK g
                      clear g
                      obtain ⟨y0, y1, y2, yf⟩ := block_cells3 qY
                      obtain ⟨x0, x1, x2, xf⟩ := block_cells3 qX
                      obtain ⟨a0, a1, a2, a3, a4, a5, af⟩ := block_cells6 qA
                      obtain ⟨b0, b1, b2, b3, b4, b5, bf⟩ := block_cells6 qB
                      have BE := Lib.hid (below_grownB BK (grown_setB (i := 2) (u := .int .i64 0) (grown_setB (i := 1) (u := .int .i64 0) (grown_setB (i := 0) (u := .int .i64 0) (grown_reflB (r := some v2.heap.size))))) BK.size (by omega))
                      clear qA qB qX BK
                      go_wp2_with fail
                      exact ⟨⟨k + 1, by omega, by push_cast; rfl, cnt_no HB1.out, cnt_no HB2.out, BE.out⟩, by simp [intOf]; omega⟩
                    | some y =>
                      obtain ⟨yb2, yc2, e2⟩ : ∃ yb yc, y = ⟨(k : Int), yb, yc⟩ := ⟨_, _, vo_fr r2⟩
                      subst e2
                      have C3 := Lib.hid (fun w' (g : Below W1.heap.size W1 w') => votes_none (.slice p2 l2 c2) ac (k : Int) w' (RdT.below RAc.out g (Nat.le_refl _)) o2)
                      have C4 := Lib.hid (fun w' (g : Below W1.heap.size W1 w') => votes_some (.slice p4 l4 c4) bc (k : Int) yb2 yc2 w' (RdT.below RBc.out g (Nat.le_refl _)) r2)
                      clear o2 r2
                      refine (C3.out _ BK).mono ?_
                      rintro e v3 ⟨rfl, g⟩
                      replace qA := kp g qA
                      replace qB := kp g qB
                      replace qX := kp g qX
                      replace qY := kp g qY
                      replace BK := chain BK g
                      clear g
                      obtain ⟨x0, x1, x2, xf⟩ := block_cells3 qX
                      obtain ⟨a0, a1, a2, a3, a4, a5, af⟩ := block_cells6 qA
                      obtain ⟨b0, b1, b2, b3, b4, b5, bf⟩ := block_cells6 qB
                      go_wp2_with fail
                      obtain ⟨w5, hw5⟩ : ∃ W, W = (((v3.setCell ⟨v1.heap.size, 0, none⟩ (.int .i64 0)).setCell ⟨v1.heap.size, 1, none⟩ (.int .i64 0)).setCell ⟨v1.heap.size, 2, none⟩ (.int .i64 0)) := ⟨_, rfl⟩
                      rw [← hw5]
                      have G5 : v3.grownBy w5 (some v1.heap.size) := by rw [hw5]; exact grown_setB (grown_setB (grown_setB grown_reflB))
                      replace qX : w5.heap[v1.heap.size]? = some (.cells #[.int .i64 0, .int .i64 0, .int .i64 0] 26 (0, 0)) := by rw [hw5]; exact set3_new qX
                      replace qA := (G5.block _ (lt_of_block qA) (fun e => by injection e with e; omega)).trans qA
                      replace qB := (G5.block _ (lt_of_block qB) (fun e => by injection e with e; omega)).trans qB
                      replace qY := (G5.block _ (lt_of_block qY) (fun e => by injection e with e; omega)).trans qY
                      replace BK := below_grownB BK G5 BK.size (by omega)
                      clear hw5 G5 x0 x1 x2 xf
                      clear a0 a1 a2 a3 a4 a5 af b0 b1 b2 b3 b4 b5 bf
                      refine (C4.out _ BK).mono ?_
                      rintro e v4 ⟨rfl, g⟩
                      replace qA := kp g qA
                      replace qB := kp g qB
                      replace qX := kp g qX
                      replace qY := kp g qY
                      replace BK := chain BK g
                      clear g
                      obtain ⟨y0, y1, y2, yf⟩ := block_cells3 qY
                      obtain ⟨x0, x1, x2, xf⟩ := block_cells3 qX
                      obtain ⟨a0, a1, a2, a3, a4, a5, af⟩ := block_cells6 qA
                      obtain ⟨b0, b1, b2, b3, b4, b5, bf⟩ := block_cells6 qB
                      have BE := Lib.hid (below_grownB BK (grown_setB (i := 2) (u := .int .i64 yc2) (grown_setB (i := 1) (u := .int .i64 yb2) (grown_setB (i := 0) (u := .int .i64 (k : Int)) (grown_reflB (r := some v2.heap.size))))) BK.size (by omega))
                      clear qA qB qX BK
                      go_wp2_with fail
                      exact ⟨⟨k + 1, by omega, by push_cast; rfl, cnt_no HB1.out, cnt_no HB2.out, BE.out⟩, by simp [intOf]; omega⟩
                  | some x =>
                    obtain ⟨xb2, xc2, f2⟩ : ∃ xb xc, x = ⟨(k : Int), xb, xc⟩ := ⟨_, _, vo_fr o2⟩
                    subst f2
                    cases r2 : voOf bc (k : Int) with
                    | none =>
                      have HB2 := Lib.hid (both_none2 (la := ac) (vw := av) r2)
                      have C3 := Lib.hid (fun w' (g : Below W1.heap.size W1 w') => votes_some (.slice p2 l2 c2) ac (k : Int) xb2 xc2 w' (RdT.below RAc.out g (Nat.le_refl _)) o2)
                      have C4 := Lib.hid (fun w' (g : Below W1.heap.size W1 w') => votes_none (.slice p4 l4 c4) bc (k : Int) w' (RdT.below RBc.out g (Nat.le_refl _)) r2)
                      clear o2 r2
                      refine (C3.out _ BK).mono ?_
                      rintro e v3 ⟨rfl, g⟩
                      replace qA := kp g qA
                      replace qB := kp g qB
                      replace qX := kp g qX
                      replace qY := kp g qY
                      replace BK := chain BK g
                      clear g
                      obtain ⟨x0, x1, x2, xf⟩ := block_cells3 qX
                      obtain ⟨a0, a1, a2, a3, a4, a5, af⟩ := block_cells6 qA
                      obtain ⟨b0, b1, b2, b3, b4, b5, bf⟩ := block_cells6 qB
                      go_wp2_with fail
                      obtain ⟨w5, hw5⟩ : ∃ W, W = (((v3.setCell ⟨v1.heap.size, 0, none⟩ (.int .i64 (k : Int))).setCell ⟨v1.heap.size, 1, none⟩ (.int .i64 xb2)).setCell ⟨v1.heap.size, 2, none⟩ (.int .i64 xc2)) := ⟨_, rfl⟩
                      rw [← hw5]
                      have G5 : v3.grownBy w5 (some v1.heap.size) := by rw [hw5]; exact grown_setB (grown_setB (grown_setB grown_reflB))
                      replace qX : w5.heap[v1.heap.size]? = some (.cells #[.int .i64 (k : Int), .int .i64 xb2, .int .i64 xc2] 26 (0, 0)) := by rw [hw5]; exact set3_new qX
                      replace qA := (G5.block _ (lt_of_block qA) (fun e => by injection e with e; omega)).trans qA
                      replace qB := (G5.block _ (lt_of_block qB) (fun e => by injection e with e; omega)).trans qB
                      replace qY := (G5.block _ (lt_of_block qY) (fun e => by injection e with e; omega)).trans qY
                      replace BK := below_grownB BK G5 BK.size (by omega)
                      clear hw5 G5 x0 x1 x2 xf
                      clear a0 a1 a2 a3 a4 a5 af b0 b1 b2 b3 b4 b5 bf
                      refine (C4.out _ BK).mono ?_
                      rintro e v4 ⟨rfl, g⟩
                      replace qA := kp g qA
                      replace qB := kp g qB
                      replace qX := kp g qX
                      replace qY := kp g qY
                      replace BK := chain BK g
                      clear g
                      obtain ⟨y0, y1, y2, yf⟩ := block_cells3 qY
                      obtain ⟨x0, x1, x2, xf⟩ := block_cells3 qX
                      obtain ⟨a0, a1, a2, a3, a4, a5, af⟩ := block_cells6 qA
                      obtain ⟨b0, b1, b2, b3, b4, b5, bf⟩ := block_cells6 qB
                      have BE := Lib.hid (below_grownB BK (grown_setB (i := 2) (u := .int .i64 0) (grown_setB (i := 1) (u := .int .i64 0) (grown_setB (i := 0) (u := .int .i64 0) (grown_reflB (r := some v2.heap.size))))) BK.size (by omega))
                      clear qA qB qX BK
                      go_wp2_with fail
                      exact ⟨⟨k + 1, by omega, by push_cast; rfl, cnt_no HB1.out, cnt_no HB2.out, BE.out⟩, by simp [intOf]; omega⟩
                    | some y =>
                      obtain ⟨yb2, yc2, e2⟩ : ∃ yb yc, y = ⟨(k : Int), yb, yc⟩ := ⟨_, _, vo_fr r2⟩
                      subst e2
                      have HB20 := both_some (vw := av) o2 r2
                      by_cases hv2 : xb2 = yb2
                      · obtain rfl : xb2 = yb2 := hv2
                        by_cases ht2 : xc2 = yc2
                        · obtain rfl : xc2 = yc2 := ht2
                          have HB2 := Lib.hid (show bothB ac bc av (k : Int) = false by rw [HB20]; simp)
                          clear HB20
                          have C3 := Lib.hid (fun w' (g : Below W1.heap.size W1 w') => votes_some (.slice p2 l2 c2) ac (k : Int) xb2 xc2 w' (RdT.below RAc.out g (Nat.le_refl _)) o2)
                          have C4 := Lib.hid (fun w' (g : Below W1.heap.size W1 w') => votes_some (.slice p4 l4 c4) bc (k : Int) xb2 xc2 w' (RdT.below RBc.out g (Nat.le_refl _)) r2)
                          clear o2 r2
                          refine (C3.out _ BK).mono ?_
                          rintro e v3 ⟨rfl, g⟩
                          replace qA := kp g qA
                          replace qB := kp g qB
                          replace qX := kp g qX
                          replace qY := kp g qY
                          replace BK := chain BK g
                          clear g
                          obtain ⟨x0, x1, x2, xf⟩ := block_cells3 qX
                          obtain ⟨a0, a1, a2, a3, a4, a5, af⟩ := block_cells6 qA
                          obtain ⟨b0, b1, b2, b3, b4, b5, bf⟩ := block_cells6 qB
                          go_wp2_with fail
                          obtain ⟨w5, hw5⟩ : ∃ W, W = (((v3.setCell ⟨v1.heap.size, 0, none⟩ (.int .i64 (k : Int))).setCell ⟨v1.heap.size, 1, none⟩ (.int .i64 xb2)).setCell ⟨v1.heap.size, 2, none⟩ (.int .i64 xc2)) := ⟨_, rfl⟩
                          rw [← hw5]
                          have G5 : v3.grownBy w5 (some v1.heap.size) := by rw [hw5]; exact grown_setB (grown_setB (grown_setB grown_reflB))
                          replace qX : w5.heap[v1.heap.size]? = some (.cells #[.int .i64 (k : Int), .int .i64 xb2, .int .i64 xc2] 26 (0, 0)) := by rw [hw5]; exact set3_new qX
                          replace qA := (G5.block _ (lt_of_block qA) (fun e => by injection e with e; omega)).trans qA
                          replace qB := (G5.block _ (lt_of_block qB) (fun e => by injection e with e; omega)).trans qB
                          replace qY := (G5.block _ (lt_of_block qY) (fun e => by injection e with e; omega)).trans qY
                          replace BK := below_grownB BK G5 BK.size (by omega)
                          clear hw5 G5 x0 x1 x2 xf
                          clear a0 a1 a2 a3 a4 a5 af b0 b1 b2 b3 b4 b5 bf
                          refine (C4.out _ BK).mono ?_
                          rintro e v4 ⟨rfl, g⟩
                          replace qA := kp g qA
                          replace qB := kp g qB
                          replace qX := kp g qX
                          replace qY := kp g qY
                          replace BK := chain BK g
                          clear g
                          obtain ⟨y0, y1, y2, yf⟩ := block_cells3 qY
                          obtain ⟨x0, x1, x2, xf⟩ := block_cells3 qX
                          obtain ⟨a0, a1, a2, a3, a4, a5, af⟩ := block_cells6 qA
                          obtain ⟨b0, b1, b2, b3, b4, b5, bf⟩ := block_cells6 qB
                          have BE := Lib.hid (below_grownB BK (grown_setB (i := 2) (u := .int .i64 xc2) (grown_setB (i := 1) (u := .int .i64 xb2) (grown_setB (i := 0) (u := .int .i64 (k : Int)) (grown_reflB (r := some v2.heap.size))))) BK.size (by omega))
                          clear qA qB qX BK
                          go_wp2_with fail
                          exact ⟨⟨k + 1, by omega, by push_cast; rfl, cnt_no HB1.out, cnt_no HB2.out, BE.out⟩, by simp [intOf]; omega⟩
                        · by_cases hw2 : xb2 = av
                          · have HB2 := Lib.hid (show bothB ac bc av (k : Int) = true by rw [HB20]; simp [ht2, hw2])
                            have fw2 : (xb2 == av) = true := by simpa using hw2
                            clear HB20 hw2
                            have C3 := Lib.hid (fun w' (g : Below W1.heap.size W1 w') => votes_some (.slice p2 l2 c2) ac (k : Int) xb2 xc2 w' (RdT.below RAc.out g (Nat.le_refl _)) o2)
                            have C4 := Lib.hid (fun w' (g : Below W1.heap.size W1 w') => votes_some (.slice p4 l4 c4) bc (k : Int) xb2 yc2 w' (RdT.below RBc.out g (Nat.le_refl _)) r2)
                            clear o2 r2
                            refine (C3.out _ BK).mono ?_
                            rintro e v3 ⟨rfl, g⟩
                            replace qA := kp g qA
                            replace qB := kp g qB
                            replace qX := kp g qX
                            replace qY := kp g qY
                            replace BK := chain BK g
                            clear g
                            obtain ⟨x0, x1, x2, xf⟩ := block_cells3 qX
                            obtain ⟨a0, a1, a2, a3, a4, a5, af⟩ := block_cells6 qA
                            obtain ⟨b0, b1, b2, b3, b4, b5, bf⟩ := block_cells6 qB
                            go_wp2_with fail
                            obtain ⟨w5, hw5⟩ : ∃ W, W = (((v3.setCell ⟨v1.heap.size, 0, none⟩ (.int .i64 (k : Int))).setCell ⟨v1.heap.size, 1, none⟩ (.int .i64 xb2)).setCell ⟨v1.heap.size, 2, none⟩ (.int .i64 xc2)) := ⟨_, rfl⟩
                            rw [← hw5]
                            have G5 : v3.grownBy w5 (some v1.heap.size) := by rw [hw5]; exact grown_setB (grown_setB (grown_setB grown_reflB))
                            replace qX : w5.heap[v1.heap.size]? = some (.cells #[.int .i64 (k : Int), .int .i64 xb2, .int .i64 xc2] 26 (0, 0)) := by rw [hw5]; exact set3_new qX
                            replace qA := (G5.block _ (lt_of_block qA) (fun e => by injection e with e; omega)).trans qA
                            replace qB := (G5.block _ (lt_of_block qB) (fun e => by injection e with e; omega)).trans qB
                            replace qY := (G5.block _ (lt_of_block qY) (fun e => by injection e with e; omega)).trans qY
                            replace BK := below_grownB BK G5 BK.size (by omega)
                            clear hw5 G5 x0 x1 x2 xf
                            clear a0 a1 a2 a3 a4 a5 af b0 b1 b2 b3 b4 b5 bf
                            refine (C4.out _ BK).mono ?_
                            rintro e v4 ⟨rfl, g⟩
                            replace qA := kp g qA
                            replace qB := kp g qB
                            replace qX := kp g qX
                            replace qY := kp g qY
                            replace BK := chain BK g
                            clear g
                            obtain ⟨y0, y1, y2, yf⟩ := block_cells3 qY
                            obtain ⟨x0, x1, x2, xf⟩ := block_cells3 qX
                            obtain ⟨a0, a1, a2, a3, a4, a5, af⟩ := block_cells6 qA
                            obtain ⟨b0, b1, b2, b3, b4, b5, bf⟩ := block_cells6 qB
                            have BE := Lib.hid (below_grownB BK (grown_setB (i := 2) (u := .int .i64 yc2) (grown_setB (i := 1) (u := .int .i64 xb2) (grown_setB (i := 0) (u := .int .i64 (k : Int)) (grown_reflB (r := some v2.heap.size))))) BK.size (by omega))
                            clear qA qB qX BK
                            go_wp2_with fail
                            exact ⟨⟨k + 1, by omega, by push_cast; rfl, cnt_no HB1.out, cnt_yes HB2.out, BE.out⟩, by simp [intOf]; omega⟩
                          · have HB2 := Lib.hid (show bothB ac bc av (k : Int) = false by rw [HB20]; simp [hw2])
                            have fw2 : (xb2 == av) = false := by simpa using hw2
                            clear HB20 hw2
                            have C3 := Lib.hid (fun w' (g : Below W1.heap.size W1 w') => votes_some (.slice p2 l2 c2) ac (k : Int) xb2 xc2 w' (RdT.below RAc.out g (Nat.le_refl _)) o2)
                            have C4 := Lib.hid (fun w' (g : Below W1.heap.size W1 w') => votes_some (.slice p4 l4 c4) bc (k : Int) xb2 yc2 w' (RdT.below RBc.out g (Nat.le_refl _)) r2)
                            clear o2 r2
                            refine (C3.out _ BK).mono ?_
                            rintro e v3 ⟨rfl, g⟩
                            replace qA := kp g qA
                            replace qB := kp g qB
                            replace qX := kp g qX
                            replace qY := kp g qY
                            replace BK := chain BK g
                            clear g
                            obtain ⟨x0, x1, x2, xf⟩ := block_cells3 qX
                            obtain ⟨a0, a1, a2, a3, a4, a5, af⟩ := block_cells6 qA
                            obtain ⟨b0, b1, b2, b3, b4, b5, bf⟩ := block_cells6 qB
                            go_wp2_with fail
                            obtain ⟨w5, hw5⟩ : ∃ W, W = (((v3.setCell ⟨v1.heap.size, 0, none⟩ (.int .i64 (k : Int))).setCell ⟨v1.heap.size, 1, none⟩ (.int .i64 xb2)).setCell ⟨v1.heap.size, 2, none⟩ (.int .i64 xc2)) := ⟨_, rfl⟩
                            rw [← hw5]
                            have G5 : v3.grownBy w5 (some v1.heap.size) := by rw [hw5]; exact grown_setB (grown_setB (grown_setB grown_reflB))
                            replace qX : w5.heap[v1.heap.size]? = some (.cells #[.int .i64 (k : Int), .int .i64 xb2, .int .i64 xc2] 26 (0, 0)) := by rw [hw5]; exact set3_new qX
                            replace qA := (G5.block _ (lt_of_block qA) (fun e => by injection e with e; omega)).trans qA
                            replace qB := (G5.block _ (lt_of_block qB) (fun e => by injection e with e; omega)).trans qB
                            replace qY := (G5.block _ (lt_of_block qY) (fun e => by injection e with e; omega)).trans qY
                            replace BK := below_grownB BK G5 BK.size (by omega)
                            clear hw5 G5 x0 x1 x2 xf
                            clear a0 a1 a2 a3 a4 a5 af b0 b1 b2 b3 b4 b5 bf
                            refine (C4.out _ BK).mono ?_
                            rintro e v4 ⟨rfl, g⟩
                            replace qA := kp g qA
                            replace qB := kp g qB
                            replace qX := kp g qX
                            replace qY := kp g qY
                            replace BK := chain BK g
                            clear g
                            obtain ⟨y0, y1, y2, yf⟩ := block_cells3 qY
                            obtain ⟨x0, x1, x2, xf⟩ := block_cells3 qX
                            obtain ⟨a0, a1, a2, a3, a4, a5, af⟩ := block_cells6 qA
                            obtain ⟨b0, b1, b2, b3, b4, b5, bf⟩ := block_cells6 qB
                            have BE := Lib.hid (below_grownB BK (grown_setB (i := 2) (u := .int .i64 yc2) (grown_setB (i := 1) (u := .int .i64 xb2) (grown_setB (i := 0) (u := .int .i64 (k : Int)) (grown_reflB (r := some v2.heap.size))))) BK.size (by omega))
                            clear qA qB qX BK
                            go_wp2_with fail
                            exact ⟨⟨k + 1, by omega, by push_cast; rfl, cnt_no HB1.out, cnt_no HB2.out, BE.out⟩, by simp [intOf]; omega⟩
                      · by_cases hw2 : xb2 = av
                        · have hz2 : ¬ yb2 = av := fun e => hv2 (hw2.trans e.symm)
                          have HB2 := Lib.hid (show bothB ac bc av (k : Int) = false by rw [HB20]; simp [hz2])
                          have fw2 : (xb2 == av) = true := by simpa using hw2
                          have fz2 : (yb2 == av) = false := by simpa using hz2
                          clear HB20 hw2 hz2
                          have C3 := Lib.hid (fun w' (g : Below W1.heap.size W1 w') => votes_some (.slice p2 l2 c2) ac (k : Int) xb2 xc2 w' (RdT.below RAc.out g (Nat.le_refl _)) o2)
                          have C4 := Lib.hid (fun w' (g : Below W1.heap.size W1 w') => votes_some (.slice p4 l4 c4) bc (k : Int) yb2 yc2 w' (RdT.below RBc.out g (Nat.le_refl _)) r2)
                          clear o2 r2
                          refine (C3.out _ BK).mono ?_
                          rintro e v3 ⟨rfl, g⟩
                          replace qA := kp g qA
                          replace qB := kp g qB
                          replace qX := kp g qX
                          replace qY := kp g qY
                          replace BK := chain BK g
                          clear g
                          obtain ⟨x0, x1, x2, xf⟩ := block_cells3 qX
                          obtain ⟨a0, a1, a2, a3, a4, a5, af⟩ := block_cells6 qA
                          obtain ⟨b0, b1, b2, b3, b4, b5, bf⟩ := block_cells6 qB
                          go_wp2_with fail
                          obtain ⟨w5, hw5⟩ : ∃ W, W = (((v3.setCell ⟨v1.heap.size, 0, none⟩ (.int .i64 (k : Int))).setCell ⟨v1.heap.size, 1, none⟩ (.int .i64 xb2)).setCell ⟨v1.heap.size, 2, none⟩ (.int .i64 xc2)) := ⟨_, rfl⟩
                          rw [← hw5]
                          have G5 : v3.grownBy w5 (some v1.heap.size) := by rw [hw5]; exact grown_setB (grown_setB (grown_setB grown_reflB))
                          replace qX : w5.heap[v1.heap.size]? = some (.cells #[.int .i64 (k : Int), .int .i64 xb2, .int .i64 xc2] 26 (0, 0)) := by rw [hw5]; exact set3_new qX
                          replace qA := (G5.block _ (lt_of_block qA) (fun e => by injection e with e; omega)).trans qA
                          replace qB := (G5.block _ (lt_of_block qB) (fun e => by injection e with e; omega)).trans qB
                          replace qY := (G5.block _ (lt_of_block qY) (fun e => by injection e with e; omega)).trans qY
                          replace BK := below_grownB BK G5 BK.size (by omega)
                          clear hw5 G5 x0 x1 x2 xf
                          clear a0 a1 a2 a3 a4 a5 af b0 b1 b2 b3 b4 b5 bf
                          refine (C4.out _ BK).mono ?_
                          rintro e v4 ⟨rfl, g⟩
                          replace qA := kp g qA
                          replace qB := kp g qB
                          replace qX := kp g qX
                          replace qY := kp g qY
                          replace BK := chain BK g
                          clear g
                          obtain ⟨y0, y1, y2, yf⟩ := block_cells3 qY
                          obtain ⟨x0, x1, x2, xf⟩ := block_cells3 qX
                          obtain ⟨a0, a1, a2, a3, a4, a5, af⟩ := block_cells6 qA
                          obtain ⟨b0, b1, b2, b3, b4, b5, bf⟩ := block_cells6 qB
                          have BE := Lib.hid (below_grownB BK (grown_setB (i := 2) (u := .int .i64 yc2) (grown_setB (i := 1) (u := .int .i64 yb2) (grown_setB (i := 0) (u := .int .i64 (k : Int)) (grown_reflB (r := some v2.heap.size))))) BK.size (by omega))
                          clear qA qB qX BK
                          go_wp2_with fail
                          exact ⟨⟨k + 1, by omega, by push_cast; rfl, cnt_no HB1.out, cnt_no HB2.out, BE.out⟩, by simp [intOf]; omega⟩
                        · have HB2 := Lib.hid (show bothB ac bc av (k : Int) = false by rw [HB20]; simp [hw2])
                          have fw2 : (xb2 == av) = false := by simpa using hw2
                          clear HB20 hw2
                          have C3 := Lib.hid (fun w' (g : Below W1.heap.size W1 w') => votes_some (.slice p2 l2 c2) ac (k : Int) xb2 xc2 w' (RdT.below RAc.out g (Nat.le_refl _)) o2)
                          have C4 := Lib.hid (fun w' (g : Below W1.heap.size W1 w') => votes_some (.slice p4 l4 c4) bc (k : Int) yb2 yc2 w' (RdT.below RBc.out g (Nat.le_refl _)) r2)
                          clear o2 r2
                          refine (C3.out _ BK).mono ?_
                          rintro e v3 ⟨rfl, g⟩
                          replace qA := kp g qA
                          replace qB := kp g qB
                          replace qX := kp g qX
                          replace qY := kp g qY
                          replace BK := chain BK g
                          clear g
                          obtain ⟨x0, x1, x2, xf⟩ := block_cells3 qX
                          obtain ⟨a0, a1, a2, a3, a4, a5, af⟩ := block_cells6 qA
                          obtain ⟨b0, b1, b2, b3, b4, b5, bf⟩ := block_cells6 qB
                          go_wp2_with fail
                          obtain ⟨w5, hw5⟩ : ∃ W, W = (((v3.setCell ⟨v1.heap.size, 0, none⟩ (.int .i64 (k : Int))).setCell ⟨v1.heap.size, 1, none⟩ (.int .i64 xb2)).setCell ⟨v1.heap.size, 2, none⟩ (.int .i64 xc2)) := ⟨_, rfl⟩
                          rw [← hw5]
                          have G5 : v3.grownBy w5 (some v1.heap.size) := by rw [hw5]; exact grown_setB (grown_setB (grown_setB grown_reflB))
                          replace qX : w5.heap[v1.heap.size]? = some (.cells #[.int .i64 (k : Int), .int .i64 xb2, .int .i64 xc2] 26 (0, 0)) := by rw [hw5]; exact set3_new qX
                          replace qA := (G5.block _ (lt_of_block qA) (fun e => by injection e with e; omega)).trans qA
                          replace qB := (G5.block _ (lt_of_block qB) (fun e => by injection e with e; omega)).trans qB
                          replace qY := (G5.block _ (lt_of_block qY) (fun e => by injection e with e; omega)).trans qY
                          replace BK := below_grownB BK G5 BK.size (by omega)
                          clear hw5 G5 x0 x1 x2 xf
                          clear a0 a1 a2 a3 a4 a5 af b0 b1 b2 b3 b4 b5 bf
                          refine (C4.out _ BK).mono ?_
                          rintro e v4 ⟨rfl, g⟩
                          replace qA := kp g qA
                          replace qB := kp g qB
                          replace qX := kp g qX
                          replace qY := kp g qY
                          replace BK := chain BK g
                          clear g
                          obtain ⟨y0, y1, y2, yf⟩ := block_cells3 qY
                          obtain ⟨x0, x1, x2, xf⟩ := block_cells3 qX
                          obtain ⟨a0, a1, a2, a3, a4, a5, af⟩ := block_cells6 qA
                          obtain ⟨b0, b1, b2, b3, b4, b5, bf⟩ := block_cells6 qB
                          have BE := Lib.hid (below_grownB BK (grown_setB (i := 2) (u := .int .i64 yc2) (grown_setB (i := 1) (u := .int .i64 yb2) (grown_setB (i := 0) (u := .int .i64 (k : Int)) (grown_reflB (r := some v2.heap.size))))) BK.size (by omega))
                          clear qA qB qX BK
                          go_wp2_with fail
                          exact ⟨⟨k + 1, by omega, by push_cast; rfl, cnt_no HB1.out, cnt_no HB2.out, BE.out⟩, by simp [intOf]; omega⟩
          · by_cases hw1 : xb1 = av
            · have hz1 : ¬ yb1 = av := fun e => hv1 (hw1.trans e.symm)
              have HB1 := Lib.hid (show bothB ap bp av (k : Int) = false by rw [HB10]; simp [hz1])
              have fw1 : (xb1 == av) = true := by simpa using hw1
              have fz1 : (yb1 == av) = false := by simpa using hz1
              clear HB10 hw1 hz1
              as_aux_lemma =>
                have C1 := Lib.hid (fun w' (g : Below W1.heap.size W1 w') => votes_some (.slice p1 l1 c1) ap (k : Int) xb1 xc1 w' (RdT.below RAp.out g (Nat.le_refl _)) o1)
                have C2 := Lib.hid (fun w' (g : Below W1.heap.size W1 w') => votes_some (.slice p3 l3 c3) bp (k : Int) yb1 yc1 w' (RdT.below RBp.out g (Nat.le_refl _)) r1)
                clear o1 r1
                obtain ⟨a0, a1, a2, a3, a4, a5, af⟩ := block_cells6 qA
                obtain ⟨b0, b1, b2, b3, b4, b5, bf⟩ := block_cells6 qB
                go_wp2_with fail
                refine (C1.out _ BK).mono ?_
                rintro e v1 ⟨rfl, g⟩
                replace qA := kp g qA
                replace qB := kp g qB
                replace BK := chain BK g
                clear g
                clear a0 a1 a2 a3 a4 a5 af b0 b1 b2 b3 b4 b5 bf
                obtain ⟨a0, a1, a2, a3, a4, a5, af⟩ := block_cells6 qA
                obtain ⟨b0, b1, b2, b3, b4, b5, bf⟩ := block_cells6 qB
                have hX := BK.size
                have qX : (v1.alloc (.cells #[.int .i64 (k : Int), .int .i64 xb1, .int .i64 xc1] 26)).heap[v1.heap.size]? = some (.cells #[.int .i64 (k : Int), .int .i64 xb1, .int .i64 xc1] 26 (0, 0)) := heap_alloc_new _ _
                replace qA := ko (.cells #[.int .i64 (k : Int), .int .i64 xb1, .int .i64 xc1] 26) qA
                replace qB := ko (.cells #[.int .i64 (k : Int), .int .i64 xb1, .int .i64 xc1] 26) qB
                replace BK := BK.alloc BK.size (.cells #[.int .i64 (k : Int), .int .i64 xb1, .int .i64 xc1] 26)
                clear a0 a1 a2 a3 a4 a5 af b0 b1 b2 b3 b4 b5 bf
                obtain ⟨a0, a1, a2, a3, a4, a5, af⟩ := block_cells6 qA
                obtain ⟨b0, b1, b2, b3, b4, b5, bf⟩ := block_cells6 qB
                go_wp2_with fail
                refine (C2.out _ BK).mono ?_
                rintro e v2 ⟨rfl, g⟩
                replace qA := kp g qA
                replace qB := kp g qB
                replace qX := kp g qX
                replace BK := chain BK g
                clear g
                have hY := BK.size
                have hXY := lt_of_block qX
                have qY : (v2.alloc (.cells #[.int .i64 (k : Int), .int .i64 yb1, .int .i64 yc1] 26)).heap[v2.heap.size]? = some (.cells #[.int .i64 (k : Int), .int .i64 yb1, .int .i64 yc1] 26 (0, 0)) := heap_alloc_new _ _
                replace qX := ko (.cells #[.int .i64 (k : Int), .int .i64 yb1, .int .i64 yc1] 26) qX
                replace qA := ko (.cells #[.int .i64 (k : Int), .int .i64 yb1, .int .i64 yc1] 26) qA
                replace qB := ko (.cells #[.int .i64 (k : Int), .int .i64 yb1, .int .i64 yc1] 26) qB
                replace BK := BK.alloc BK.size (.cells #[.int .i64 (k : Int), .int .i64 yb1, .int .i64 yc1] 26)
                obtain ⟨x0, x1, x2, xf⟩ := block_cells3 qX
                obtain ⟨y0, y1, y2, yf⟩ := block_cells3 qY
                clear a0 a1 a2 a3 a4 a5 af b0 b1 b2 b3 b4 b5 bf
                obtain ⟨a0, a1, a2, a3, a4, a5, af⟩ := block_cells6 qA
                obtain ⟨b0, b1, b2, b3, b4, b5, bf⟩ := block_cells6 qB
                go_wp2_with fail
                clear x0 x1 x2 xf y0 y1 y2 yf
                clear a0 a1 a2 a3 a4 a5 af b0 b1 b2 b3 b4 b5 bf
                cases o2 : voOf ac (k : Int) with
                | none =>
                  have HB2 := Lib.hid (both_none1 (lb := bc) (vw := av) o2)
                  cases r2 : voOf bc (k : Int) with
                  | none =>
                    have C3 := Lib.hid (fun w' (g : Below W1.heap.size W1 w') => votes_none (.slice p2 l2 c2) ac (k : Int) w' (RdT.below RAc.out g (Nat.le_refl _)) o2)
                    have C4 := Lib.hid (fun w' (g : Below W1.heap.size W1 w') => votes_none (.slice p4 l4 c4) bc (k : Int) w' (RdT.below RBc.out g (Nat.le_refl _)) r2)
                    clear o2 r2
                    refine (C3.out _ BK).mono ?_
                    rintro e v3 ⟨rfl, g⟩
                    replace qA := kp g qA
                    replace qB := kp g qB
                    replace qX := kp g qX
                    replace qY := kp g qY
                    replace BK := chain BK g
                    clear g
                    obtain ⟨x0, x1, x2, xf⟩ := block_cells3 qX
                    obtain ⟨a0, a1, a2, a3, a4, a5, af⟩ := block_cells6 qA
                    obtain ⟨b0, b1, b2, b3, b4, b5, bf⟩ := block_cells6 qB
                    go_wp2_with fail
                    obtain ⟨w5, hw5⟩ : ∃ W, W = (((v3.setCell ⟨v1.heap.size, 0, none⟩ (.int .i64 0)).setCell ⟨v1.heap.size, 1, none⟩ (.int .i64 0)).setCell ⟨v1.heap.size, 2, none⟩ (.int .i64 0)) := ⟨_, rfl⟩
                    rw [← hw5]
                    have G5 : v3.grownBy w5 (some v1.heap.size) := by rw [hw5]; exact grown_setB (grown_setB (grown_setB grown_reflB))
                    replace qX : w5.heap[v1.heap.size]? = some (.cells #[.int .i64 0, .int .i64 0, .int .i64 0] 26 (0, 0)) := by rw [hw5]; exact set3_new qX
                    replace qA := (G5.block _ (lt_of_block qA) (fun e => by injection e with e; omega)).trans qA
                    replace qB := (G5.block _ (lt_of_block qB) (fun e => by injection e with e; omega)).trans qB
                    replace qY := (G5.block _ (lt_of_block qY) (fun e => by injection e with e; omega)).trans qY
                    replace BK := below_grownB BK G5 BK.size (by omega)
                    clear hw5 G5 x0 x1 x2 xf
                    clear a0 a1 a2 a3 a4 a5 af b0 b1 b2 b3 b4 b5 bf
                    refine (C4.out _ BK).mono ?_
                    rintro e v4 ⟨rfl, g⟩
                    replace qA := kp g qA
                    replace qB := kp g qB
                    replace qX := kp g qX
                    replace qY := kp g qY
                    replace BK := chain BK g
                    clear g
                    obtain ⟨y0, y1, y2, yf⟩ := block_cells3 qY
                    obtain ⟨x0, x1, x2, xf⟩ := block_cells3 qX
                    obtain ⟨a0, a1, a2, a3, a4, a5, af⟩ := block_cells6 qA
                    obtain ⟨b0, b1, b2, b3, b4, b5, bf⟩ := block_cells6 qB
                    have BE := Lib.hid (below_grownB BK (grown_setB (i := 2) (u := .int .i64 0) (grown_setB (i := 1) (u := .int .i64 0) (grown_setB (i := 0) (u := .int .i64 0) (grown_reflB (r := some v2.heap.size))))) BK.size (by omega))
                    clear qA qB qX BK
                    go_wp2_with fail
                    exact ⟨⟨k + 1, by omega, by push_cast; rfl, cnt_no HB1.out, cnt_no HB2.out, BE.out⟩, by simp [intOf]; omega⟩
                  | some y =>
                    obtain ⟨yb2, yc2, e2⟩ : ∃ yb yc, y = ⟨(k : Int), yb, yc⟩ := ⟨_, _, vo_fr r2⟩
                    subst e2
                    have C3 := Lib.hid (fun w' (g : Below W1.heap.size W1 w') => votes_none (.slice p2 l2 c2) ac (k : Int) w' (RdT.below RAc.out g (Nat.le_refl _)) o2)
                    have C4 := Lib.hid (fun w' (g : Below W1.heap.size W1 w') => votes_some (.slice p4 l4 c4) bc (k : Int) yb2 yc2 w' (RdT.below RBc.out g (Nat.le_refl _)) r2)
                    clear o2 r2
                    refine (C3.out _ BK).mono ?_
                    rintro e v3 ⟨rfl, g⟩
                    replace qA := kp g qA
                    replace qB := kp g qB
                    replace qX := kp g qX
                    replace qY := kp g qY
                    replace BK := chain BK g
                    clear g
                    obtain ⟨x0, x1, x2, xf⟩ := block_cells3 qX
                    obtain ⟨a0, a1, a2, a3, a4, a5, af⟩ := block_cells6 qA
                    obtain ⟨b0, b1, b2, b3, b4, b5, bf⟩ := block_cells6 qB
                    go_wp2_with fail
                    obtain ⟨w5, hw5⟩ : ∃ W, W = (((v3.setCell ⟨v1.heap.size, 0, none⟩ (.int .i64 0)).setCell ⟨v1.heap.size, 1, none⟩ (.int .i64 0)).setCell ⟨v1.heap.size, 2, none⟩ (.int .i64 0)) := ⟨_, rfl⟩
                    rw [← hw5]
                    have G5 : v3.grownBy w5 (some v1.heap.size) := by rw [hw5]; exact grown_setB (grown_setB (grown_setB grown_reflB))
                    replace qX : w5.heap[v1.heap.size]? = some (.cells #[.int .i64 0, .int .i64 0, .int .i64 0] 26 (0, 0)) := by rw [hw5]; exact set3_new qX
                    replace qA := (G5.block _ (lt_of_block qA) (fun e => by injection e with e; omega)).trans qA
                    replace qB := (G5.block _ (lt_of_block qB) (fun e => by injection e with e; omega)).trans qB
                    replace qY := (G5.block _ (lt_of_block qY) (fun e => by injection e with e; omega)).trans qY
                    replace BK := below_grownB BK G5 BK.size (by omega)
                    clear hw5 G5 x0 x1 x2 xf
                    clear a0 a1 a2 a3 a4 a5 af b0 b1 b2 b3 b4 b5 bf
                    refine (C4.out _ BK).mono ?_
                    rintro e v4 ⟨rfl, g⟩
                    replace qA := kp g qA
                    replace qB := kp g qB
                    replace qX := kp g qX
                    replace qY := kp g qY
                    replace BK := chain BK g
                    clear g
                    obtain ⟨y0, y1, y2, yf⟩ := block_cells3 qY
                    obtain ⟨x0, x1, x2, xf⟩ := block_cells3 qX
                    obtain ⟨a0, a1, a2, a3, a4, a5, af⟩ := block_cells6 qA
                    obtain ⟨b0, b1, b2, b3, b4, b5, bf⟩ := block_cells6 qB
                    have BE := Lib.hid (below_grownB BK (grown_setB (i := 2) (u := .int .i64 yc2) (grown_setB (i := 1) (u := .int .i64 yb2) (grown_setB (i := 0) (u := .int .i64 (k : Int)) (grown_reflB (r := some v2.heap.size))))) BK.size (by omega))
                    clear qA qB qX BK
                    go_wp2_with fail
                    exact ⟨⟨k + 1, by omega, by push_cast; rfl, cnt_no HB1.out, cnt_no HB2.out, BE.out⟩, by simp [intOf]; omega⟩
                | some x =>
                  obtain ⟨xb2, xc2, f2⟩ : ∃ xb xc, x = ⟨(k : Int), xb, xc⟩ := ⟨_, _, vo_fr o2⟩
                  subst f2
                  cases r2 : voOf bc (k : Int) with
                  | none =>
                    have HB2 := Lib.hid (both_none2 (la := ac) (vw := av) r2)
                    have C3 := Lib.hid (fun w' (g : Below W1.heap.size W1 w') => votes_some (.slice p2 l2 c2) ac (k : Int) xb2 xc2 w' (RdT.below RAc.out g (Nat.le_refl _)) o2)
                    have C4 := Lib.hid (fun w' (g : Below W1.heap.size W1 w') => votes_none (.slice p4 l4 c4) bc (k : Int) w' (RdT.below RBc.out g (Nat.le_refl _)) r2)
                    clear o2 r2
                    refine (C3.out _ BK).mono ?_
                    rintro e v3 ⟨rfl, g⟩
                    replace qA := kp g qA
                    replace qB := kp g qB
                    replace qX := kp g qX
                    replace qY := kp g qY
                    replace BK := chain BK g
                    clear g
                    obtain ⟨x0, x1, x2, xf⟩ := block_cells3 qX
                    obtain ⟨a0, a1, a2, a3, a4, a5, af⟩ := block_cells6 qA
                    obtain ⟨b0, b1, b2, b3, b4, b5, bf⟩ := block_cells6 qB
                    go_wp2_with fail
                    obtain ⟨w5, hw5⟩ : ∃ W, W = (((v3.setCell ⟨v1.heap.size, 0, none⟩ (.int .i64 (k : Int))).setCell ⟨v1.heap.size, 1, none⟩ (.int .i64 xb2)).setCell ⟨v1.heap.size, 2, none⟩ (.int .i64 xc2)) := ⟨_, rfl⟩
                    rw [← hw5]
                    have G5 : v3.grownBy w5 (some v1.heap.size) := by rw [hw5]; exact grown_setB (grown_setB (grown_setB grown_reflB))
                    replace qX : w5.heap[v1.heap.size]? = some (.cells #[.int .i64 (k : Int), .int .i64 xb2, .int .i64 xc2] 26 (0, 0)) := by rw [hw5]; exact set3_new qX
                    replace qA := (G5.block _ (lt_of_block qA) (fun e => by injection e with e; omega)).trans qA
                    replace qB := (G5.block _ (lt_of_block qB) (fun e => by injection e with e; omega)).trans qB
                    replace qY := (G5.block _ (lt_of_block qY) (fun e => by injection e with e; omega)).trans qY
                    replace BK := below_grownB BK G5 BK.size (by omega)
                    clear hw5 G5 x0 x1 x2 xf
                    clear a0 a1 a2 a3 a4 a5 af b0 b1 b2 b3 b4 b5 bf
                    refine (C4.out _ BK).mono ?_
                    rintro e v4 ⟨rfl, g⟩
                    replace qA := kp g qA
                    replace qB := kp g qB
                    replace qX := kp g qX
                    replace qY := kp g qY
                    replace BK := chain BK g
                    clear g
                    obtain ⟨y0, y1, y2, yf⟩ := block_cells3 qY
                    obtain ⟨x0, x1, x2, xf⟩ := block_cells3 qX
                    obtain ⟨a0, a1, a2, a3, a4, a5, af⟩ := block_cells6 qA
                    obtain ⟨b0, b1, b2, b3, b4, b5, bf⟩ := block_cells6 qB
                    have BE := Lib.hid (below_grownB BK (grown_setB (i := 2) (u := .int .i64 0) (grown_setB (i := 1) (u := .int .i64 0) (grown_setB (i := 0) (u := .int .i64 0) (grown_reflB (r := some v2.heap.size))))) BK.size (by omega))
                    clear qA qB qX BK
                    go_wp2_with fail
                    exact ⟨⟨k + 1, by omega, by push_cast; rfl, cnt_no HB1.out, cnt_no HB2.out, BE.out⟩, by simp [intOf]; omega⟩
                  | some y =>
                    obtain ⟨yb2, yc2, e2⟩ : ∃ yb yc, y = ⟨(k : Int), yb, yc⟩ := ⟨_, _, vo_fr r2⟩
                    subst e2
                    have HB20 := both_some (vw := av) o2 r2
                    by_cases hv2 : xb2 = yb2
                    · obtain rfl : xb2 = yb2 := hv2
                      by_cases ht2 : xc2 = yc2
                      · obtain rfl : xc2 = yc2 := ht2
                        have HB2 := Lib.hid (show bothB ac bc av (k : Int) = false by rw [HB20]; simp)
                        clear HB20
                        have C3 := Lib.hid (fun w' (g : Below W1.heap.size W1 w') => votes_some (.slice p2 l2 c2) ac (k : Int) xb2 xc2 w' (RdT.below RAc.out g (Nat.le_refl _)) o2)
                        have C4 := Lib.hid (fun w' (g : Below W1.heap.size W1 w') => votes_some (.slice p4 l4 c4) bc (k : Int) xb2 xc2 w' (RdT.below RBc.out g (Nat.le_refl _)) r2)
                        clear o2 r2
                        refine (C3.out _ BK).mono ?_
                        rintro e v3 ⟨rfl, g⟩
                        replace qA := kp g qA
                        replace qB := kp g qB
                        replace qX := kp g qX
                        replace qY := kp g qY
                        replace BK := chain BK g
                        clear g
                        obtain ⟨x0, x1, x2, xf⟩ := block_cells3 qX
                        obtain ⟨a0, a1, a2, a3, a4, a5, af⟩ := block_cells6 qA
                        obtain ⟨b0, b1, b2, b3, b4, b5, bf⟩ := block_cells6 qB
                        go_wp2_with fail
                        obtain ⟨w5, hw5⟩ : ∃ W, W = (((v3.setCell ⟨v1.heap.size, 0, none⟩ (.int .i64 (k : Int))).setCell ⟨v1.heap.size, 1, none⟩ (.int .i64 xb2)).setCell ⟨v1.heap.size, 2, none⟩ (.int .i64 xc2)) := ⟨_, rfl⟩
                        rw [← hw5]
                        have G5 : v3.grownBy w5 (some v1.heap.size) := by rw [hw5]; exact grown_setB (grown_setB (grown_setB grown_reflB))
                        replace qX : w5.heap[v1.heap.size]? = some (.cells #[.int .i64 (k : Int), .int .i64 xb2, .int .i64 xc2] 26 (0, 0)) := by rw [hw5]; exact set3_new qX
                        replace qA := (G5.block _ (lt_of_block qA) (fun e => by injection e with e; omega)).trans qA
                        replace qB := (G5.block _ (lt_of_block qB) (fun e => by injection e with e; omega)).trans qB
                        replace qY := (G5.block _ (lt_of_block qY) (fun e => by injection e with e; omega)).trans qY
                        replace BK := below_grownB BK G5 BK.size (by omega)
                        clear hw5 G5 x0 x1 x2 xf
                        clear a0 a1 a2 a3 a4 a5 af b0 b1 b2 b3 b4 b5 bf
                        refine (C4.out _ BK).mono ?_
                        rintro e v4 ⟨rfl, g⟩
                        replace qA := kp g qA
                        replace qB := kp g qB
                        replace qX := kp g qX
                        replace qY := kp g qY
                        replace BK := chain BK g
                        clear g
                        obtain ⟨y0, y1, y2, yf⟩ := block_cells3 qY
                        obtain ⟨x0, x1, x2, xf⟩ := block_cells3 qX
                        obtain ⟨a0, a1, a2, a3, a4, a5, af⟩ := block_cells6 qA
                        obtain ⟨b0, b1, b2, b3, b4, b5, bf⟩ := block_cells6 qB
                        have BE := Lib.hid (below_grownB BK (grown_setB (i := 2) (u := .int .i64 xc2) (grown_setB (i := 1) (u := .int .i64 xb2) (grown_setB (i := 0) (u := .int .i64 (k : Int)) (grown_reflB (r := some v2.heap.size))))) BK.size (by omega))
                        clear qA qB qX BK
                        go_wp2_with fail
                        exact ⟨⟨k + 1, by omega, by push_cast; rfl, cnt_no HB1.out, cnt_no HB2.out, BE.out⟩, by simp [intOf]; omega⟩
                      · by_cases hw2 : xb2 = av
                        · have HB2 := Lib.hid (show bothB ac bc av (k : Int) = true by rw [HB20]; simp [ht2, hw2])
                          have fw2 : (xb2 == av) = true := by simpa using hw2
                          clear HB20 hw2
                          have C3 := Lib.hid (fun w' (g : Below W1.heap.size W1 w') => votes_some (.slice p2 l2 c2) ac (k : Int) xb2 xc2 w' (RdT.below RAc.out g (Nat.le_refl _)) o2)
                          have C4 := Lib.hid (fun w' (g : Below W1.heap.size W1 w') => votes_some (.slice p4 l4 c4) bc (k : Int) xb2 yc2 w' (RdT.below RBc.out g (Nat.le_refl _)) r2)
                          clear o2 r2
                          refine (C3.out _ BK).mono ?_
                          rintro e v3 ⟨rfl, g⟩
                          replace qA := kp g qA
                          replace qB := kp g qB
                          replace qX := kp g qX
                          replace qY := kp g qY
                          replace BK := chain BK g
                          clear g
                          obtain ⟨x0, x1, x2, xf⟩ := block_cells3 qX
                          obtain ⟨a0, a1, a2, a3, a4, a5, af⟩ := block_cells6 qA
                          obtain ⟨b0, b1, b2, b3, b4, b5, bf⟩ := block_cells6 qB
                          go_wp2_with fail
                          obtain ⟨w5, hw5⟩ : ∃ W, W = (((v3.setCell ⟨v1.heap.size, 0, none⟩ (.int .i64 (k : Int))).setCell ⟨v1.heap.size, 1, none⟩ (.int .i64 xb2)).setCell ⟨v1.heap.size, 2, none⟩ (.int .i64 xc2)) := ⟨_, rfl⟩
                          rw [← hw5]
                          have G5 : v3.grownBy w5 (some v1.heap.size) := by rw [hw5]; exact grown_setB (grown_setB (grown_setB grown_reflB))
                          replace qX : w5.heap[v1.heap.size]? = some (.cells #[.int .i64 (k : Int), .int .i64 xb2, .int .i64 xc2] 26 (0, 0)) := by rw [hw5]; exact set3_new qX
                          replace qA := (G5.block _ (lt_of_block qA) (fun e => by injection e with e; omega)).trans qA
                          replace qB := (G5.block _ (lt_of_block qB) (fun e => by injection e with e; omega)).trans qB
                          replace qY := (G5.block _ (lt_of_block qY) (fun e => by injection e with e; omega)).trans qY
                          replace BK := below_grownB BK G5 BK.size (by omega)
                          clear hw5 G5 x0 x1 x2 xf
                          clear a0 a1 a2 a3 a4 a5 af b0 b1 b2 b3 b4 b5 bf
                          refine (C4.out _ BK).mono ?_
                          rintro e v4 ⟨rfl, g⟩
                          replace qA := kp g qA
                          replace qB := kp g qB
                          replace qX := kp g qX
                          replace qY := kp g qY
                          replace BK := chain BK g
                          clear g
                          obtain ⟨y0, y1, y2, yf⟩ := block_cells3 qY
                          obtain ⟨x0, x1, x2, xf⟩ := block_cells3 qX
                          obtain ⟨a0, a1, a2, a3, a4, a5, af⟩ := block_cells6 qA
                          obtain ⟨b0, b1, b2, b3, b4, b5, bf⟩ := block_cells6 qB
                          have BE := Lib.hid (below_grownB BK (grown_setB (i := 2) (u := .int .i64 yc2) (grown_setB (i := 1) (u := .int .i64 xb2) (grown_setB (i := 0) (u := .int .i64 (k : Int)) (grown_reflB (r := some v2.heap.size))))) BK.size (by omega))
                          clear qA qB qX BK
                          go_wp2_with fail
                          exact ⟨⟨k + 1, by omega, by push_cast; rfl, cnt_no HB1.out, cnt_yes HB2.out, BE.out⟩, by simp [intOf]; omega⟩
                        · have HB2 := Lib.hid (show bothB ac bc av (k : Int) = false by rw [HB20]; simp [hw2])
                          have fw2 : (xb2 == av) = false := by simpa using hw2
                          clear HB20 hw2
                          have C3 := Lib.hid (fun w' (g : Below W1.heap.size W1 w') => votes_some (.slice p2 l2 c2) ac (k : Int) xb2 xc2 w' (RdT.below RAc.out g (Nat.le_refl _)) o2)
                          have C4 := Lib.hid (fun w' (g : Below W1.heap.size W1 w') => votes_some (.slice p4 l4 c4) bc (k : Int) xb2 yc2 w' (RdT.below RBc.out g (Nat.le_refl _)) r2)
                          clear o2 r2
                          refine (C3.out _ BK).mono ?_
                          rintro e v3 ⟨rfl, g⟩
                          replace qA := kp g qA
                          replace qB := kp g qB
                          replace qX := kp g qX
                          replace qY := kp g qY
                          replace BK := chain BK g
                          clear g
                          obtain ⟨x0, x1, x2, xf⟩ := block_cells3 qX
                          obtain ⟨a0, a1, a2, a3, a4, a5, af⟩ := block_cells6 qA
                          obtain ⟨b0, b1, b2, b3, b4, b5, bf⟩ := block_cells6 qB
                          go_wp2_with fail
                          obtain ⟨w5, hw5⟩ : ∃ W, W = (((v3.setCell ⟨v1.heap.size, 0, none⟩ (.int .i64 (k : Int))).setCell ⟨v1.heap.size, 1, none⟩ (.int .i64 xb2)).setCell ⟨v1.heap.size, 2, none⟩ (.int .i64 xc2)) := ⟨_, rfl⟩
                          rw [← hw5]
                          have G5 : v3.grownBy w5 (some v1.heap.size) := by rw [hw5]; exact grown_setB (grown_setB (grown_setB grown_reflB))
                          replace qX : w5.heap[v1.heap.size]? = some (.cells #[.int .i64 (k : Int), .int .i64 xb2, .int .i64 xc2] 26 (0, 0)) := by rw [hw5]; exact set3_new qX
                          replace qA := (G5.block _ (lt_of_block qA) (fun e => by injection e with e; omega)).trans qA
                          replace qB := (G5.block _ (lt_of_block qB) (fun e => by injection e with e; omega)).trans qB
                          replace qY := (G5.block _ (lt_of_block qY) (fun e => by injection e with e; omega)).trans qY
                          replace BK := below_grownB BK G5 BK.size (by omega)
                          clear hw5 G5 x0 x1 x2 xf
                          clear a0 a1 a2 a3 a4 a5 af b0 b1 b2 b3 b4 b5 bf
                          refine (C4.out _ BK).mono ?_
                          rintro e v4 ⟨rfl, g⟩
                          replace qA := kp g qA
                          replace qB := kp g qB
                          replace qX := kp g qX
                          replace qY := kp g qY
                          replace BK := chain BK g
                          clear g
                          obtain ⟨y0, y1, y2, yf⟩ := block_cells3 qY
                          obtain ⟨x0, x1, x2, xf⟩ := block_cells3 qX
                          obtain ⟨a0, a1, a2, a3, a4, a5, af⟩ := block_cells6 qA
                          obtain ⟨b0, b1, b2, b3, b4, b5, bf⟩ := block_cells6 qB
                          have BE := Lib.hid (below_grownB BK (grown_setB (i := 2) (u := .int .i64 yc2) (grown_setB (i := 1) (u := .int .i64 xb2) (grown_setB (i := 0) (u := .int .i64 (k : Int)) (grown_reflB (r := some v2.heap.size))))) BK.size (by omega))
                          clear qA qB qX BK
                          go_wp2_with fail
                          exact ⟨⟨k + 1, by omega, by push_cast; rfl, cnt_no HB1.out, cnt_no HB2.out, BE.out⟩, by simp [intOf]; omega⟩
                    · by_cases hw2 : xb2 = av
                      · have hz2 : ¬ yb2 = av := fun e => hv2 (hw2.trans e.symm)
                        have HB2 := Lib.hid (show bothB ac bc av (k : Int) = false by rw [HB20]; simp [hz2])
                        have fw2 : (xb2 == av) = true := by simpa using hw2
                        have fz2 : (yb2 == av) = false := by simpa using hz2
                        clear HB20 hw2 hz2
                        have C3 := Lib.hid (fun w' (g : Below W1.heap.size W1 w') => votes_some (.slice p2 l2 c2) ac (k : Int) xb2 xc2 w' (RdT.below RAc.out g (Nat.le_refl _)) o2)
                        have C4 := Lib.hid (fun w' (g : Below W1.heap.size W1 w') => votes_some (.slice p4 l4 c4) bc (k : Int) yb2 yc2 w' (RdT.below RBc.out g (Nat.le_refl _)) r2)
                        clear o2 r2
                        refine (C3.out _ BK).mono ?_
                        rintro e v3 ⟨rfl, g⟩
                        replace qA := kp g qA
                        replace qB := kp g qB
                        replace qX := kp g qX
                        replace qY := kp g qY
                        replace BK := chain BK g
                        clear g
                        obtain ⟨x0, x1, x2, xf⟩ := block_cells3 qX
                        obtain ⟨a0, a1, a2, a3, a4, a5, af⟩ := block_cells6 qA
                        obtain ⟨b0, b1, b2, b3, b4, b5, bf⟩ := block_cells6 qB
                        go_wp2_with fail
                        obtain ⟨w5, hw5⟩ : ∃ W, W = (((v3.setCell ⟨v1.heap.size, 0, none⟩ (.int .i64 (k : Int))).setCell ⟨v1.heap.size, 1, none⟩ (.int .i64 xb2)).setCell ⟨v1.heap.size, 2, none⟩ (.int .i64 xc2)) := ⟨_, rfl⟩
                        rw [← hw5]
                        have G5 : v3.grownBy w5 (some v1.heap.size) := by rw [hw5]; exact grown_setB (grown_setB (grown_setB grown_reflB))
                        replace qX : w5.heap[v1.heap.size]? = some (.cells #[.int .i64 (k : Int), .int .i64 xb2, .int .i64 xc2] 26 (0, 0)) := by rw [hw5]; exact set3_new qX
                        replace qA := (G5.block _ (lt_of_block qA) (fun e => by injection e with e; omega)).trans qA
                        replace qB := (G5.block _ (lt_of_block qB) (fun e => by injection e with e; omega)).trans qB
                        replace qY := (G5.block _ (lt_of_block qY) (fun e => by injection e with e; omega)).trans qY
                        replace BK := below_grownB BK G5 BK.size (by omega)
                        clear hw5 G5 x0 x1 x2 xf
                        clear a0 a1 a2 a3 a4 a5 af b0 b1 b2 b3 b4 b5 bf
                        refine (C4.out _ BK).mono ?_
                        rintro e v4 ⟨rfl, g⟩
                        replace qA := kp g qA
                        replace qB := kp g qB
                        replace qX := kp g qX
                        replace qY := kp g qY
                        replace BK := chain BK g
                        clear g
                        obtain ⟨y0, y1, y2, yf⟩ := block_cells3 qY
                        obtain ⟨x0, x1, x2, xf⟩ := block_cells3 qX
                        obtain ⟨a0, a1, a2, a3, a4, a5, af⟩ := block_cells6 qA
                        obtain ⟨b0, b1, b2, b3, b4, b5, bf⟩ := block_cells6 qB
                        have BE := Lib.hid (below_grownB BK (grown_setB (i := 2) (u := .int .i64 yc2) (grown_setB (i := 1) (u := .int .i64 yb2) (grown_setB (i := 0) (u := .int .i64 (k : Int)) (grown_reflB (r := some v2.heap.size))))) BK.size (by omega))
                        clear qA qB qX BK
                        go_wp2_with fail
                        exact ⟨⟨k + 1, by omega, by push_cast; rfl, cnt_no HB1.out, cnt_no HB2.out, BE.out⟩, by simp [intOf]; omega⟩
                      · have HB2 := Lib.hid (show bothB ac bc av (k : Int) = false by rw [HB20]; simp [hw2])
                        have fw2 : (xb2 == av) = false := by simpa using hw2
                        clear HB20 hw2
                        have C3 := Lib.hid (fun w' (g : Below W1.heap.size W1 w') => votes_some (.slice p2 l2 c2) ac (k : Int) xb2 xc2 w' (RdT.below RAc.out g (Nat.le_refl _)) o2)
                        have C4 := Lib.hid (fun w' (g : Below W1.heap.size W1 w') => votes_some (.slice p4 l4 c4) bc (k : Int) yb2 yc2 w' (RdT.below RBc.out g (Nat.le_refl _)) r2)
                        clear o2 r2
                        refine (C3.out _ BK).mono ?_
                        rintro e v3 ⟨rfl, g⟩
                        replace qA := kp g qA
                        replace qB := kp g qB
                        replace qX := kp g qX
                        replace qY := kp g qY
                        replace BK := chain BK g
                        clear g
                        obtain ⟨x0, x1, x2, xf⟩ := block_cells3 qX
                        obtain ⟨a0, a1, a2, a3, a4, a5, af⟩ := block_cells6 qA
                        obtain ⟨b0, b1, b2, b3, b4, b5, bf⟩ := block_cells6 qB
                        go_wp2_with fail
                        obtain ⟨w5, hw5⟩ : ∃ W, W = (((v3.setCell ⟨v1.heap.size, 0, none⟩ (.int .i64 (k : Int))).setCell ⟨v1.heap.size, 1, none⟩ (.int .i64 xb2)).setCell ⟨v1.heap.size, 2, none⟩ (.int .i64 xc2)) := ⟨_, rfl⟩
                        rw [← hw5]
                        have G5 : v3.grownBy w5 (some v1.heap.size) := by rw [hw5]; exact grown_setB (grown_setB (grown_setB grown_reflB))
                        replace qX : w5.heap[v1.heap.size]? = some (.cells #[.int .i64 (k : Int), .int .i64 xb2, .int .i64 xc2] 26 (0, 0)) := by rw [hw5]; exact set3_new qX
                        replace qA := (G5.block _ (lt_of_block qA) (fun e => by injection e with e; omega)).trans qA
                        replace qB := (G5.block _ (lt_of_block qB) (fun e => by injection e with e; omega)).trans qB
                        replace qY := (G5.block _ (lt_of_block qY) (fun e => by injection e with e; omega)).trans qY
                        replace BK := below_grownB BK G5 BK.size (by omega)
                        clear hw5 G5 x0 x1 x2 xf
                        clear a0 a1 a2 a3 a4 a5 af b0 b1 b2 b3 b4 b5 bf
                        refine (C4.out _ BK).mono ?_
                        rintro e v4 ⟨rfl, g⟩
                        replace qA := kp g qA
                        replace qB := kp g qB
                        replace qX := kp g qX
                        replace qY := kp g qY
                        replace BK := chain BK g
                        clear g
                        obtain ⟨y0, y1, y2, yf⟩ := block_cells3 qY
                        obtain ⟨x0, x1, x2, xf⟩ := block_cells3 qX
                        obtain ⟨a0, a1, a2, a3, a4, a5, af⟩ := block_cells6 qA
                        obtain ⟨b0, b1, b2, b3, b4, b5, bf⟩ := block_cells6 qB
                        have BE := Lib.hid (below_grownB BK (grown_setB (i := 2) (u := .int .i64 yc2) (grown_setB (i := 1) (u := .int .i64 yb2) (grown_setB (i := 0) (u := .int .i64 (k : Int)) (grown_reflB (r := some v2.heap.size))))) BK.size (by omega))
                        clear qA qB qX BK
                        go_wp2_with fail
                        exact ⟨⟨k + 1, by omega, by push_cast; rfl, cnt_no HB1.out, cnt_no HB2.out, BE.out⟩, by simp [intOf]; omega⟩
            · have HB1 := Lib.hid (show bothB ap bp av (k : Int) = false by rw [HB10]; simp [hw1])
              have fw1 : (xb1 == av) = false := by simpa using hw1
              clear HB10 hw1
              as_aux_lemma =>
                have C1 := Lib.hid (fun w' (g : Below W1.heap.size W1 w') => votes_some (.slice p1 l1 c1) ap (k : Int) xb1 xc1 w' (RdT.below RAp.out g (Nat.le_refl _)) o1)
                have C2 := Lib.hid (fun w' (g : Below W1.heap.size W1 w') => votes_some (.slice p3 l3 c3) bp (k : Int) yb1 yc1 w' (RdT.below RBp.out g (Nat.le_refl _)) r1)
                clear o1 r1
                obtain ⟨a0, a1, a2, a3, a4, a5, af⟩ := block_cells6 qA
                obtain ⟨b0, b1, b2, b3, b4, b5, bf⟩ := block_cells6 qB
                go_wp2_with fail
                refine (C1.out _ BK).mono ?_
                rintro e v1 ⟨rfl, g⟩
                replace qA := kp g qA
                replace qB := kp g qB
                replace BK := chain BK g
                clear g
                clear a0 a1 a2 a3 a4 a5 af b0 b1 b2 b3 b4 b5 bf
                obtain ⟨a0, a1, a2, a3, a4, a5, af⟩ := block_cells6 qA
                obtain ⟨b0, b1, b2, b3, b4, b5, bf⟩ := block_cells6 qB
                have hX := BK.size
                have qX : (v1.alloc (.cells #[.int .i64 (k : Int), .int .i64 xb1, .int .i64 xc1] 26)).heap[v1.heap.size]? = some (.cells #[.int .i64 (k : Int), .int .i64 xb1, .int .i64 xc1] 26 (0, 0)) := heap_alloc_new _ _
                replace qA := ko (.cells #[.int .i64 (k : Int), .int .i64 xb1, .int .i64 xc1] 26) qA
                replace qB := ko (.cells #[.int .i64 (k : Int), .int .i64 xb1, .int .i64 xc1] 26) qB
                replace BK := BK.alloc BK.size (.cells #[.int .i64 (k : Int), .int .i64 xb1, .int .i64 xc1] 26)
                clear a0 a1 a2 a3 a4 a5 af b0 b1 b2 b3 b4 b5 bf
                obtain ⟨a0, a1, a2, a3, a4, a5, af⟩ := block_cells6 qA
                obtain ⟨b0, b1, b2, b3, b4, b5, bf⟩ := block_cells6 qB
                go_wp2_with fail
                refine (C2.out _ BK).mono ?_
                rintro e v2 ⟨rfl, g⟩
                replace qA := kp g qA
                replace qB := kp g qB
                replace qX := kp g qX
                replace BK := chain BK g
                clear g
                have hY := BK.size
                have hXY := lt_of_block qX
                have qY : (v2.alloc (.cells #[.int .i64 (k : Int), .int .i64 yb1, .int .i64 yc1] 26)).heap[v2.heap.size]? = some (.cells #[.int .i64 (k : Int), .int .i64 yb1, .int .i64 yc1] 26 (0, 0)) := heap_alloc_new _ _
                replace qX := ko (.cells #[.int .i64 (k : Int), .int .i64 yb1, .int .i64 yc1] 26) qX
                replace qA := ko (.cells #[.int .i64 (k : Int), .int .i64 yb1, .int .i64 yc1] 26) qA
                replace qB := ko (.cells #[.int .i64 (k : Int), .int .i64 yb1, .int .i64 yc1] 26) qB
                replace BK := BK.alloc BK.size (.cells #[.int .i64 (k : Int), .int .i64 yb1, .int .i64 yc1] 26)
                obtain ⟨x0, x1, x2, xf⟩ := block_cells3 qX
                obtain ⟨y0, y1, y2, yf⟩ := block_cells3 qY
                clear a0 a1 a2 a3 a4 a5 af b0 b1 b2 b3 b4 b5 bf
                obtain ⟨a0, a1, a2, a3, a4, a5, af⟩ := block_cells6 qA
                obtain ⟨b0, b1, b2, b3, b4, b5, bf⟩ := block_cells6 qB
                go_wp2_with fail
                clear x0 x1 x2 xf y0 y1 y2 yf
                clear a0 a1 a2 a3 a4 a5 af b0 b1 b2 b3 b4 b5 bf
                cases o2 : voOf ac (k : Int) with
                | none =>
                  have HB2 := Lib.hid (both_none1 (lb := bc) (vw := av) o2)
                  cases r2 : voOf bc (k : Int) with
                  | none =>
                    have C3 := Lib.hid (fun w' (g : Below W1.heap.size W1 w') => votes_none (.slice p2 l2 c2) ac (k : Int) w' (RdT.below RAc.out g (Nat.le_refl _)) o2)
                    have C4 := Lib.hid (fun w' (g : Below W1.heap.size W1 w') => votes_none (.slice p4 l4 c4) bc (k : Int) w' (RdT.below RBc.out g (Nat.le_refl _)) r2)
                    clear o2 r2
                    refine (C3.out _ BK).mono ?_
                    rintro e v3 ⟨rfl, g⟩
                    replace qA := kp g qA
                    replace qB := kp g qB
                    replace qX := kp g qX
                    replace qY := kp g qY
                    replace BK := chain BK g
                    clear g
                    obtain ⟨x0, x1, x2, xf⟩ := block_cells3 qX
                    obtain ⟨a0, a1, a2, a3, a4, a5, af⟩ := block_cells6 qA
                    obtain ⟨b0, b1, b2, b3, b4, b5, bf⟩ := block_cells6 qB
                    go_wp2_with fail
                    obtain ⟨w5, hw5⟩ : ∃ W, W = (((v3.setCell ⟨v1.heap.size, 0, none⟩ (.int .i64 0)).setCell ⟨v1.heap.size, 1, none⟩ (.int .i64 0)).setCell ⟨v1.heap.size, 2, none⟩ (.int .i64 0)) := ⟨_, rfl⟩
                    rw [← hw5]
                    have G5 : v3.grownBy w5 (some v1.heap.size) := by rw [hw5]; exact grown_setB (grown_setB (grown_setB grown_reflB))
                    replace qX : w5.heap[v1.heap.size]? = some (.cells #[.int .i64 0, .int .i64 0, .int .i64 0] 26 (0, 0)) := by rw [hw5]; exact set3_new qX
                    replace qA := (G5.block _ (lt_of_block qA) (fun e => by injection e with e; omega)).trans qA
                    replace qB := (G5.block _ (lt_of_block qB) (fun e => by injection e with e; omega)).trans qB
                    replace qY := (G5.block _ (lt_of_block qY) (fun e => by injection e with e; omega)).trans qY
                    replace BK := below_grownB BK G5 BK.size (by omega)
                    clear hw5 G5 x0 x1 x2 xf
                    clear a0 a1 a2 a3 a4 a5 af b0 b1 b2 b3 b4 b5 bf
                    refine (C4.out _ BK).mono ?_
                    rintro e v4 ⟨rfl, g⟩
                    replace qA := kp g qA
                    replace qB := kp g qB
                    replace qX := kp g qX
                    replace qY := kp g qY
                    replace BK := chain BK g
                    clear g
                    obtain ⟨y0, y1, y2, yf⟩ := block_cells3 qY
                    obtain ⟨x0, x1, x2, xf⟩ := block_cells3 qX
                    obtain ⟨a0, a1, a2, a3, a4, a5, af⟩ := block_cells6 qA
                    obtain ⟨b0, b1, b2, b3, b4, b5, bf⟩ := block_cells6 qB
                    have BE := Lib.hid (below_grownB BK (grown_setB (i := 2) (u := .int .i64 0) (grown_setB (i := 1) (u := .int .i64 0) (grown_setB (i := 0) (u := .int .i64 0) (grown_reflB (r := some v2.heap.size))))) BK.size (by omega))
                    clear qA qB qX BK
                    go_wp2_with fail
                    exact ⟨⟨k + 1, by omega, by push_cast; rfl, cnt_no HB1.out, cnt_no HB2.out, BE.out⟩, by simp [intOf]; omega⟩
                  | some y =>
                    obtain ⟨yb2, yc2, e2⟩ : ∃ yb yc, y = ⟨(k : Int), yb, yc⟩ := ⟨_, _, vo_fr r2⟩
                    subst e2
                    have C3 := Lib.hid (fun w' (g : Below W1.heap.size W1 w') => votes_none (.slice p2 l2 c2) ac (k : Int) w' (RdT.below RAc.out g (Nat.le_refl _)) o2)
                    have C4 := Lib.hid (fun w' (g : Below W1.heap.size W1 w') => votes_some (.slice p4 l4 c4) bc (k : Int) yb2 yc2 w' (RdT.below RBc.out g (Nat.le_refl _)) r2)
                    clear o2 r2
                    refine (C3.out _ BK).mono ?_
                    rintro e v3 ⟨rfl, g⟩
                    replace qA := kp g qA
                    replace qB := kp g qB
                    replace qX := kp g qX
                    replace qY := kp g qY
                    replace BK := chain BK g
                    clear g
                    obtain ⟨x0, x1, x2, xf⟩ := block_cells3 qX
                    obtain ⟨a0, a1, a2, a3, a4, a5, af⟩ := block_cells6 qA
                    obtain ⟨b0, b1, b2, b3, b4, b5, bf⟩ := block_cells6 qB
                    go_wp2_with fail
                    obtain ⟨w5, hw5⟩ : ∃ W, W = (((v3.setCell ⟨v1.heap.size, 0, none⟩ (.int .i64 0)).setCell ⟨v1.heap.size, 1, none⟩ (.int .i64 0)).setCell ⟨v1.heap.size, 2, none⟩ (.int .i64 0)) := ⟨_, rfl⟩
                    rw [← hw5]
                    have G5 : v3.grownBy w5 (some v1.heap.size) := by rw [hw5]; exact grown_setB (grown_setB (grown_setB grown_reflB))
                    replace qX : w5.heap[v1.heap.size]? = some (.cells #[.int .i64 0, .int .i64 0, .int .i64 0] 26 (0, 0)) := by rw [hw5]; exact set3_new qX
                    replace qA := (G5.block _ (lt_of_block qA) (fun e => by injection e with e; omega)).trans qA
                    replace qB := (G5.block _ (lt_of_block qB) (fun e => by injection e with e; omega)).trans qB
                    replace qY := (G5.block _ (lt_of_block qY) (fun e => by injection e with e; omega)).trans qY
                    replace BK := below_grownB BK G5 BK.size (by omega)
                    clear hw5 G5 x0 x1 x2 xf
                    clear a0 a1 a2 a3 a4 a5 af b0 b1 b2 b3 b4 b5 bf
                    refine (C4.out _ BK).mono ?_
                    rintro e v4 ⟨rfl, g⟩
                    replace qA := kp g qA
                    replace qB := kp g qB
                    replace qX := kp g qX
                    replace qY := kp g qY
                    replace BK := chain BK g
                    clear g
                    obtain ⟨y0, y1, y2, yf⟩ := block_cells3 qY
                    obtain ⟨x0, x1, x2, xf⟩ := block_cells3 qX
                    obtain ⟨a0, a1, a2, a3, a4, a5, af⟩ := block_cells6 qA
                    obtain ⟨b0, b1, b2, b3, b4, b5, bf⟩ := block_cells6 qB
                    have BE := Lib.hid (below_grownB BK (grown_setB (i := 2) (u := .int .i64 yc2) (grown_setB (i := 1) (u := .int .i64 yb2) (grown_setB (i := 0) (u := .int .i64 (k : Int)) (grown_reflB (r := some v2.heap.size))))) BK.size (by omega))
                    clear qA qB qX BK
                    go_wp2_with fail
                    exact ⟨⟨k + 1, by omega, by push_cast; rfl, cnt_no HB1.out, cnt_no HB2.out, BE.out⟩, by simp [intOf]; omega⟩
                | some x =>
                  obtain ⟨xb2, xc2, f2⟩ : ∃ xb xc, x = ⟨(k : Int), xb, xc⟩ := ⟨_, _, vo_fr o2⟩
                  subst f2
                  cases r2 : voOf bc (k : Int) with
                  | none =>
                    have HB2 := Lib.hid (both_none2 (la := ac) (vw := av) r2)
                    have C3 := Lib.hid (fun w' (g : Below W1.heap.size W1 w') => votes_some (.slice p2 l2 c2) ac (k : Int) xb2 xc2 w' (RdT.below RAc.out g (Nat.le_refl _)) o2)
                    have C4 := Lib.hid (fun w' (g : Below W1.heap.size W1 w') => votes_none (.slice p4 l4 c4) bc (k : Int) w' (RdT.below RBc.out g (Nat.le_refl _)) r2)
                    clear o2 r2
                    refine (C3.out _ BK).mono ?_
                    rintro e v3 ⟨rfl, g⟩
                    replace qA := kp g qA
                    replace qB := kp g qB
                    replace qX := kp g qX
                    replace qY := kp g qY
                    replace BK := chain BK g
                    clear g
                    obtain ⟨x0, x1, x2, xf⟩ := block_cells3 qX
                    obtain ⟨a0, a1, a2, a3, a4, a5, af⟩ := block_cells6 qA
                    obtain ⟨b0, b1, b2, b3, b4, b5, bf⟩ := block_cells6 qB
                    go_wp2_with fail
                    obtain ⟨w5, hw5⟩ : ∃ W, W = (((v3.setCell ⟨v1.heap.size, 0, none⟩ (.int .i64 (k : Int))).setCell ⟨v1.heap.size, 1, none⟩ (.int .i64 xb2)).setCell ⟨v1.heap.size, 2, none⟩ (.int .i64 xc2)) := ⟨_, rfl⟩
                    rw [← hw5]
                    have G5 : v3.grownBy w5 (some v1.heap.size) := by rw [hw5]; exact grown_setB (grown_setB (grown_setB grown_reflB))
                    replace qX : w5.heap[v1.heap.size]? = some (.cells #[.int .i64 (k : Int), .int .i64 xb2, .int .i64 xc2] 26 (0, 0)) := by rw [hw5]; exact set3_new qX
                    replace qA := (G5.block _ (lt_of_block qA) (fun e => by injection e with e; omega)).trans qA
                    replace qB := (G5.block _ (lt_of_block qB) (fun e => by injection e with e; omega)).trans qB
                    replace qY := (G5.block _ (lt_of_block qY) (fun e => by injection e with e; omega)).trans qY
                    replace BK := below_grownB BK G5 BK.size (by omega)
                    clear hw5 G5 x0 x1 x2 xf
                    clear a0 a1 a2 a3 a4 a5 af b0 b1 b2 b3 b4 b5 bf
                    refine (C4.out _ BK).mono ?_
                    rintro e v4 ⟨rfl, g⟩
                    replace qA := kp g qA
                    replace qB := kp g qB
                    replace qX := kp g qX
                    replace qY := kp g qY
                    replace BK := chain BK g
                    clear g
                    obtain ⟨y0, y1, y2, yf⟩ := block_cells3 qY
                    obtain ⟨x0, x1, x2, xf⟩ := block_cells3 qX
                    obtain ⟨a0, a1, a2, a3, a4, a5, af⟩ := block_cells6 qA
                    obtain ⟨b0, b1, b2, b3, b4, b5, bf⟩ := block_cells6 qB
                    have BE := Lib.hid (below_grownB BK (grown_setB (i := 2) (u := .int .i64 0) (grown_setB (i := 1) (u := .int .i64 0) (grown_setB (i := 0) (u := .int .i64 0) (grown_reflB (r := some v2.heap.size))))) BK.size (by omega))
                    clear qA qB qX BK
                    go_wp2_with fail
                    exact ⟨⟨k + 1, by omega, by push_cast; rfl, cnt_no HB1.out, cnt_no HB2.out, BE.out⟩, by simp [intOf]; omega⟩
                  | some y =>
                    obtain ⟨yb2, yc2, e2⟩ : ∃ yb yc, y = ⟨(k : Int), yb, yc⟩ := ⟨_, _, vo_fr r2⟩
                    subst e2
                    have HB20 := both_some (vw := av) o2 r2
                    by_cases hv2 : xb2 = yb2
                    · obtain rfl : xb2 = yb2 := hv2
                      by_cases ht2 : xc2 = yc2
                      · obtain rfl : xc2 = yc2 := ht2
                        have HB2 := Lib.hid (show bothB ac bc av (k : Int) = false by rw [HB20]; simp)
                        clear HB20
                        have C3 := Lib.hid (fun w' (g : Below W1.heap.size W1 w') => votes_some (.slice p2 l2 c2) ac (k : Int) xb2 xc2 w' (RdT.below RAc.out g (Nat.le_refl _)) o2)
                        have C4 := Lib.hid (fun w' (g : Below W1.heap.size W1 w') => votes_some (.slice p4 l4 c4) bc (k : Int) xb2 xc2 w' (RdT.below RBc.out g (Nat.le_refl _)) r2)
                        clear o2 r2
                        refine (C3.out _ BK).mono ?_
                        rintro e v3 ⟨rfl, g⟩
                        replace qA := kp g qA
                        replace qB := kp g qB
                        replace qX := kp g qX
                        replace qY := kp g qY
                        replace BK := chain BK g
                        clear g
                        obtain ⟨x0, x1, x2, xf⟩ := block_cells3 qX
                        obtain ⟨a0, a1, a2, a3, a4, a5, af⟩ := block_cells6 qA
                        obtain ⟨b0, b1, b2, b3, b4, b5, bf⟩ := block_cells6 qB
                        go_wp2_with fail
                        obtain ⟨w5, hw5⟩ : ∃ W, W = (((v3.setCell ⟨v1.heap.size, 0, none⟩ (.int .i64 (k : Int))).setCell ⟨v1.heap.size, 1, none⟩ (.int .i64 xb2)).setCell ⟨v1.heap.size, 2, none⟩ (.int .i64 xc2)) := ⟨_, rfl⟩
                        rw [← hw5]
                        have G5 : v3.grownBy w5 (some v1.heap.size) := by rw [hw5]; exact grown_setB (grown_setB (grown_setB grown_reflB))
                        replace qX : w5.heap[v1.heap.size]? = some (.cells #[.int .i64 (k : Int), .int .i64 xb2, .int .i64 xc2] 26 (0, 0)) := by rw [hw5]; exact set3_new qX
                        replace qA := (G5.block _ (lt_of_block qA) (fun e => by injection e with e; omega)).trans qA
                        replace qB := (G5.block _ (lt_of_block qB) (fun e => by injection e with e; omega)).trans qB
                        replace qY := (G5.block _ (lt_of_block qY) (fun e => by injection e with e; omega)).trans qY
                        replace BK := below_grownB BK G5 BK.size (by omega)
                        clear hw5 G5 x0 x1 x2 xf
                        clear a0 a1 a2 a3 a4 a5 af b0 b1 b2 b3 b4 b5 bf
                        refine (C4.out _ BK).mono ?_
                        rintro e v4 ⟨rfl, g⟩
                        replace qA := kp g qA
                        replace qB := kp g qB
                        replace qX := kp g qX
                        replace qY := kp g qY
                        replace BK := chain BK g
                        clear g
                        obtain ⟨y0, y1, y2, yf⟩ := block_cells3 qY
                        obtain ⟨x0, x1, x2, xf⟩ := block_cells3 qX
                        obtain ⟨a0, a1, a2, a3, a4, a5, af⟩ := block_cells6 qA
                        obtain ⟨b0, b1, b2, b3, b4, b5, bf⟩ := block_cells6 qB
                        have BE := Lib.hid (below_grownB BK (grown_setB (i := 2) (u := .int .i64 xc2) (grown_setB (i := 1) (u := .int .i64 xb2) (grown_setB (i := 0) (u := .int .i64 (k : Int)) (grown_reflB (r := some v2.heap.size))))) BK.size (by omega))
                        clear qA qB qX BK
                        go_wp2_with fail
                        exact ⟨⟨k + 1, by omega, by push_cast; rfl, cnt_no HB1.out, cnt_no HB2.out, BE.out⟩, by simp [intOf]; omega⟩
                      · by_cases hw2 : xb2 = av
                        · have HB2 := Lib.hid (show bothB ac bc av (k : Int) = true by rw [HB20]; simp [ht2, hw2])
                          have fw2 : (xb2 == av) = true := by simpa using hw2
                          clear HB20 hw2
                          have C3 := Lib.hid (fun w' (g : Below W1.heap.size W1 w') => votes_some (.slice p2 l2 c2) ac (k : Int) xb2 xc2 w' (RdT.below RAc.out g (Nat.le_refl _)) o2)
                          have C4 := Lib.hid (fun w' (g : Below W1.heap.size W1 w') => votes_some (.slice p4 l4 c4) bc (k : Int) xb2 yc2 w' (RdT.below RBc.out g (Nat.le_refl _)) r2)
                          clear o2 r2
                          refine (C3.out _ BK).mono ?_
                          rintro e v3 ⟨rfl, g⟩
                          replace qA := kp g qA
                          replace qB := kp g qB
                          replace qX := kp g qX
                          replace qY := kp g qY
                          replace BK := chain BK g
                          clear g
                          obtain ⟨x0, x1, x2, xf⟩ := block_cells3 qX
                          obtain ⟨a0, a1, a2, a3, a4, a5, af⟩ := block_cells6 qA
                          obtain ⟨b0, b1, b2, b3, b4, b5, bf⟩ := block_cells6 qB
                          go_wp2_with fail
                          obtain ⟨w5, hw5⟩ : ∃ W, W = (((v3.setCell ⟨v1.heap.size, 0, none⟩ (.int .i64 (k : Int))).setCell ⟨v1.heap.size, 1, none⟩ (.int .i64 xb2)).setCell ⟨v1.heap.size, 2, none⟩ (.int .i64 xc2)) := ⟨_, rfl⟩
                          rw [← hw5]
                          have G5 : v3.grownBy w5 (some v1.heap.size) := by rw [hw5]; exact grown_setB (grown_setB (grown_setB grown_reflB))
                          replace qX : w5.heap[v1.heap.size]? = some (.cells #[.int .i64 (k : Int), .int .i64 xb2, .int .i64 xc2] 26 (0, 0)) := by rw [hw5]; exact set3_new qX
                          replace qA := (G5.block _ (lt_of_block qA) (fun e => by injection e with e; omega)).trans qA
                          replace qB := (G5.block _ (lt_of_block qB) (fun e => by injection e with e; omega)).trans qB
                          replace qY := (G5.block _ (lt_of_block qY) (fun e => by injection e with e; omega)).trans qY
                          replace BK := below_grownB BK G5 BK.size (by omega)
                          clear hw5 G5 x0 x1 x2 xf
                          clear a0 a1 a2 a3 a4 a5 af b0 b1 b2 b3 b4 b5 bf
                          refine (C4.out _ BK).mono ?_
                          rintro e v4 ⟨rfl, g⟩
                          replace qA := kp g qA
                          replace qB := kp g qB
                          replace qX := kp g qX
                          replace qY := kp g qY
                          replace BK := chain BK g
                          clear g
                          obtain ⟨y0, y1, y2, yf⟩ := block_cells3 qY
                          obtain ⟨x0, x1, x2, xf⟩ := block_cells3 qX
                          obtain ⟨a0, a1, a2, a3, a4, a5, af⟩ := block_cells6 qA
                          obtain ⟨b0, b1, b2, b3, b4, b5, bf⟩ := block_cells6 qB
                          have BE := Lib.hid (below_grownB BK (grown_setB (i := 2) (u := .int .i64 yc2) (grown_setB (i := 1) (u := .int .i64 xb2) (grown_setB (i := 0) (u := .int .i64 (k : Int)) (grown_reflB (r := some v2.heap.size))))) BK.size (by omega))
                          clear qA qB qX BK
                          go_wp2_with fail
                          exact ⟨⟨k + 1, by omega, by push_cast; rfl, cnt_no HB1.out, cnt_yes HB2.out, BE.out⟩, by simp [intOf]; omega⟩
                        · have HB2 := Lib.hid (show bothB ac bc av (k : Int) = false by rw [HB20]; simp [hw2])
                          have fw2 : (xb2 == av) = false := by simpa using hw2
                          clear HB20 hw2
                          have C3 := Lib.hid (fun w' (g : Below W1.heap.size W1 w') => votes_some (.slice p2 l2 c2) ac (k : Int) xb2 xc2 w' (RdT.below RAc.out g (Nat.le_refl _)) o2)
                          have C4 := Lib.hid (fun w' (g : Below W1.heap.size W1 w') => votes_some (.slice p4 l4 c4) bc (k : Int) xb2 yc2 w' (RdT.below RBc.out g (Nat.le_refl _)) r2)
                          clear o2 r2
                          refine (C3.out _ BK).mono ?_
                          rintro e v3 ⟨rfl, g⟩
                          replace qA := kp g qA
                          replace qB := kp g qB
                          replace qX := kp g qX
                          replace qY := kp g qY
                          replace BK := chain BK g
                          clear g
                          obtain ⟨x0, x1, x2, xf⟩ := block_cells3 qX
                          obtain ⟨a0, a1, a2, a3, a4, a5, af⟩ := block_cells6 qA
                          obtain ⟨b0, b1, b2, b3, b4, b5, bf⟩ := block_cells6 qB
                          go_wp2_with fail
                          obtain ⟨w5, hw5⟩ : ∃ W, W = (((v3.setCell ⟨v1.heap.size, 0, none⟩ (.int .i64 (k : Int))).setCell ⟨v1.heap.size, 1, none⟩ (.int .i64 xb2)).setCell ⟨v1.heap.size, 2, none⟩ (.int .i64 xc2)) := ⟨_, rfl⟩
                          rw [← hw5]
                          have G5 : v3.grownBy w5 (some v1.heap.size) := by rw [hw5]; exact grown_setB (grown_setB (grown_setB grown_reflB))
                          replace qX : w5.heap[v1.heap.size]? = some (.cells #[.int .i64 (k : Int), .int .i64 xb2, .int .i64 xc2] 26 (0, 0)) := by rw [hw5]; exact set3_new qX
                          replace qA := (G5.block _ (lt_of_block qA) (fun e => by injection e with e; omega)).trans qA
                          replace qB := (G5.block _ (lt_of_block qB) (fun e => by injection e with e; omega)).trans qB
                          replace qY := (G5.block _ (lt_of_block qY) (fun e => by injection e with e; omega)).trans qY
                          replace BK := below_grownB BK G5 BK.size (by omega)
                          clear hw5 G5 x0 x1 x2 xf
                          clear a0 a1 a2 a3 a4 a5 af b0 b1 b2 b3 b4 b5 bf
                          refine (C4.out _ BK).mono ?_
                          rintro e v4 ⟨rfl, g⟩
                          replace qA := kp g qA
                          replace qB := kp g qB
                          replace qX := kp g qX
                          replace qY := kp g qY
                          replace BK := chain BK g
                          clear g
                          obtain ⟨y0, y1, y2, yf⟩ := block_cells3 qY
                          obtain ⟨x0, x1, x2, xf⟩ := block_cells3 qX
                          obtain ⟨a0, a1, a2, a3, a4, a5, af⟩ := block_cells6 qA
                          obtain ⟨b0, b1, b2, b3, b4, b5, bf⟩ := block_cells6 qB
                          have BE := Lib.hid (below_grownB BK (grown_setB (i := 2) (u := .int .i64 yc2) (grown_setB (i := 1) (u := .int .i64 xb2) (grown_setB (i := 0) (u := .int .i64 (k : Int)) (grown_reflB (r := some v2.heap.size))))) BK.size (by omega))
                          clear qA qB qX BK
                          go_wp2_with fail
                          exact ⟨⟨k + 1, by omega, by push_cast; rfl, cnt_no HB1.out, cnt_no HB2.out, BE.out⟩, by simp [intOf]; omega⟩
                    · by_cases hw2 : xb2 = av
                      · have hz2 : ¬ yb2 = av := fun e => hv2 (hw2.trans e.symm)
                        have HB2 := Lib.hid (show bothB ac bc av (k : Int) = false by rw [HB20]; simp [hz2])
                        have fw2 : (xb2 == av) = true := by simpa using hw2
                        have fz2 : (yb2 == av) = false := by simpa using hz2
                        clear HB20 hw2 hz2
                        have C3 := Lib.hid (fun w' (g : Below W1.heap.size W1 w') => votes_some (.slice p2 l2 c2) ac (k : Int) xb2 xc2 w' (RdT.below RAc.out g (Nat.le_refl _)) o2)
                        have C4 := Lib.hid (fun w' (g : Below W1.heap.size W1 w') => votes_some (.slice p4 l4 c4) bc (k : Int) yb2 yc2 w' (RdT.below RBc.out g (Nat.le_refl _)) r2)
                        clear o2 r2
                        refine (C3.out _ BK).mono ?_
                        rintro e v3 ⟨rfl, g⟩
                        replace qA := kp g qA
                        replace qB := kp g qB
                        replace qX := kp g qX
                        replace qY := kp g qY
                        replace BK := chain BK g
                        clear g
                        obtain ⟨x0, x1, x2, xf⟩ := block_cells3 qX
                        obtain ⟨a0, a1, a2, a3, a4, a5, af⟩ := block_cells6 qA
                        obtain ⟨b0, b1, b2, b3, b4, b5, bf⟩ := block_cells6 qB
                        go_wp2_with fail
                        obtain ⟨w5, hw5⟩ : ∃ W, W = (((v3.setCell ⟨v1.heap.size, 0, none⟩ (.int .i64 (k : Int))).setCell ⟨v1.heap.size, 1, none⟩ (.int .i64 xb2)).setCell ⟨v1.heap.size, 2, none⟩ (.int .i64 xc2)) := ⟨_, rfl⟩
                        rw [← hw5]
                        have G5 : v3.grownBy w5 (some v1.heap.size) := by rw [hw5]; exact grown_setB (grown_setB (grown_setB grown_reflB))
                        replace qX : w5.heap[v1.heap.size]? = some (.cells #[.int .i64 (k : Int), .int .i64 xb2, .int .i64 xc2] 26 (0, 0)) := by rw [hw5]; exact set3_new qX
                        replace qA := (G5.block _ (lt_of_block qA) (fun e => by injection e with e; omega)).trans qA
                        replace qB := (G5.block _ (lt_of_block qB) (fun e => by injection e with e; omega)).trans qB
                        replace qY := (G5.block _ (lt_of_block qY) (fun e => by injection e with e; omega)).trans qY
                        replace BK := below_grownB BK G5 BK.size (by omega)
                        clear hw5 G5 x0 x1 x2 xf
                        clear a0 a1 a2 a3 a4 a5 af b0 b1 b2 b3 b4 b5 bf
                        refine (C4.out _ BK).mono ?_
                        rintro e v4 ⟨rfl, g⟩
                        replace qA := kp g qA
                        replace qB := kp g qB
                        replace qX := kp g qX
                        replace qY := kp g qY
                        replace BK := chain BK g
                        clear g
                        obtain ⟨y0, y1, y2, yf⟩ := block_cells3 qY
                        obtain ⟨x0, x1, x2, xf⟩ := block_cells3 qX
                        obtain ⟨a0, a1, a2, a3, a4, a5, af⟩ := block_cells6 qA
                        obtain ⟨b0, b1, b2, b3, b4, b5, bf⟩ := block_cells6 qB
                        have BE := Lib.hid (below_grownB BK (grown_setB (i := 2) (u := .int .i64 yc2) (grown_setB (i := 1) (u := .int .i64 yb2) (grown_setB (i := 0) (u := .int .i64 (k : Int)) (grown_reflB (r := some v2.heap.size))))) BK.size (by omega))
                        clear qA qB qX BK
                        go_wp2_with fail
                        exact ⟨⟨k + 1, by omega, by push_cast; rfl, cnt_no HB1.out, cnt_no HB2.out, BE.out⟩, by simp [intOf]; omega⟩
                      · have HB2 := Lib.hid (show bothB ac bc av (k : Int) = false by rw [HB20]; simp [hw2])
                        have fw2 : (xb2 == av) = false := by simpa using hw2
                        clear HB20 hw2
                        have C3 := Lib.hid (fun w' (g : Below W1.heap.size W1 w') => votes_some (.slice p2 l2 c2) ac (k : Int) xb2 xc2 w' (RdT.below RAc.out g (Nat.le_refl _)) o2)
                        have C4 := Lib.hid (fun w' (g : Below W1.heap.size W1 w') => votes_some (.slice p4 l4 c4) bc (k : Int) yb2 yc2 w' (RdT.below RBc.out g (Nat.le_refl _)) r2)
                        clear o2 r2
                        refine (C3.out _ BK).mono ?_
                        rintro e v3 ⟨rfl, g⟩
                        replace qA := kp g qA
                        replace qB := kp g qB
                        replace qX := kp g qX
                        replace qY := kp g qY
                        replace BK := chain BK g
                        clear g
                        obtain ⟨x0, x1, x2, xf⟩ := block_cells3 qX
                        obtain ⟨a0, a1, a2, a3, a4, a5, af⟩ := block_cells6 qA
                        obtain ⟨b0, b1, b2, b3, b4, b5, bf⟩ := block_cells6 qB
                        go_wp2_with fail
                        obtain ⟨w5, hw5⟩ : ∃ W, W = (((v3.setCell ⟨v1.heap.size, 0, none⟩ (.int .i64 (k : Int))).setCell ⟨v1.heap.size, 1, none⟩ (.int .i64 xb2)).setCell ⟨v1.heap.size, 2, none⟩ (.int .i64 xc2)) := ⟨_, rfl⟩
                        rw [← hw5]
                        have G5 : v3.grownBy w5 (some v1.heap.size) := by rw [hw5]; exact grown_setB (grown_setB (grown_setB grown_reflB))
                        replace qX : w5.heap[v1.heap.size]? = some (.cells #[.int .i64 (k : Int), .int .i64 xb2, .int .i64 xc2] 26 (0, 0)) := by rw [hw5]; exact set3_new qX
                        replace qA := (G5.block _ (lt_of_block qA) (fun e => by injection e with e; omega)).trans qA
                        replace qB := (G5.block _ (lt_of_block qB) (fun e => by injection e with e; omega)).trans qB
                        replace qY := (G5.block _ (lt_of_block qY) (fun e => by injection e with e; omega)).trans qY
                        replace BK := below_grownB BK G5 BK.size (by omega)
                        clear hw5 G5 x0 x1 x2 xf
                        clear a0 a1 a2 a3 a4 a5 af b0 b1 b2 b3 b4 b5 bf
                        refine (C4.out _ BK).mono ?_
                        rintro e v4 ⟨rfl, g⟩
                        replace qA := kp g qA
                        replace qB := kp g qB
                        replace qX := kp g qX
                        replace qY := kp g qY
                        replace BK := chain BK g
                        clear g
                        obtain ⟨y0, y1, y2, yf⟩ := block_cells3 qY
                        obtain ⟨x0, x1, x2, xf⟩ := block_cells3 qX
                        obtain ⟨a0, a1, a2, a3, a4, a5, af⟩ := block_cells6 qA
                        obtain ⟨b0, b1, b2, b3, b4, b5, bf⟩ := block_cells6 qB
                        have BE := Lib.hid (below_grownB BK (grown_setB (i := 2) (u := .int .i64 yc2) (grown_setB (i := 1) (u := .int .i64 yb2) (grown_setB (i := 0) (u := .int .i64 (k : Int)) (grown_reflB (r := some v2.heap.size))))) BK.size (by omega))
                        clear qA qB qX BK
                        go_wp2_with fail
                        exact ⟨⟨k + 1, by omega, by push_cast; rfl, cnt_no HB1.out, cnt_no HB2.out, BE.out⟩, by simp [intOf]; omega⟩
    · have hk2 : k = N := by omega
      subst hk2
      obtain ⟨a0, a1, a2, a3, a4, a5, af⟩ := block_cells6 qA
      obtain ⟨b0, b1, b2, b3, b4, b5, bf⟩ := block_cells6 qB
      cases PA with
      | false =>
        cases CA with
        | false =>
          go_wp2_with (first | ((with_reducible refine (PD.out _ BK).mono ?_); rintro e u1 ⟨rfl, g⟩; (replace qA := kp g qA); (replace qB := kp g qB); (replace BK := chain BK g); (clear g a0 a1 a2 a3 a4 a5 af b0 b1 b2 b3 b4 b5 bf); (obtain ⟨a0, a1, a2, a3, a4, a5, af⟩ := block_cells6 qA); (obtain ⟨b0, b1, b2, b3, b4, b5, bf⟩ := block_cells6 qB)) | ((with_reducible refine (CD.out _ BK).mono ?_); rintro e u3 ⟨rfl, g⟩; (replace qA := kp g qA); (replace qB := kp g qB); (replace BK := chain BK g); (clear g a0 a1 a2 a3 a4 a5 af b0 b1 b2 b3 b4 b5 bf); (obtain ⟨a0, a1, a2, a3, a4, a5, af⟩ := block_cells6 qA); (obtain ⟨b0, b1, b2, b3, b4, b5, bf⟩ := block_cells6 qB)) | ((with_reducible refine (AW.out _ BK).mono ?_); rintro e w9 ⟨rfl, g9⟩))
          go_ret
          exact ⟨rfl, chain BW.out (chain BK g9)⟩
        | true =>
          cases CB with
          | false =>
            go_wp2_with (first | ((with_reducible refine (PD.out _ BK).mono ?_); rintro e u1 ⟨rfl, g⟩; (replace qA := kp g qA); (replace qB := kp g qB); (replace BK := chain BK g); (clear g a0 a1 a2 a3 a4 a5 af b0 b1 b2 b3 b4 b5 bf); (obtain ⟨a0, a1, a2, a3, a4, a5, af⟩ := block_cells6 qA); (obtain ⟨b0, b1, b2, b3, b4, b5, bf⟩ := block_cells6 qB)) | ((with_reducible refine (CD.out _ BK).mono ?_); rintro e u3 ⟨rfl, g⟩; (replace qA := kp g qA); (replace qB := kp g qB); (replace BK := chain BK g); (clear g a0 a1 a2 a3 a4 a5 af b0 b1 b2 b3 b4 b5 bf); (obtain ⟨a0, a1, a2, a3, a4, a5, af⟩ := block_cells6 qA); (obtain ⟨b0, b1, b2, b3, b4, b5, bf⟩ := block_cells6 qB)) | ((with_reducible refine (CE.out _ BK).mono ?_); rintro e u4 ⟨rfl, g⟩; (replace qA := kp g qA); (replace qB := kp g qB); (replace BK := chain BK g); (clear g a0 a1 a2 a3 a4 a5 af b0 b1 b2 b3 b4 b5 bf); (obtain ⟨a0, a1, a2, a3, a4, a5, af⟩ := block_cells6 qA); (obtain ⟨b0, b1, b2, b3, b4, b5, bf⟩ := block_cells6 qB)) | ((with_reducible refine (AW.out _ BK).mono ?_); rintro e w9 ⟨rfl, g9⟩))
            go_ret
            exact ⟨rfl, chain BW.out (chain BK g9)⟩
          | true =>
            have HG := Lib.hid (AC.out rfl rfl)
            have hf2 : (f < (cntB ac bc av k : Int)) := HG.out
            go_wp2_with (first | ((with_reducible refine (PD.out _ BK).mono ?_); rintro e u1 ⟨rfl, g⟩; (replace qA := kp g qA); (replace qB := kp g qB); (replace BK := chain BK g); (clear g a0 a1 a2 a3 a4 a5 af b0 b1 b2 b3 b4 b5 bf); (obtain ⟨a0, a1, a2, a3, a4, a5, af⟩ := block_cells6 qA); (obtain ⟨b0, b1, b2, b3, b4, b5, bf⟩ := block_cells6 qB)) | ((with_reducible refine (CD.out _ BK).mono ?_); rintro e u3 ⟨rfl, g⟩; (replace qA := kp g qA); (replace qB := kp g qB); (replace BK := chain BK g); (clear g a0 a1 a2 a3 a4 a5 af b0 b1 b2 b3 b4 b5 bf); (obtain ⟨a0, a1, a2, a3, a4, a5, af⟩ := block_cells6 qA); (obtain ⟨b0, b1, b2, b3, b4, b5, bf⟩ := block_cells6 qB)) | ((with_reducible refine (CE.out _ BK).mono ?_); rintro e u4 ⟨rfl, g⟩; (replace qA := kp g qA); (replace qB := kp g qB); (replace BK := chain BK g); (clear g a0 a1 a2 a3 a4 a5 af b0 b1 b2 b3 b4 b5 bf); (obtain ⟨a0, a1, a2, a3, a4, a5, af⟩ := block_cells6 qA); (obtain ⟨b0, b1, b2, b3, b4, b5, bf⟩ := block_cells6 qB)) | ((with_reducible refine (AW.out _ BK).mono ?_); rintro e w9 ⟨rfl, g9⟩))
            go_ret
            exact ⟨rfl, chain BW.out (chain BK g9)⟩
      | true =>
        cases PB with
        | false =>
          cases CA with
          | false =>
            go_wp2_with (first | ((with_reducible refine (PD.out _ BK).mono ?_); rintro e u1 ⟨rfl, g⟩; (replace qA := kp g qA); (replace qB := kp g qB); (replace BK := chain BK g); (clear g a0 a1 a2 a3 a4 a5 af b0 b1 b2 b3 b4 b5 bf); (obtain ⟨a0, a1, a2, a3, a4, a5, af⟩ := block_cells6 qA); (obtain ⟨b0, b1, b2, b3, b4, b5, bf⟩ := block_cells6 qB)) | ((with_reducible refine (PE.out _ BK).mono ?_); rintro e u2 ⟨rfl, g⟩; (replace qA := kp g qA); (replace qB := kp g qB); (replace BK := chain BK g); (clear g a0 a1 a2 a3 a4 a5 af b0 b1 b2 b3 b4 b5 bf); (obtain ⟨a0, a1, a2, a3, a4, a5, af⟩ := block_cells6 qA); (obtain ⟨b0, b1, b2, b3, b4, b5, bf⟩ := block_cells6 qB)) | ((with_reducible refine (CD.out _ BK).mono ?_); rintro e u3 ⟨rfl, g⟩; (replace qA := kp g qA); (replace qB := kp g qB); (replace BK := chain BK g); (clear g a0 a1 a2 a3 a4 a5 af b0 b1 b2 b3 b4 b5 bf); (obtain ⟨a0, a1, a2, a3, a4, a5, af⟩ := block_cells6 qA); (obtain ⟨b0, b1, b2, b3, b4, b5, bf⟩ := block_cells6 qB)) | ((with_reducible refine (AW.out _ BK).mono ?_); rintro e w9 ⟨rfl, g9⟩))
            go_ret
            exact ⟨rfl, chain BW.out (chain BK g9)⟩
          | true =>
            cases CB with
            | false =>
              go_wp2_with (first | ((with_reducible refine (PD.out _ BK).mono ?_); rintro e u1 ⟨rfl, g⟩; (replace qA := kp g qA); (replace qB := kp g qB); (replace BK := chain BK g); (clear g a0 a1 a2 a3 a4 a5 af b0 b1 b2 b3 b4 b5 bf); (obtain ⟨a0, a1, a2, a3, a4, a5, af⟩ := block_cells6 qA); (obtain ⟨b0, b1, b2, b3, b4, b5, bf⟩ := block_cells6 qB)) | ((with_reducible refine (PE.out _ BK).mono ?_); rintro e u2 ⟨rfl, g⟩; (replace qA := kp g qA); (replace qB := kp g qB); (replace BK := chain BK g); (clear g a0 a1 a2 a3 a4 a5 af b0 b1 b2 b3 b4 b5 bf); (obtain ⟨a0, a1, a2, a3, a4, a5, af⟩ := block_cells6 qA); (obtain ⟨b0, b1, b2, b3, b4, b5, bf⟩ := block_cells6 qB)) | ((with_reducible refine (CD.out _ BK).mono ?_); rintro e u3 ⟨rfl, g⟩; (replace qA := kp g qA); (replace qB := kp g qB); (replace BK := chain BK g); (clear g a0 a1 a2 a3 a4 a5 af b0 b1 b2 b3 b4 b5 bf); (obtain ⟨a0, a1, a2, a3, a4, a5, af⟩ := block_cells6 qA); (obtain ⟨b0, b1, b2, b3, b4, b5, bf⟩ := block_cells6 qB)) | ((with_reducible refine (CE.out _ BK).mono ?_); rintro e u4 ⟨rfl, g⟩; (replace qA := kp g qA); (replace qB := kp g qB); (replace BK := chain BK g); (clear g a0 a1 a2 a3 a4 a5 af b0 b1 b2 b3 b4 b5 bf); (obtain ⟨a0, a1, a2, a3, a4, a5, af⟩ := block_cells6 qA); (obtain ⟨b0, b1, b2, b3, b4, b5, bf⟩ := block_cells6 qB)) | ((with_reducible refine (AW.out _ BK).mono ?_); rintro e w9 ⟨rfl, g9⟩))
              go_ret
              exact ⟨rfl, chain BW.out (chain BK g9)⟩
            | true =>
              have HG := Lib.hid (AC.out rfl rfl)
              have hf2 : (f < (cntB ac bc av k : Int)) := HG.out
              go_wp2_with (first | ((with_reducible refine (PD.out _ BK).mono ?_); rintro e u1 ⟨rfl, g⟩; (replace qA := kp g qA); (replace qB := kp g qB); (replace BK := chain BK g); (clear g a0 a1 a2 a3 a4 a5 af b0 b1 b2 b3 b4 b5 bf); (obtain ⟨a0, a1, a2, a3, a4, a5, af⟩ := block_cells6 qA); (obtain ⟨b0, b1, b2, b3, b4, b5, bf⟩ := block_cells6 qB)) | ((with_reducible refine (PE.out _ BK).mono ?_); rintro e u2 ⟨rfl, g⟩; (replace qA := kp g qA); (replace qB := kp g qB); (replace BK := chain BK g); (clear g a0 a1 a2 a3 a4 a5 af b0 b1 b2 b3 b4 b5 bf); (obtain ⟨a0, a1, a2, a3, a4, a5, af⟩ := block_cells6 qA); (obtain ⟨b0, b1, b2, b3, b4, b5, bf⟩ := block_cells6 qB)) | ((with_reducible refine (CD.out _ BK).mono ?_); rintro e u3 ⟨rfl, g⟩; (replace qA := kp g qA); (replace qB := kp g qB); (replace BK := chain BK g); (clear g a0 a1 a2 a3 a4 a5 af b0 b1 b2 b3 b4 b5 bf); (obtain ⟨a0, a1, a2, a3, a4, a5, af⟩ := block_cells6 qA); (obtain ⟨b0, b1, b2, b3, b4, b5, bf⟩ := block_cells6 qB)) | ((with_reducible refine (CE.out _ BK).mono ?_); rintro e u4 ⟨rfl, g⟩; (replace qA := kp g qA); (replace qB := kp g qB); (replace BK := chain BK g); (clear g a0 a1 a2 a3 a4 a5 af b0 b1 b2 b3 b4 b5 bf); (obtain ⟨a0, a1, a2, a3, a4, a5, af⟩ := block_cells6 qA); (obtain ⟨b0, b1, b2, b3, b4, b5, bf⟩ := block_cells6 qB)) | ((with_reducible refine (AW.out _ BK).mono ?_); rintro e w9 ⟨rfl, g9⟩))
              go_ret
              exact ⟨rfl, chain BW.out (chain BK g9)⟩
        | true =>
          cases CA with
          | false =>
            have HF := Lib.hid (AP.out rfl rfl)
            have hf1 : ¬ ((cntB ap bp av k : Int) < f) := by have := HF.out; omega
            go_wp2_with (first | ((with_reducible refine (PD.out _ BK).mono ?_); rintro e u1 ⟨rfl, g⟩; (replace qA := kp g qA); (replace qB := kp g qB); (replace BK := chain BK g); (clear g a0 a1 a2 a3 a4 a5 af b0 b1 b2 b3 b4 b5 bf); (obtain ⟨a0, a1, a2, a3, a4, a5, af⟩ := block_cells6 qA); (obtain ⟨b0, b1, b2, b3, b4, b5, bf⟩ := block_cells6 qB)) | ((with_reducible refine (PE.out _ BK).mono ?_); rintro e u2 ⟨rfl, g⟩; (replace qA := kp g qA); (replace qB := kp g qB); (replace BK := chain BK g); (clear g a0 a1 a2 a3 a4 a5 af b0 b1 b2 b3 b4 b5 bf); (obtain ⟨a0, a1, a2, a3, a4, a5, af⟩ := block_cells6 qA); (obtain ⟨b0, b1, b2, b3, b4, b5, bf⟩ := block_cells6 qB)) | ((with_reducible refine (CD.out _ BK).mono ?_); rintro e u3 ⟨rfl, g⟩; (replace qA := kp g qA); (replace qB := kp g qB); (replace BK := chain BK g); (clear g a0 a1 a2 a3 a4 a5 af b0 b1 b2 b3 b4 b5 bf); (obtain ⟨a0, a1, a2, a3, a4, a5, af⟩ := block_cells6 qA); (obtain ⟨b0, b1, b2, b3, b4, b5, bf⟩ := block_cells6 qB)) | ((with_reducible refine (AW.out _ BK).mono ?_); rintro e w9 ⟨rfl, g9⟩))
            go_ret
            exact ⟨rfl, chain BW.out (chain BK g9)⟩
          | true =>
            cases CB with
            | false =>
              have HF := Lib.hid (AP.out rfl rfl)
              have hf1 : ¬ ((cntB ap bp av k : Int) < f) := by have := HF.out; omega
              go_wp2_with (first | ((with_reducible refine (PD.out _ BK).mono ?_); rintro e u1 ⟨rfl, g⟩; (replace qA := kp g qA); (replace qB := kp g qB); (replace BK := chain BK g); (clear g a0 a1 a2 a3 a4 a5 af b0 b1 b2 b3 b4 b5 bf); (obtain ⟨a0, a1, a2, a3, a4, a5, af⟩ := block_cells6 qA); (obtain ⟨b0, b1, b2, b3, b4, b5, bf⟩ := block_cells6 qB)) | ((with_reducible refine (PE.out _ BK).mono ?_); rintro e u2 ⟨rfl, g⟩; (replace qA := kp g qA); (replace qB := kp g qB); (replace BK := chain BK g); (clear g a0 a1 a2 a3 a4 a5 af b0 b1 b2 b3 b4 b5 bf); (obtain ⟨a0, a1, a2, a3, a4, a5, af⟩ := block_cells6 qA); (obtain ⟨b0, b1, b2, b3, b4, b5, bf⟩ := block_cells6 qB)) | ((with_reducible refine (CD.out _ BK).mono ?_); rintro e u3 ⟨rfl, g⟩; (replace qA := kp g qA); (replace qB := kp g qB); (replace BK := chain BK g); (clear g a0 a1 a2 a3 a4 a5 af b0 b1 b2 b3 b4 b5 bf); (obtain ⟨a0, a1, a2, a3, a4, a5, af⟩ := block_cells6 qA); (obtain ⟨b0, b1, b2, b3, b4, b5, bf⟩ := block_cells6 qB)) | ((with_reducible refine (CE.out _ BK).mono ?_); rintro e u4 ⟨rfl, g⟩; (replace qA := kp g qA); (replace qB := kp g qB); (replace BK := chain BK g); (clear g a0 a1 a2 a3 a4 a5 af b0 b1 b2 b3 b4 b5 bf); (obtain ⟨a0, a1, a2, a3, a4, a5, af⟩ := block_cells6 qA); (obtain ⟨b0, b1, b2, b3, b4, b5, bf⟩ := block_cells6 qB)) | ((with_reducible refine (AW.out _ BK).mono ?_); rintro e w9 ⟨rfl, g9⟩))
              go_ret
              exact ⟨rfl, chain BW.out (chain BK g9)⟩
            | true =>
              have HF := Lib.hid (AP.out rfl rfl)
              have hf1 : ¬ ((cntB ap bp av k : Int) < f) := by have := HF.out; omega
              have HG := Lib.hid (AC.out rfl rfl)
              have hf2 : (f < (cntB ac bc av k : Int)) := HG.out
              go_wp2_with (first | ((with_reducible refine (PD.out _ BK).mono ?_); rintro e u1 ⟨rfl, g⟩; (replace qA := kp g qA); (replace qB := kp g qB); (replace BK := chain BK g); (clear g a0 a1 a2 a3 a4 a5 af b0 b1 b2 b3 b4 b5 bf); (obtain ⟨a0, a1, a2, a3, a4, a5, af⟩ := block_cells6 qA); (obtain ⟨b0, b1, b2, b3, b4, b5, bf⟩ := block_cells6 qB)) | ((with_reducible refine (PE.out _ BK).mono ?_); rintro e u2 ⟨rfl, g⟩; (replace qA := kp g qA); (replace qB := kp g qB); (replace BK := chain BK g); (clear g a0 a1 a2 a3 a4 a5 af b0 b1 b2 b3 b4 b5 bf); (obtain ⟨a0, a1, a2, a3, a4, a5, af⟩ := block_cells6 qA); (obtain ⟨b0, b1, b2, b3, b4, b5, bf⟩ := block_cells6 qB)) | ((with_reducible refine (CD.out _ BK).mono ?_); rintro e u3 ⟨rfl, g⟩; (replace qA := kp g qA); (replace qB := kp g qB); (replace BK := chain BK g); (clear g a0 a1 a2 a3 a4 a5 af b0 b1 b2 b3 b4 b5 bf); (obtain ⟨a0, a1, a2, a3, a4, a5, af⟩ := block_cells6 qA); (obtain ⟨b0, b1, b2, b3, b4, b5, bf⟩ := block_cells6 qB)) | ((with_reducible refine (CE.out _ BK).mono ?_); rintro e u4 ⟨rfl, g⟩; (replace qA := kp g qA); (replace qB := kp g qB); (replace BK := chain BK g); (clear g a0 a1 a2 a3 a4 a5 af b0 b1 b2 b3 b4 b5 bf); (obtain ⟨a0, a1, a2, a3, a4, a5, af⟩ := block_cells6 qA); (obtain ⟨b0, b1, b2, b3, b4, b5, bf⟩ := block_cells6 qB)) | ((with_reducible refine (AW.out _ BK).mono ?_); rintro e w9 ⟨rfl, g9⟩))
              go_ret
              exact ⟨rfl, chain BW.out (chain BK g9)⟩
end Go.Proofs.YtgmblgpfgdfnaaaDoor
