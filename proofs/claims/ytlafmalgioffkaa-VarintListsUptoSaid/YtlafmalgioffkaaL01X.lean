/- The law VarintLists. Written by wip/tools/gen1x.py. -/
import Derived.Test.YtlafmalgioffkaaL01W
namespace Go.Proofs.Ytlafmalgioffkaa
open Go.RowKit
set_option linter.unusedVariables false
set_option linter.unusedSimpArgs false
theorem flatT_bound : ∀ (L : List (List UInt8)) (B : Nat), (∀ x ∈ L, x.length ≤ B) → (flatT L).length ≤ L.length * (B + 10)
  | [], B, _ => by simp [flatT]
  | x :: r, B, h => by
    have ih := flatT_bound r B (fun y hy => h y (List.mem_cons_of_mem _ hy))
    have hx := h x List.mem_cons_self
    have hr := rawT_len x
    have e : flatT (x :: r) = rawT x ++ flatT r := by simp [flatT]
    rw [e, List.length_append, List.length_cons, Nat.add_mul]
    omega
theorem beq_of {a b : ByteArray} (h : a = b) : (a.toList == b.toList) = true := by rw [h]; exact beq_self_eq_true _
set_option maxRecDepth 100000 in
set_option maxHeartbeats 1000000 in
theorem lists_way (v vb : Value) (L : List (List UInt8)) (b : List UInt8) (most : Int) (n : Nat) (hI : I64 most) (w : World) (hn : n = L.length) (hn2 : n ≤ 260) (hx : ∀ x ∈ L, x.length ≤ 1048576) (hb : Rd w vb b) (h : RdV w v (L.map sv)) :
    Calls Try.prog 7 #[v, vb, .int .i64 most] w fun e w' => e = .returned (.bool true) ∧ Below w.heap.size w w' := by
  obtain ⟨i0, hi, hz0, hz1, hz2⟩ := info_parts strinfo
  have hT : (flatT L).length ≤ 1000000000000 := by
    have := flatT_bound L 1048576 hx
    rw [← hn] at this
    have h2 : n * (1048576 + 10) ≤ 260 * (1048576 + 10) := Nat.mul_le_mul_right _ hn2
    omega
  have hx2 : ∀ x ∈ L, x.length ≤ 1000000000 := fun x h => by have := hx x h; omega
  obtain ⟨ao, cap, rfl, hcap, hcm, -⟩ := rdv_cells h hn
  have hr0 := h
  clear h
  have LI := Lib.hid (fun w h => refList_any (.slice ao n cap) L w h hT hx2)
  have PL := Lib.hid (fun w h => putList_any (.slice ao n cap) L w h hx2)
  have CU := Lib.hid (fun v w h => cutList_any v (b.take 2000) most hI w h (List.length_take_le _ _))
  have RU := Lib.hid (fun w => refCutList_any (b.take 2000) most hI w (List.length_take_le _ _))
  have FW := Lib.hid (few_any vb b w hb)
  have RL : Hid (∀ w', Below w.heap.size w w' → RdV w' (.slice ao n cap) (L.map sv)) := Lib.hid fun w' h => hr0.below h (Nat.le_refl _)
  have HN := Lib.hid hn
  have RR := Lib.hid hr0
  clear hT hx hx2 hb hr0 hn hI
  go_enter Try.func7, Try.ntmps7
  go_wp2_with fail
  refine FW.out.mono ?_
  rintro e w' ⟨⟨vb2, rfl, hb2⟩, rfl⟩
  have RBY : Hid (∀ w', Below w.heap.size w w' → Rd w' vb2 (b.take 2000)) := Lib.hid fun w' h => hb2.below h (Nat.le_refl _)
  clear hb2
  go_wp2_with fail
  refine (LI.out _ RR.out).mono ?_
  rintro e w1 ⟨rfl, bel⟩
  obtain ⟨ao', cap', hv, -, -, HC⟩ := rdv_cells (RL.out _ bel) HN.out
  cases hv
  obtain ⟨q, hq⟩ : ∃ q, q = str (listR L) := ⟨_, rfl⟩
  rw [← hq]
  have HQ := Lib.hid hq
  clear hq LI RR
  go_wp2_with fail
  go_loop [7, 8] (fun s i => ∃ (j : Nat) (W : ByteArray), j ≤ n ∧ i = .int .i64 (j : Int) ∧ s = .string W ∧ Hid (W = if okT (L.take j) = true then q else ByteArray.mk #[])) (fun _ i => n - (intOf i).toNat)
  case atStart => exact ⟨0, q, Nat.zero_le _, rfl, rfl, rfl⟩
  case round =>
    obtain ⟨j, W, hj, rfl, rfl, hW⟩ := hrel
    by_cases hjn : j < n
    · obtain ⟨bb, off, rfl, hb1, hcell⟩ := HC.out j hjn
      have hjL : j < L.length := by rw [← HN.out]; exact hjn
      have hos := okT_step L j hjL
      have hno := okT_no (L.take (j + 1)) j (by simp; omega)
      have hge : (L.take (j + 1)).getD j [] = L.getD j [] := by simp [List.getD, List.getElem?_take]
      rw [hge] at hno
      generalize L.getD j [] = x at hcell hos hno
      have hzx : (str x).size = x.length := str_size x
      clear hge hjL
      by_cases h3000 : 3000 < x.length
      · clear hos hno hW
        go_wp2_with (go_at_call 11; refine (awake_any _).mono ?_; rintro e w7 ⟨rfl, g⟩; have bel := chain bel g; clear g)
        go_ret
        exact ⟨rfl, bel⟩
      · by_cases h255 : 255 < x.length
        · have HW : Hid (ByteArray.mk #[] = if okT (L.take (j + 1)) = true then q else ByteArray.mk #[]) := by show _ = _; rw [hno h255]; rfl
          clear hos hno hW
          go_wp2_with fail
          exact ⟨⟨j + 1, _, by omega, by push_cast; rfl, rfl, HW⟩, by simp [intOf]; omega⟩
        · have HW : Hid (W = if okT (L.take (j + 1)) = true then q else ByteArray.mk #[]) := by
            show _ = _
            rw [hos, hW.out]
            have : decide (x.length ≤ 255) = true := by simp; omega
            rw [this, Bool.and_true]
          clear hos hno hW
          go_wp2_with fail
          exact ⟨⟨j + 1, W, by omega, by push_cast; rfl, rfl, HW⟩, by simp [intOf]; omega⟩
    · obtain rfl : j = n := by omega
      have hLj : L.take j = L := List.take_of_length_le (by rw [← HN.out]; exact Nat.le_refl _)
      have hw1 := hW.out
      rw [hLj] at hw1
      clear hW hLj
      by_cases h255 : 255 < j
      · have hp : listP L = [] := if_pos (by rw [← HN.out]; exact h255)
        have hqe : (str (listP L)).toList = [] := by rw [hp]; simp [str]
        generalize listP L = lp at PL hqe
        clear hw1 hp
        go_wp2_with fail
        refine (CU.out _ _ (RBY.out _ bel)).mono ?_
        rintro e w3 ⟨v9, rfl, rd9, g⟩
        have bel := chain bel g
        have RD9 := Lib.hid rd9
        clear g rd9
        have k1 := conv_rd (P := Try.prog) (RBY.out _ bel) 24 5 9 Try.underlying24 Try.underlying5 Try.underlying9
        go_wp2_with fail
        refine (RU.out _).mono ?_
        rintro e w4 ⟨v10, rfl, rd10, g⟩
        have RD9b := Lib.hid (RD9.out.below g (Nat.le_refl _))
        have bel := chain bel g
        have RD10 := Lib.hid rd10
        clear g rd10 k1 RD9
        go_wp2_with fail
        refine (PL.out _ (RL.out _ bel)).mono ?_
        rintro e w5 ⟨v11, rfl, rd11, g⟩
        have RD9c := Lib.hid (RD9b.out.below g (Nat.le_refl _))
        have RD10c := Lib.hid (RD10.out.below g (Nat.le_refl _))
        have bel := chain bel g
        have k1 := conv_rd (P := Try.prog) rd11 24 5 9 Try.underlying24 Try.underlying5 Try.underlying9
        clear g rd11 RD9b RD10
        go_wp2_with (first
          | (go_at_call 30; refine (same_any _ _ _ _ RD9c.out RD10c.out).mono ?_; rintro e w6 ⟨rfl, g⟩; have bel := chain bel g; clear g k1)
          | (go_at_call 11; refine (awake_any _).mono ?_; rintro e w7 ⟨rfl, g⟩; have bel := chain bel g; clear g))
        go_ret
        exact ⟨rfl, bel⟩
      · have hp : str (listP L) = W := by
          unfold listP
          rw [if_neg (by rw [← HN.out]; exact h255), hw1]
          split
          · rw [HQ.out]
          · rfl
        have hqe : ((str (listP L)).toList == W.toList) = true := beq_of hp
        generalize listP L = lp at PL hqe
        clear hw1 hp
        go_wp2_with fail
        refine (CU.out _ _ (RBY.out _ bel)).mono ?_
        rintro e w3 ⟨v9, rfl, rd9, g⟩
        have bel := chain bel g
        have RD9 := Lib.hid rd9
        clear g rd9
        have k1 := conv_rd (P := Try.prog) (RBY.out _ bel) 24 5 9 Try.underlying24 Try.underlying5 Try.underlying9
        go_wp2_with fail
        refine (RU.out _).mono ?_
        rintro e w4 ⟨v10, rfl, rd10, g⟩
        have RD9b := Lib.hid (RD9.out.below g (Nat.le_refl _))
        have bel := chain bel g
        have RD10 := Lib.hid rd10
        clear g rd10 k1 RD9
        go_wp2_with fail
        refine (PL.out _ (RL.out _ bel)).mono ?_
        rintro e w5 ⟨v11, rfl, rd11, g⟩
        have RD9c := Lib.hid (RD9b.out.below g (Nat.le_refl _))
        have RD10c := Lib.hid (RD10.out.below g (Nat.le_refl _))
        have bel := chain bel g
        have k1 := conv_rd (P := Try.prog) rd11 24 5 9 Try.underlying24 Try.underlying5 Try.underlying9
        clear g rd11 RD9b RD10
        go_wp2_with (first
          | (go_at_call 30; refine (same_any _ _ _ _ RD9c.out RD10c.out).mono ?_; rintro e w6 ⟨rfl, g⟩; have bel := chain bel g; clear g k1)
          | (go_at_call 11; refine (awake_any _).mono ?_; rintro e w7 ⟨rfl, g⟩; have bel := chain bel g; clear g))
        go_ret
        exact ⟨rfl, bel⟩
set_option maxRecDepth 100000 in
set_option maxHeartbeats 1000000 in
theorem lists_cut (v vb : Value) (L0 : List (List UInt8)) (L : List (List UInt8)) (b : List UInt8) (most : Int) (n : Nat) (hI : I64 most) (w : World) (hn : n = L.length) (hn2 : n ≤ 260) (hx : ∀ x ∈ L, x.length ≤ 1048576) (hb : Rd w vb b) (hL0 : L = L0.take 260) (hbig : 260 < L0.length) (h : RdV w v (L0.map sv)) :
    Calls Try.prog 7 #[v, vb, .int .i64 most] w fun e w' => e = .returned (.bool true) ∧ Below w.heap.size w w' := by
  obtain ⟨i0, hi, hz0, hz1, hz2⟩ := info_parts strinfo
  have hT : (flatT L).length ≤ 1000000000000 := by
    have := flatT_bound L 1048576 hx
    rw [← hn] at this
    have h2 : n * (1048576 + 10) ≤ 260 * (1048576 + 10) := Nat.mul_le_mul_right _ hn2
    omega
  have hx2 : ∀ x ∈ L, x.length ≤ 1000000000 := fun x h => by have := hx x h; omega
  obtain ⟨n0, en0⟩ : ∃ n0, n0 = L0.length := ⟨_, rfl⟩
  obtain ⟨ao, cap, rfl, hcap, hcm, -⟩ := rdv_cells h en0
  have hr0 : RdV w (.slice ao 260 cap) (L.map sv) := by
    have := h.short 260 (by omega)
    rw [← List.map_take, ← hL0] at this
    exact this
  have hn260 : n = 260 := by rw [hn, hL0, List.length_take]; omega
  rw [← en0] at hbig
  have hdec : decide ((260 : Int) < (n0 : Int)) = true := by simp; omega
  subst hn260
  clear h en0 hL0
  have LI := Lib.hid (fun w h => refList_any (.slice ao 260 cap) L w h hT hx2)
  have PL := Lib.hid (fun w h => putList_any (.slice ao 260 cap) L w h hx2)
  have CU := Lib.hid (fun v w h => cutList_any v (b.take 2000) most hI w h (List.length_take_le _ _))
  have RU := Lib.hid (fun w => refCutList_any (b.take 2000) most hI w (List.length_take_le _ _))
  have FW := Lib.hid (few_any vb b w hb)
  have RL : Hid (∀ w', Below w.heap.size w w' → RdV w' (.slice ao 260 cap) (L.map sv)) := Lib.hid fun w' h => hr0.below h (Nat.le_refl _)
  have HN := Lib.hid hn
  have RR := Lib.hid hr0
  clear hT hx hx2 hb hr0 hn hI
  go_enter Try.func7, Try.ntmps7
  go_wp2_with fail
  refine FW.out.mono ?_
  rintro e w' ⟨⟨vb2, rfl, hb2⟩, rfl⟩
  have RBY : Hid (∀ w', Below w.heap.size w w' → Rd w' vb2 (b.take 2000)) := Lib.hid fun w' h => hb2.below h (Nat.le_refl _)
  clear hb2
  go_wp2_with fail
  refine (LI.out _ RR.out).mono ?_
  rintro e w1 ⟨rfl, bel⟩
  obtain ⟨ao', cap', hv, -, -, HC⟩ := rdv_cells (RL.out _ bel) HN.out
  cases hv
  obtain ⟨q, hq⟩ : ∃ q, q = str (listR L) := ⟨_, rfl⟩
  rw [← hq]
  have HQ := Lib.hid hq
  clear hq LI RR
  go_wp2_with fail
  go_loop [7, 8] (fun s i => ∃ (j : Nat) (W : ByteArray), j ≤ 260 ∧ i = .int .i64 (j : Int) ∧ s = .string W ∧ Hid (W = if okT (L.take j) = true then q else ByteArray.mk #[])) (fun _ i => 260 - (intOf i).toNat)
  case atStart => exact ⟨0, q, Nat.zero_le _, rfl, rfl, rfl⟩
  case round =>
    obtain ⟨j, W, hj, rfl, rfl, hW⟩ := hrel
    by_cases hjn : j < 260
    · obtain ⟨bb, off, rfl, hb1, hcell⟩ := HC.out j hjn
      have hjL : j < L.length := by rw [← HN.out]; exact hjn
      have hos := okT_step L j hjL
      have hno := okT_no (L.take (j + 1)) j (by simp; omega)
      have hge : (L.take (j + 1)).getD j [] = L.getD j [] := by simp [List.getD, List.getElem?_take]
      rw [hge] at hno
      generalize L.getD j [] = x at hcell hos hno
      have hzx : (str x).size = x.length := str_size x
      clear hge hjL
      by_cases h3000 : 3000 < x.length
      · clear hos hno hW
        go_wp2_with (go_at_call 11; refine (awake_any _).mono ?_; rintro e w7 ⟨rfl, g⟩; have bel := chain bel g; clear g)
        go_ret
        exact ⟨rfl, bel⟩
      · by_cases h255 : 255 < x.length
        · have HW : Hid (ByteArray.mk #[] = if okT (L.take (j + 1)) = true then q else ByteArray.mk #[]) := by show _ = _; rw [hno h255]; rfl
          clear hos hno hW
          go_wp2_with fail
          exact ⟨⟨j + 1, _, by omega, by push_cast; rfl, rfl, HW⟩, by simp [intOf]; omega⟩
        · have HW : Hid (W = if okT (L.take (j + 1)) = true then q else ByteArray.mk #[]) := by
            show _ = _
            rw [hos, hW.out]
            have : decide (x.length ≤ 255) = true := by simp; omega
            rw [this, Bool.and_true]
          clear hos hno hW
          go_wp2_with fail
          exact ⟨⟨j + 1, W, by omega, by push_cast; rfl, rfl, HW⟩, by simp [intOf]; omega⟩
    · have hj260 : j = 260 := by omega
      subst hj260
      have hLj : L.take 260 = L := List.take_of_length_le (by rw [← HN.out]; exact Nat.le_refl _)
      have hw1 := hW.out
      rw [hLj] at hw1
      clear hW hLj
      by_cases h255 : 255 < 260
      · have hp : listP L = [] := if_pos (by rw [← HN.out]; exact h255)
        have hqe : (str (listP L)).toList = [] := by rw [hp]; simp [str]
        generalize listP L = lp at PL hqe
        clear hw1 hp
        go_wp2_with fail
        refine (CU.out _ _ (RBY.out _ bel)).mono ?_
        rintro e w3 ⟨v9, rfl, rd9, g⟩
        have bel := chain bel g
        have RD9 := Lib.hid rd9
        clear g rd9
        have k1 := conv_rd (P := Try.prog) (RBY.out _ bel) 24 5 9 Try.underlying24 Try.underlying5 Try.underlying9
        go_wp2_with fail
        refine (RU.out _).mono ?_
        rintro e w4 ⟨v10, rfl, rd10, g⟩
        have RD9b := Lib.hid (RD9.out.below g (Nat.le_refl _))
        have bel := chain bel g
        have RD10 := Lib.hid rd10
        clear g rd10 k1 RD9
        go_wp2_with fail
        refine (PL.out _ (RL.out _ bel)).mono ?_
        rintro e w5 ⟨v11, rfl, rd11, g⟩
        have RD9c := Lib.hid (RD9b.out.below g (Nat.le_refl _))
        have RD10c := Lib.hid (RD10.out.below g (Nat.le_refl _))
        have bel := chain bel g
        have k1 := conv_rd (P := Try.prog) rd11 24 5 9 Try.underlying24 Try.underlying5 Try.underlying9
        clear g rd11 RD9b RD10
        go_wp2_with (first
          | (go_at_call 30; refine (same_any _ _ _ _ RD9c.out RD10c.out).mono ?_; rintro e w6 ⟨rfl, g⟩; have bel := chain bel g; clear g k1)
          | (go_at_call 11; refine (awake_any _).mono ?_; rintro e w7 ⟨rfl, g⟩; have bel := chain bel g; clear g))
        go_ret
        exact ⟨rfl, bel⟩
      · omega
theorem lists_row (v : Value) (L0 : List (List UInt8)) (vb : Value) (b : List UInt8) (most : Int) (w : World) (h : RdV w v (L0.map sv)) (hx : ∀ x ∈ L0, x.length ≤ 1048576) (hb : Rd w vb b) (hb2 : b.length ≤ 1048576) (wm : (Lit.int .i64 most).wf = true) :
    Calls Try.prog 7 #[v, vb, .int .i64 most] w fun e w' => e = .returned (.bool true) ∧ Below w.heap.size w w' := by
  have hI := i64_of_wf wm
  by_cases hl : L0.length ≤ 260
  · exact lists_way v vb L0 b most L0.length hI w rfl hl hx hb h
  · exact lists_cut v vb L0 (L0.take 260) b most 260 hI w (by simp; omega) (by omega) (fun x hx' => hx x (List.mem_of_mem_take hx')) hb rfl (by omega) h
end Go.Proofs.Ytlafmalgioffkaa
