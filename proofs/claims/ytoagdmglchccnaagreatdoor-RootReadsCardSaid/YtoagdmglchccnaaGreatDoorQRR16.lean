/- Leaves: which lists are, and where a key stands. Written by wip/tools/gen9b.py. -/
import Derived.Test.YtoagdmglchccnaaGreatDoorQRR15
import Derived.Deep.QuietTactic
import Derived.BigQuiet
namespace Go.Proofs.YtoagdmglchccnaaGreatDoor
open Go Go.RowKit
set_option linter.unusedVariables false
set_option linter.unusedSimpArgs false
theorem leq_str (a b : List UInt8) (w : World) : (binOp .leq 9 (.string (str a)) (.string (str b))).run Tryz.prog w = .ok (.bool !ltB b a) w := by
  have e : (!ltB b a) = (Op.bytesLess (str a).toList (str b).toList || (str a).toList == (str b).toList) := by
    rw [less_str, eq_str]
    cases h : ltB a b with
    | true => rw [lt_le h]; rfl
    | false =>
      by_cases hab : a = b
      · subst hab; rw [h]; simp
      · cases h2 : ltB b a with
        | true => simp [hab]
        | false => exact absurd (ltB_tri h h2) hab
  rw [e]
  simp [binOp, Op.stringOp, go_sem]
set_option maxRecDepth 100000 in
theorem ahead_q (a b : List UInt8) (w : World) (ha : a.length ≤ maxLen) (hb : b.length ≤ maxLen) : Calls Tryz.prog 87 #[.string (str a), .string (str b)] w fun e w' => e = .returned (.bool (ltB a b)) ∧ ∃ n, w' = w.drewN n := by
  unfold maxLen at ha hb
  have h1 : (str a).size = a.length := str_size a
  have h2 : (str b).size = b.length := str_size b
  obtain ⟨B, hB⟩ : ∃ B, B = ltB a b := ⟨_, rfl⟩
  rw [← hB]
  have HB := Lib.hid hB
  clear hB
  go_enter Tryz.func87, Tryz.ntmps87
  go_wp2_with fail
  go_loopw [5] (fun i wr => ∃ k n0 : Nat, k ≤ a.length ∧ k ≤ b.length ∧ i = .int .i64 (k : Int) ∧ Hid (a.take k = b.take k) ∧ Hid (wr = w.drewN n0)) (fun i _ => a.length - (intOf i).toNat)
  case atStart => exact ⟨0, 0, Nat.zero_le _, Nat.zero_le _, rfl, rfl, (rfl : w = w.drewN 0)⟩
  case round =>
    obtain ⟨k, n0, hka, hkb, rfl, hs, bel⟩ := hrel
    by_cases hlt : k < a.length ∧ k < b.length
    · obtain ⟨hlta, hltb⟩ := hlt
      have hca : ∀ h : k < (str a).size, ((str a)[k]'h).toNat = (a.getD k 0).toNat := fun h => by rw [k8str_byte]
      have hcb : ∀ h : k < (str b).size, ((str b)[k]'h).toNat = (b.getD k 0).toNat := fun h => by rw [k8str_byte]
      have hat := lt_at hlta hltb hs.out
      have hmo := take_more hlta hltb hs.out
      have hm256 := (a.getD k 0).toNat_lt
      have hn256 := (b.getD k 0).toNat_lt
      generalize (a.getD k 0).toNat = m at *
      generalize (b.getD k 0).toNat = n at *
      by_cases he : m = n
      · subst he
        have HM := Lib.hid (hmo rfl)
        clear hs hat hmo
        go_wp2_with fail
        go_quiet (fail)
        have bel2 : Hid (wr.drewN nq = w.drewN (n0 + nq)) := by have h := bel.out; exact Lib.hid (by rw [h, World.drewN_drewN])
        go_wp2_with fail
        exact ⟨⟨k + 1, n0 + nq, by omega, by omega, by push_cast; rfl, HM, bel2⟩, by simp [intOf]; omega⟩
      · have HT := Lib.hid (hat he)
        have hne : ((m : Int) != (n : Int)) = true := by simpa using (by omega : ¬ (m : Int) = (n : Int))
        have hne2 : ((m : Int) == (n : Int)) = false := by simpa using (by omega : ¬ (m : Int) = (n : Int))
        clear hs hat hmo he
        obtain ⟨G, hG⟩ : ∃ G, decide ((m : Int) < (n : Int)) = G := ⟨_, rfl⟩
        have HG := Lib.hid hG
        clear hG
        go_wp2_with fail
        go_quiet (fail)
        obtain ⟨v, hv⟩ : ∃ v, v = World.drewN wr nq := ⟨_, rfl⟩
        have bel2 : Hid (v = w.drewN (n0 + nq)) := by have h := bel.out; exact Lib.hid (by rw [hv, h, World.drewN_drewN])
        obtain ⟨n1, hn1⟩ : ∃ n1, n1 = n0 + nq := ⟨_, rfl⟩
        rw [← hn1] at bel2
        rw [← hv]
        clear hv hn1
        go_wp2_with fail
        go_quiet (fail)
        have bel3 : Hid (v.drewN nq = w.drewN (n1 + nq)) := by have h := bel2.out; exact Lib.hid (by rw [h, World.drewN_drewN])
        go_wp2_with fail
        go_ret
        exact ⟨ret_bool (by rw [HB.out, HT.out]), _, bel3.out⟩
    · have HT := Lib.hid (lt_end hka hkb hs.out (by omega))
      clear hs
      have hor : (k < a.length ∧ b.length ≤ k) ∨ a.length ≤ k := by omega
      rcases hor with ⟨h3, h4⟩ | h3
      · go_wp2_with fail
        go_ret
        exact ⟨ret_bool (by rw [HB.out, HT.out]), _, bel.out⟩
      · go_wp2_with fail
        go_ret
        exact ⟨ret_bool (by rw [HB.out, HT.out]), _, bel.out⟩
/-- Texts of items no longer than a text may be. -/
def SzI (l : List It) : Prop := ∀ x ∈ l, x.key.length ≤ maxLen ∧ x.v.s.length ≤ maxLen
set_option maxRecDepth 100000 in
set_option maxHeartbeats 1000000 in
theorem check_any (v : Value) (l : List It) (w : World) (tab : TabAt w) (h : RdI w v l) (hsz : SzI l) :
    Calls Tryz.prog 52 #[v] w fun e w' => e = .returned (.tuple #[.int .i64 ((chkL l).1 : Int), .int .i64 ((chkL l).2 : Int)]) ∧ Below w.heap.size w w' := by
  obtain ⟨ao, cap, rfl, hc, hm, hr⟩ := RdK.open h
  obtain ⟨R, hR⟩ : ∃ R, R = Ending.returned (.tuple #[.int .i64 ((chkL l).1 : Int), .int .i64 ((chkL l).2 : Int)]) := ⟨_, rfl⟩
  rw [← hR]
  have HR := Lib.hid hR
  have HS := Lib.hid hsz
  clear h hR hsz
  by_cases hbig : 64 < l.length
  · have E := Lib.hid (chk_big l hbig)
    clear hr
    go_enter Tryz.func52, Tryz.ntmps52
    go_wp2_with fail
    go_ret2
    exact ⟨by rw [HR.out, E.out]; rfl, Below.refl _ _⟩
  · have hr : RdI w (.slice ao l.length cap) l := hr
    have S0 := Lib.hid (chk_start l (by omega))
    have HRD := Lib.hid hr
    clear hr
    go_enter Tryz.func52, Tryz.ntmps52
    go_wp2_with fail
    go_loopw [11] (fun i wr => ∃ k : Nat, k ≤ l.length ∧ i = .int .i64 (k : Int) ∧ Hid (chkL l = chkGo (prevK l k) k (l.drop k)) ∧ Below w.heap.size w wr) (fun i _ => 100 - (intOf i).toNat)
    case atStart => exact ⟨0, Nat.zero_le _, rfl, S0, Below.refl _ _⟩
    case round =>
      obtain ⟨k, hk, rfl, E0, bel⟩ := hrel
      by_cases hlt : k < l.length
      · have hr := HRD.out
        have R1 := hr.below bel (Nat.le_refl _)
        obtain ⟨b, off, rfl, hb, c0, c1, c2, c3, c4⟩ := rdi_cells R1 k hlt
        obtain ⟨x, hx⟩ : ∃ x, x = l[k] := ⟨_, rfl⟩
        rw [← hx] at c0 c1 c2 c3 c4
        have hxk : x.key.length ≤ maxLen := by rw [hx]; exact (HS.out _ (List.getElem_mem _)).1
        have hxs : x.v.s.length ≤ maxLen := by rw [hx]; exact (HS.out _ (List.getElem_mem _)).2
        have M1 := leafMay_any x hxk hxs
        unfold itV at M1
        have HX := Lib.hid hx
        clear R1 hx
        cases hm : mayI x with
        | false =>
          rw [hm] at M1
          obtain ⟨W8, hW8⟩ : ∃ W8, W8 = wr.alloc (.cells #[.string (str x.key), .int .i64 x.v.k, .int .i64 x.v.i, .string (str x.v.s), .int .i64 x.ver] 154) := ⟨_, rfl⟩
          have q8 : W8.heap[wr.heap.size]? = some (.cells #[.string (str x.key), .int .i64 x.v.k, .int .i64 x.v.i, .string (str x.v.s), .int .i64 x.ver] 154 (0, 0)) := by rw [hW8]; exact heap_alloc_new _ _
          have A8 : Below wr.heap.size wr W8 := by rw [hW8]; exact (Below.refl _ _).alloc (Nat.le_refl _) _
          have B1 := chain bel A8
          have M := M1.at W8 (tab.below B1)
          subst hW8
          have E := Lib.hid (show chkL l = (1, k) by rw [E0.out]; exact chk_may l k hlt (by rw [← HX.out]; exact hm))
          clear hm E0 hr M1 HRD
          go_wp2_with fail
          refine M.mono ?_
          rintro e w2 ⟨rfl, g2⟩
          have B2 := chain B1 g2
          clear g2 M
          go_wp2_with fail
          go_ret2
          exact ⟨by rw [HR.out, E.out]; rfl, B2⟩
        | true =>
          rw [hm] at M1
          obtain ⟨W8, hW8⟩ : ∃ W8, W8 = wr.alloc (.cells #[.string (str x.key), .int .i64 x.v.k, .int .i64 x.v.i, .string (str x.v.s), .int .i64 x.ver] 154) := ⟨_, rfl⟩
          have q8 : W8.heap[wr.heap.size]? = some (.cells #[.string (str x.key), .int .i64 x.v.k, .int .i64 x.v.i, .string (str x.v.s), .int .i64 x.ver] 154 (0, 0)) := by rw [hW8]; exact heap_alloc_new _ _
          have A8 : Below wr.heap.size wr W8 := by rw [hW8]; exact (Below.refl _ _).alloc (Nat.le_refl _) _
          have B1 := chain bel A8
          have M := M1.at W8 (tab.below B1)
          subst hW8
          clear M1
          by_cases h0 : k = 0
          · have E := Lib.hid (show chkL l = chkGo (prevK l (k + 1)) (k + 1) (l.drop (k + 1)) by
              have h := E0.out
              subst h0
              rw [h]; exact chk_next0 l hlt (by rw [← HX.out]; exact hm))
            have f3 : decide (0 < (k : Int)) = false := by simp; omega
            have f3n : decide (0 < k) = false := by simp; omega
            have H0 := Lib.hid h0
            clear hm E0 h0
            go_wp2_with fail
            refine M.mono ?_
            rintro e w2 ⟨rfl, g2⟩
            have B2 := chain B1 g2
            have q9 := (g2.block _ (lt_of_block q8)).trans q8
            obtain ⟨d0, d1, d2, d3, d4, -⟩ := block_cells5 q9
            clear g2 M
            clear hr HRD
            go_wp2_with fail
            go_quiet (fail)
            have B3 := below_drewN (k := nq) B2
            go_wp2_with fail
            exact ⟨⟨k + 1, by omega, by push_cast; rfl, E, B3⟩, by simp [intOf]; omega⟩
          · have f0 : 0 < k := by omega
            clear h0
            go_wp2_with fail
            refine M.mono ?_
            rintro e w2 ⟨rfl, g2⟩
            have B2 := chain B1 g2
            have q9 := (g2.block _ (lt_of_block q8)).trans q8
            obtain ⟨d0, d1, d2, d3, d4, -⟩ := block_cells5 q9
            clear g2 M
            obtain ⟨j, hj⟩ : ∃ j, k = j + 1 := ⟨k - 1, by omega⟩
            have R2 := hr.below B2 (Nat.le_refl _)
            have hjl : j < l.length := by omega
            obtain ⟨b', off', hbo, -, e0, -⟩ := rdi_cells R2 j hjl
            cases hbo
            obtain ⟨y, hy⟩ : ∃ y, y = l[j]'hjl := ⟨_, rfl⟩
            rw [← hy] at e0
            have f1 : IntKind.i64.wrap ((k : Int) - 1) = (j : Int) := by rw [IntKind.wrap_i64]; omega
            have f2 : (k : Int) - 1 = (j : Int) := by omega
            have f3 : decide (0 < (k : Int)) = true := by simp; omega
            have f4 : (j : Int) < l.length := by omega
            have hyk : y.key.length ≤ maxLen := by rw [hy]; exact (HS.out _ (List.getElem_mem _)).1
            have HY := Lib.hid hy
            have HJ := Lib.hid hj
            clear hy hj
            cases ho : ltB y.key x.key with
            | false =>
              have E := Lib.hid (show chkL l = (3, k) by have h := E0.out; have hj := HJ.out; subst hj; rw [h]; exact chk_ord l j hlt (by rw [← HX.out]; exact hm) (by rw [← HY.out, ← HX.out]; exact ho))
              have fL := fun W => leq_str x.key y.key W
              simp only [ho, Bool.not_false, Bool.not_true] at fL
              clear ho
              clear R2 hm E0
              go_wp2_with fail
              go_quiet (fail)
              have B3 := below_drewN (k := nq) B2
              go_wp2_with fail
              go_ret2
              exact ⟨by rw [HR.out, E.out]; rfl, B3⟩
            | true =>
              have E := Lib.hid (show chkL l = chkGo (prevK l (k + 1)) (k + 1) (l.drop (k + 1)) by have h := E0.out; have hj := HJ.out; subst hj; rw [h]; exact chk_next l j hlt (by rw [← HX.out]; exact hm) (by rw [← HY.out, ← HX.out]; exact ho))
              have fL := fun W => leq_str x.key y.key W
              simp only [ho, Bool.not_false, Bool.not_true] at fL
              clear ho
              clear R2 hm E0
              go_wp2_with fail
              go_quiet (fail)
              have B3 := below_drewN (k := nq) B2
              go_wp2_with fail
              exact ⟨⟨k + 1, by omega, by push_cast; rfl, E, B3⟩, by simp [intOf]; omega⟩
      · obtain rfl : k = l.length := by omega
        have E := Lib.hid (E0.out.trans (chk_end l _ (Nat.le_refl _)))
        clear E0
        go_wp2_with fail
        go_ret2
        exact ⟨by rw [HR.out, E.out]; rfl, bel⟩
set_option maxRecDepth 100000 in
set_option maxHeartbeats 1000000 in
theorem refCheck_any (v : Value) (l : List It) (w : World) (tab : TabAt w) (h : RdI w v l) (hsz : SzI l) :
    Calls Tryz.prog 55 #[v] w fun e w' => e = .returned (.tuple #[.int .i64 ((chkL l).1 : Int), .int .i64 ((chkL l).2 : Int)]) ∧ Below w.heap.size w w' := by
  obtain ⟨ao, cap, rfl, hc, hm, hr⟩ := RdK.open h
  obtain ⟨R, hR⟩ : ∃ R, R = Ending.returned (.tuple #[.int .i64 ((chkL l).1 : Int), .int .i64 ((chkL l).2 : Int)]) := ⟨_, rfl⟩
  rw [← hR]
  have HR := Lib.hid hR
  have HS := Lib.hid hsz
  clear h hR hsz
  by_cases hbig : 64 < l.length
  · have E := Lib.hid (chk_big l hbig)
    clear hr
    go_enter Tryz.func55, Tryz.ntmps55
    go_wp2_with fail
    go_ret2
    exact ⟨by rw [HR.out, E.out]; rfl, Below.refl _ _⟩
  · have hr : RdI w (.slice ao l.length cap) l := hr
    have S0 := Lib.hid (chk_start l (by omega))
    have HRD := Lib.hid hr
    clear hr
    go_enter Tryz.func55, Tryz.ntmps55
    go_wp2_with fail
    go_loopw [4] (fun i wr => ∃ k : Nat, k ≤ l.length ∧ i = .int .i64 (k : Int) ∧ Hid (chkL l = chkGo (prevK l k) k (l.drop k)) ∧ Below w.heap.size w wr) (fun i _ => 100 - (intOf i).toNat)
    case atStart => exact ⟨0, Nat.zero_le _, rfl, S0, Below.refl _ _⟩
    case round =>
      obtain ⟨k, hk, rfl, E0, bel⟩ := hrel
      by_cases hlt : k < l.length
      · have hr := HRD.out
        have R1 := hr.below bel (Nat.le_refl _)
        obtain ⟨b, off, rfl, hb, c0, c1, c2, c3, c4⟩ := rdi_cells R1 k hlt
        obtain ⟨x, hx⟩ : ∃ x, x = l[k] := ⟨_, rfl⟩
        rw [← hx] at c0 c1 c2 c3 c4
        have hxk : x.key.length ≤ maxLen := by rw [hx]; exact (HS.out _ (List.getElem_mem _)).1
        have hxs : x.v.s.length ≤ maxLen := by rw [hx]; exact (HS.out _ (List.getElem_mem _)).2
        have M1 := refLeafMay_any x hxk hxs
        unfold itV at M1
        have HX := Lib.hid hx
        clear R1 hx
        cases hm : mayI x with
        | false =>
          rw [hm] at M1
          have A8 := Below.refl wr.heap.size wr
          have B1 := bel
          have M := M1.at wr (tab.below bel)
          have E := Lib.hid (show chkL l = (1, k) by rw [E0.out]; exact chk_may l k hlt (by rw [← HX.out]; exact hm))
          clear hm E0 hr M1 HRD
          go_wp2_with fail
          refine M.mono ?_
          rintro e w2 ⟨rfl, g2⟩
          have B2 := chain B1 g2
          clear g2 M
          go_wp2_with fail
          go_ret2
          exact ⟨by rw [HR.out, E.out]; rfl, B2⟩
        | true =>
          rw [hm] at M1
          have A8 := Below.refl wr.heap.size wr
          have B1 := bel
          have M := M1.at wr (tab.below bel)
          clear M1
          by_cases h0 : k = 0
          · have E := Lib.hid (show chkL l = chkGo (prevK l (k + 1)) (k + 1) (l.drop (k + 1)) by
              have h := E0.out
              subst h0
              rw [h]; exact chk_next0 l hlt (by rw [← HX.out]; exact hm))
            have f3 : decide (0 < (k : Int)) = false := by simp; omega
            have f3n : decide (0 < k) = false := by simp; omega
            have H0 := Lib.hid h0
            clear hm E0 h0
            go_wp2_with fail
            refine M.mono ?_
            rintro e w2 ⟨rfl, g2⟩
            have B2 := chain B1 g2
            have R2 := hr.below B2 (Nat.le_refl _)
            obtain ⟨b', off', hbo, -, d0, d1, d2, d3, d4⟩ := rdi_cells R2 k hlt
            cases hbo
            rw [← HX.out] at d0 d1 d2 d3 d4
            clear R2
            clear g2 M
            clear hr HRD
            go_wp2_with fail
            go_quiet (fail)
            have B3 := below_drewN (k := nq) B2
            go_wp2_with fail
            exact ⟨⟨k + 1, by omega, by push_cast; rfl, E, B3⟩, by simp [intOf]; omega⟩
          · have f0 : 0 < k := by omega
            clear h0
            go_wp2_with fail
            refine M.mono ?_
            rintro e w2 ⟨rfl, g2⟩
            have B2 := chain B1 g2
            have R2 := hr.below B2 (Nat.le_refl _)
            obtain ⟨b', off', hbo, -, d0, d1, d2, d3, d4⟩ := rdi_cells R2 k hlt
            cases hbo
            rw [← HX.out] at d0 d1 d2 d3 d4
            clear R2
            clear g2 M
            obtain ⟨j, hj⟩ : ∃ j, k = j + 1 := ⟨k - 1, by omega⟩
            have R2 := hr.below B2 (Nat.le_refl _)
            have hjl : j < l.length := by omega
            obtain ⟨b', off', hbo, -, e0, -⟩ := rdi_cells R2 j hjl
            cases hbo
            obtain ⟨y, hy⟩ : ∃ y, y = l[j]'hjl := ⟨_, rfl⟩
            rw [← hy] at e0
            have f1 : IntKind.i64.wrap ((k : Int) - 1) = (j : Int) := by rw [IntKind.wrap_i64]; omega
            have f2 : (k : Int) - 1 = (j : Int) := by omega
            have f3 : decide (0 < (k : Int)) = true := by simp; omega
            have f4 : (j : Int) < l.length := by omega
            have hyk : y.key.length ≤ maxLen := by rw [hy]; exact (HS.out _ (List.getElem_mem _)).1
            have HY := Lib.hid hy
            have HJ := Lib.hid hj
            clear hy hj
            cases ho : ltB y.key x.key with
            | false =>
              have E := Lib.hid (show chkL l = (3, k) by have h := E0.out; have hj := HJ.out; subst hj; rw [h]; exact chk_ord l j hlt (by rw [← HX.out]; exact hm) (by rw [← HY.out, ← HX.out]; exact ho))
              have AQ0 := fun W => ahead_q y.key x.key W hyk hxk
              simp only [ho] at AQ0
              have AQH := Lib.hid AQ0
              clear ho AQ0
              clear R2 hm E0
              go_wp2_with fail
              go_quiet ((go_at_call 87; exact Calls.quiet_of (AQH.out _)))
              have B3 := below_drewN (k := nq) B2
              go_wp2_with fail
              go_ret2
              exact ⟨by rw [HR.out, E.out]; rfl, B3⟩
            | true =>
              have E := Lib.hid (show chkL l = chkGo (prevK l (k + 1)) (k + 1) (l.drop (k + 1)) by have h := E0.out; have hj := HJ.out; subst hj; rw [h]; exact chk_next l j hlt (by rw [← HX.out]; exact hm) (by rw [← HY.out, ← HX.out]; exact ho))
              have AQ0 := fun W => ahead_q y.key x.key W hyk hxk
              simp only [ho] at AQ0
              have AQH := Lib.hid AQ0
              clear ho AQ0
              clear R2 hm E0
              go_wp2_with fail
              go_quiet ((go_at_call 87; exact Calls.quiet_of (AQH.out _)))
              have B3 := below_drewN (k := nq) B2
              go_wp2_with fail
              exact ⟨⟨k + 1, by omega, by push_cast; rfl, E, B3⟩, by simp [intOf]; omega⟩
      · obtain rfl : k = l.length := by omega
        have E := Lib.hid (E0.out.trans (chk_end l _ (Nat.le_refl _)))
        clear E0
        go_wp2_with fail
        go_ret2
        exact ⟨by rw [HR.out, E.out]; rfl, bel⟩
end Go.Proofs.YtoagdmglchccnaaGreatDoor
