/- Locks: the law LocksPlay. Written by wip/tools/gen24f.py. -/
import Derived.Test.YtjmfiekgpoonjaaDoorQLPC30
namespace Go.Proofs.YtjmfiekgpoonjaaDoor
open Go Go.RowKit
set_option linter.unusedVariables false
set_option linter.unusedSimpArgs false
/-- What all the rest of a round comes to. -/
structure Tl (pt N : Nat) (vl vA : Value) (x : World) (R0 R1 : List Nat) (q m : Nat) : Prop where
  ar2 : ∀ W, Below x.heap.size x W → Calls Tryd.prog 27 #[vA, .int .i64 2] W fun e w' => ∃ a c, e = .returned (.slice a m c) ∧ Below W.heap.size W w'
  ry : ∀ W, Below x.heap.size x W → Calls Tryd.prog 28 #[.pointer (some ⟨pt, 0, none⟩)] W (GivesI W R0)
  rr : ∀ W, Below x.heap.size x W → Calls Tryd.prog 29 #[vl, vA] W (GivesI W R0)
  ru : ∀ W, Below x.heap.size x W → Calls Tryd.prog 30 #[.pointer (some ⟨pt, 0, none⟩)] W (GivesI W R1)
  ar1 : ∀ W, Below x.heap.size x W → Calls Tryd.prog 27 #[vA, .int .i64 1] W (GivesI W R1)
  le : ∀ W, Below x.heap.size x W → Calls Tryd.prog 31 #[.pointer (some ⟨pt, 0, none⟩)] W fun e w' => e = .returned (.int .i64 (q : Int)) ∧ Below W.heap.size W w'
  dn : ∀ W, Below x.heap.size x W → Calls Tryd.prog 32 #[.pointer (some ⟨pt, 0, none⟩)] W fun e w' => e = .returned (.bool (q == 0)) ∧ Below W.heap.size W w'
  sum : q + m = N
theorem same_self (va vb : Value) (l : List Nat) (w : World) (ha : RdI w va l) (hb : RdI w vb l) :
    Calls Tryd.prog 25 #[va, vb] w fun e w' => e = .returned (.bool true) ∧ Below w.heap.size w w' := by
  have h := same_any va vb l l w ha hb
  rw [decide_eq_true rfl] at h
  exact h
theorem tail24 {w1 x : World} {pt Bs Ba base N : Nat} {aA : Option Addr} {cA : Nat} {M : List Wt} {at' : List Nat} {vl : Value} {ps : List WV} (T : Tb w1 x pt Bs aA cA N M at') (A : OwnA x base Ba N at')
    (fair : Fair M at') (hN : N = M.length) (h64 : N ≤ 64) (sz : SzL M) (hall : allB M = true) (tab : TabAt x) (rd : RdL x vl ps M) : ∃ R0 R1 q m, Tl pt N vl (.slice (some ⟨Ba, 0, none⟩) N N) x R0 R1 q m := by
  have hl : at'.length = N := T.len
  refine ⟨(List.range N).filter fun i => at'.getD i 0 == 0 && (opL M at' i).length == 0, (List.range N).filter fun i => at'.getD i 0 == 1, ((List.range N).filter fun i => at'.getD i 0 != 2).length, ((List.range N).filter fun i => at'.getD i 0 == 2).length, ?_, ?_, ?_, ?_, ?_, ?_, ?_, ?_⟩
  · intro W g
    have h := are_any _ at' 2 W (RdI.below A.rd g (Nat.le_refl _)) (by omega)
    rw [hl] at h
    refine h.mono ?_
    rintro e w' ⟨a, n, c, rfl, own, g⟩
    obtain ⟨-, hn⟩ := own_len own
    subst hn
    exact ⟨a, c, rfl, g⟩
  · exact fun W g => ready_any w1 pt Bs aA cA N M at' W (T.below g)
  · intro W g
    have h := rready_any vl ps M _ at' W (tab.below g) (rd.below g (Nat.le_refl _)) sz hall (RdI.below A.rd g (Nat.le_refl _)) (by omega)
    rw [← hN, show rmB M at' = fun i => at'.getD i 0 == 0 && (opL M at' i).length == 0 from funext fun i => fair_rm fair i] at h
    exact h
  · exact fun W g => running_any w1 pt Bs aA cA N M at' W (T.below g)
  · intro W g
    have h := are_any _ at' 1 W (RdI.below A.rd g (Nat.le_refl _)) (by omega)
    rw [hl] at h
    exact h
  · exact fun W g => left_any w1 pt Bs aA cA N M at' W (T.below g)
  · exact fun W g => done_any w1 pt Bs aA cA N M at' W (T.below g)
  · rw [left_sum, List.length_range]
set_option maxRecDepth 100000 in
set_option maxHeartbeats 2000000 in
theorem plays_no (v : Value) (ps : List WV) (L : List Wt) (va : Value) (w : World) (tab : TabAt w) (h : RdL w v ps L) (hz : SzL L) (hall : allB (fewLW L) = false) :
    Calls Tryd.prog 6 #[v, va] w fun e w' => e = .returned (.bool true) ∧ Below w.heap.size w w' := by
  obtain ⟨ao, cap, rfl, -, -, hr⟩ := h.open
  have FW := Lib.hid (fewL_any (.slice ao L.length cap) ps L w hr hz)
  obtain ⟨M, hM⟩ : ∃ M, M = fewLW L := ⟨_, rfl⟩
  have sz : SzL M := by rw [hM]; exact fewLW_sz L
  rw [← hM] at FW hall
  have bel := Below.refl w.heap.size w
  clear h hz hr hM
  go_enter Tryd.func6, Tryd.ntmps6
  go_wp2_with fail
  refine FW.out.mono ?_
  rintro e u1 ⟨v1, p1, rfl, own, g⟩
  obtain ⟨a1, c1, e1, -, -, rd⟩ := own.rd.open
  subst e1
  have t1 := tab.below g
  have bel := chain bel g
  have NW := Lib.hid (fun W (g : Below u1.heap.size u1 W) => new_no (.slice a1 M.length c1) p1 M W (t1.below g) (rd.below g (Nat.le_refl _)) sz hall)
  have RT0 := fun W (g : Below u1.heap.size u1 W) => right_any (.slice a1 M.length c1) p1 M W (t1.below g) (rd.below g (Nat.le_refl _)) sz
  rw [hall] at RT0
  have RT := Lib.hid RT0
  have AW := Lib.hid (fun W (g : Below u1.heap.size u1 W) => awake24_any W (t1.below g))
  have hS := Below.refl u1.heap.size u1
  clear g own rd RT0 sz t1 tab
  go_wp2_with (first | ((with_reducible refine (NW.out _ hS).mono ?_); rintro e w1 ⟨rfl, g⟩; have hS := chain hS g; clear g) | ((with_reducible refine (RT.out _ hS).mono ?_); rintro e w1 ⟨rfl, g⟩; have hS := chain hS g; clear g) | ((with_reducible refine (AW.out _ hS).mono ?_); rintro e w1 ⟨rfl, g⟩; have hS := chain hS g; clear g))
  go_ret
  exact ⟨rfl, chain bel hS⟩
set_option maxRecDepth 100000 in
set_option maxHeartbeats 16000000 in
theorem plays_yes (v : Value) (ps : List WV) (L : List Wt) (va : Value) (n : Nat) (w : World) (tab : TabAt w) (h : RdL w v ps L) (hz : SzL L) (hac : RdAc w va n) (hall : allB (fewLW L) = true) :
    Calls Tryd.prog 6 #[v, va] w fun e w' => e = .returned (.bool true) ∧ Below w.heap.size w w' := by
  obtain ⟨ao, cap, rfl, -, -, hr⟩ := h.open
  obtain ⟨ac, cac, rfl, hn1, hn2, HAC⟩ := hac
  have FW := Lib.hid (fewL_any (.slice ao L.length cap) ps L w hr hz)
  obtain ⟨M, hM⟩ : ∃ M, M = fewLW L := ⟨_, rfl⟩
  have sz : SzL M := by rw [hM]; exact fewLW_sz L
  rw [← hM] at FW hall
  have bel := Below.refl w.heap.size w
  clear h hz hr hM
  go_enter Tryd.func6, Tryd.ntmps6
  go_wp2_with fail
  refine FW.out.mono ?_
  rintro e u1 ⟨v1, p1, rfl, own, g⟩
  obtain ⟨a1, c1, e1, hc1, hc2, rd⟩ := own.rd.open
  subst e1
  have t1 := tab.below g
  have bel := chain bel g
  have h64 : M.length ≤ 64 := by unfold allB at hall; rw [Bool.and_eq_true, decide_eq_true_eq] at hall; exact hall.1
  have NW0 := new_yes (.slice a1 M.length c1) p1 M u1 t1 rd sz hall
  have RT0 := fun W (g : Below u1.heap.size u1 W) => right_any (.slice a1 M.length c1) p1 M W (t1.below g) (rd.below g (Nat.le_refl _)) sz
  rw [hall] at RT0
  obtain ⟨N, hN⟩ : ∃ N, N = M.length := ⟨_, rfl⟩
  rw [← hN] at NW0 RT0 h64 rd hc1
  have NW := Lib.hid NW0
  have RT := Lib.hid RT0
  have AW := Lib.hid (fun W (g : Below u1.heap.size u1 W) => awake24_any W (t1.below g))
  have HN := Lib.hid hN
  have SZ := Lib.hid sz
  have HL := Lib.hid hall
  have TB1 := Lib.hid t1
  have RD := Lib.hid rd
  have BEL := Lib.hid bel
  rw [← hN]
  clear g own rd RT0 NW0 sz t1 tab bel hall hN FW
  go_wp2_with fail
  refine NW.out.mono ?_
  rintro e u2 ⟨w1, pt, Bs, aA, cA, rfl, T, g, hBs⟩
  have hS := chain (Below.refl u1.heap.size u1) g
  clear NW g
  have RT2 := Lib.hid (RT.out _ hS)
  clear RT
  go_wp2_with fail
  refine RT2.out.mono ?_
  rintro e u3 ⟨rfl, g⟩
  have T := T.below g
  have hS := chain hS g
  have hmk := make_ints N (by omega)
  obtain ⟨Ba, hBa0⟩ : ∃ Ba, Ba = u3.heap.size := ⟨_, rfl⟩
  have hptBa : pt < Ba := by rw [hBa0]; exact lt_of_block T.tb
  have hBsBa : Bs < Ba := by rw [hBa0]; exact lt_of_block T.st
  have hBa : u1.heap.size ≤ Ba := by rw [hBa0]; exact hS.size
  have b10 := (Below.refl u3.heap.size u3).alloc (Nat.le_refl _) (.cells (Array.replicate N (.int .i64 0)) 3)
  have T := T.below b10
  have A := own_made (w := u3) (n := N) (base := u3.heap.size) (Nat.le_refl _) (by omega)
  have hS := chain hS b10
  clear RT2 g b10
  go_wp2_with fail
  rw [← hBa0] at A ⊢
  obtain ⟨W0, hW0⟩ : ∃ W, W = u3.alloc (.cells (Array.replicate N (.int .i64 0)) 3) := ⟨_, rfl⟩
  rw [← hW0] at T A hS ⊢
  have FA0 := Lib.hid (fair_zero M N)
  clear hmk hBa0 hW0
  go_loopw [8] (fun t wr => ∃ (k : Nat) (at' : List Nat), k ≤ n ∧ k ≤ 140 ∧ t = .int .i64 (k : Int) ∧ Hid (Fair M at') ∧ Tb w1 wr pt Bs aA cA N M at' ∧ OwnA wr Ba Ba N at' ∧ Below u1.heap.size u1 wr) (fun t _ => n - (intOf t).toNat)
  case atStart => exact ⟨0, _, Nat.zero_le _, Nat.zero_le _, rfl, FA0, T, A, hS⟩
  case round =>
    clear T A hS FA0
    obtain ⟨k, at', hk, hk140, rfl, FA, T, A, hS⟩ := hrel
    by_cases hlt : k < n
    · have dlt : decide ((k : Int) < (n : Int)) = true := decide_eq_true (by omega)
      by_cases h140 : k < 140
      · have d140 : decide ((k : Int) < 140) = true := decide_eq_true (by omega)
        obtain ⟨b, off, d, i0, rfl, hb, cD, cI⟩ := HAC.out k hlt
        have bw := BEL.out.trans (hS.mono BEL.out.size)
        have cD := (bw.cell (p := ⟨b, off + k * 2, none⟩) hb).trans cD
        have cI := (bw.cell (p := ⟨b, off + (k * 2 + 1), none⟩) hb).trans cI
        rw [← Nat.add_assoc] at cI
        clear bw
        by_cases hin : 0 ≤ i0 ∧ i0 < (N : Int)
        · obtain ⟨i, rfl⟩ : ∃ i : Nat, i0 = (i : Int) := ⟨i0.toNat, by omega⟩
          have hi : i < N := by omega
          clear hin
          cases d with
          | true =>
            have HF0 := Lib.hid FA.out
            have hii : (i : Int) < (N : Int) := by omega
            have hi0 : ¬ ((i : Int) < 0) := by omega
            obtain ⟨at2, hat2⟩ : ∃ at2, at2 = enA at' i := ⟨_, rfl⟩
            obtain ⟨cd, hcd⟩ : ∃ cd, cd = enC at' i := ⟨_, rfl⟩
            have HC0 := end_yes w1 pt Bs aA cA N M at' i hi _ T
            rw [← hat2, ← hcd] at HC0
            have FA : Hid (Fair M at2) := Lib.hid (by rw [hat2]; exact fair_end FA.out i)
            have HC := Lib.hid HC0
            have Hat2 := Lib.hid hat2
            have Hcd := Lib.hid hcd
            clear HC0 hat2 hcd
            have HT0 := Lib.hid T
            have HA0 := Lib.hid A
            have HS0 := Lib.hid hS
            clear T A hS
            go_wp2_with fail
            refine HC.out.mono ?_
            rintro e x0 ⟨he, T, gg⟩
            replace he : e = .returned (.int .i64 (cd : Int)) := he
            subst he
            have A : OwnA x0 Ba Ba N at' := own_grown HA0.out gg hBsBa
            have hS := HS0.out.grown gg HS0.out.size (fun j e => by cases e; exact hBs)
            have HC1 := rend_yes Ba Ba N at' i hi h64 x0 A
            rw [← Hat2.out, ← Hcd.out] at HC1
            have HC2 := Lib.hid HC1
            have HT1 := Lib.hid T
            have HS1 := Lib.hid hS
            clear HC1 HC HT0 HA0 HS0 A T hS gg
            go_wp2_with fail
            refine HC2.out.mono ?_
            rintro e x ⟨he, A, gg⟩
            replace he : e = .returned (.int .i64 (cd : Int)) := he
            subst he
            have T := HT1.out.grown gg hptBa
            have hS := HS1.out.grown gg HS1.out.size (fun j e => by cases e; exact hBa)
            have A : OwnA x Ba Ba N at2 := A
            have dcd : ((cd : Int) != (cd : Int)) = false := bne_self_eq_false _
            clear HC2 HT1 HS1 gg Hat2 Hcd
            obtain ⟨wl, hwl⟩ : ∃ l, l = opL M at2 i := ⟨_, rfl⟩
            have WT0 := waits_yes w1 pt Bs aA cA N M at2 i hi _ T
            have RW0 := fun W (g : Below x.heap.size x W) => rwaits_any (.slice a1 N c1) p1 M _ at2 i (by rw [← HN.out]; exact hi) W ((TB1.out.below hS).below g) ((RD.out.below hS (Nat.le_refl _)).below g (Nat.le_refl _)) SZ.out HL.out (RdI.below A.rd g (Nat.le_refl _)) (by rw [← HN.out]; exact A.len)
            rw [fair_rw FA.out, ← hwl] at RW0
            rw [← hwl] at WT0
            have WT := Lib.hid WT0
            have RW := Lib.hid RW0
            clear WT0 RW0 hwl
            obtain ⟨R0, R1, q, m, TL⟩ := tail24 T A FA.out HN.out h64 SZ.out HL.out (TB1.out.below hS) (RD.out.below hS (Nat.le_refl _))
            have hsum := TL.sum
            have hq : (N : Int) - (m : Int) = (q : Int) := by omega
            have hqN : q ≤ 64 := by omega
            obtain ⟨z, hz⟩ : ∃ z, z = (q == 0) := ⟨_, rfl⟩
            have dz : ((q : Int) == 0) = z := by rw [hz, Bool.eq_iff_iff, beq_iff_eq, beq_iff_eq]; omega
            have DN := Lib.hid (fun W g => by have h := TL.dn W g; rw [← hz] at h; exact h : ∀ W, Below x.heap.size x W → Calls Tryd.prog 32 #[.pointer (some ⟨pt, 0, none⟩)] W fun e w' => e = .returned (.bool z) ∧ Below W.heap.size W w')
            have HTL := Lib.hid TL
            have HS := Lib.hid hS
            have HT := Lib.hid T
            have HA := Lib.hid A
            have bS := Below.refl x.heap.size x
            clear TL hS T A hz HF0
            go_wp2_with fail
            refine WT.out.mono ?_
            rintro e y ⟨aa, na, ca, rfl, oa, g⟩
            have bS := chain bS g
            clear g WT
            have HC := Lib.hid (RW.out _ bS)
            go_wp2_with fail
            refine HC.out.mono ?_
            rintro e y ⟨ab, nb, cb, rfl, ob, g⟩
            have oa := own_keep oa g
            have bS := chain bS g
            clear g HC
            have HC := Lib.hid (same_self _ _ _ _ (own_rdv oa) (own_rdv ob))
            go_wp2_with fail
            refine HC.out.mono ?_
            rintro e y ⟨rfl, g⟩
            have bS := chain bS g
            clear g HC oa ob
            clear RW
            have HC := Lib.hid (HTL.out.ar2 _ bS)
            go_wp2_with fail
            refine HC.out.mono ?_
            rintro e y ⟨am, cm, rfl, g⟩
            have bS := chain bS g
            clear g HC
            have HC := Lib.hid (HTL.out.ry _ bS)
            go_wp2_with fail
            refine HC.out.mono ?_
            rintro e y ⟨aa, na, ca, rfl, oa, g⟩
            have bS := chain bS g
            clear g HC
            have HC := Lib.hid (HTL.out.rr _ bS)
            go_wp2_with fail
            refine HC.out.mono ?_
            rintro e y ⟨ab, nb, cb, rfl, ob, g⟩
            have oa := own_keep oa g
            have bS := chain bS g
            clear g HC
            have HC := Lib.hid (same_self _ _ _ _ (own_rdv oa) (own_rdv ob))
            go_wp2_with fail
            refine HC.out.mono ?_
            rintro e y ⟨rfl, g⟩
            have bS := chain bS g
            clear g HC oa ob
            have HC := Lib.hid (HTL.out.ru _ bS)
            go_wp2_with fail
            refine HC.out.mono ?_
            rintro e y ⟨aa, na, ca, rfl, oa, g⟩
            have bS := chain bS g
            clear g HC
            have HC := Lib.hid (HTL.out.ar1 _ bS)
            go_wp2_with fail
            refine HC.out.mono ?_
            rintro e y ⟨ab, nb, cb, rfl, ob, g⟩
            have oa := own_keep oa g
            have bS := chain bS g
            clear g HC
            have HC := Lib.hid (same_self _ _ _ _ (own_rdv oa) (own_rdv ob))
            go_wp2_with fail
            refine HC.out.mono ?_
            rintro e y ⟨rfl, g⟩
            have bS := chain bS g
            clear g HC oa ob
            have HC := Lib.hid (HTL.out.le _ bS)
            go_wp2_with fail
            refine HC.out.mono ?_
            rintro e y ⟨rfl, g⟩
            have bS := chain bS g
            clear g HC
            have HC := Lib.hid (DN.out _ bS)
            go_wp2_with fail
            refine HC.out.mono ?_
            rintro e y ⟨rfl, g⟩
            have bS := chain bS g
            clear g HC
            go_wp2_with fail
            exact ⟨⟨k + 1, at2, by omega, by omega, by push_cast; rfl, Lib.hid FA.out, HT.out.below bS, own_keep HA.out bS, chain HS.out bS⟩, by simp [intOf]; omega⟩
          | false =>
            have HF0 := Lib.hid FA.out
            have hii : (i : Int) < (N : Int) := by omega
            have hi0 : ¬ ((i : Int) < 0) := by omega
            obtain ⟨at2, hat2⟩ : ∃ at2, at2 = bgA M at' i := ⟨_, rfl⟩
            obtain ⟨cd, hcd⟩ : ∃ cd, cd = bgC M at' i := ⟨_, rfl⟩
            have HC0 := begin_yes w1 pt Bs aA cA N M at' i hi _ T
            rw [← hat2, ← hcd] at HC0
            have FA : Hid (Fair M at2) := Lib.hid (by rw [hat2]; exact fair_begin FA.out i)
            have HC := Lib.hid HC0
            have Hat2 := Lib.hid hat2
            have Hcd := Lib.hid hcd
            clear HC0 hat2 hcd
            have HT0 := Lib.hid T
            have HA0 := Lib.hid A
            have HS0 := Lib.hid hS
            clear T A hS
            go_wp2_with fail
            refine HC.out.mono ?_
            rintro e x0 ⟨he, T, gg⟩
            replace he : e = .returned (.int .i64 (cd : Int)) := he
            subst he
            have A : OwnA x0 Ba Ba N at' := own_grown HA0.out gg hBsBa
            have hS := HS0.out.grown gg HS0.out.size (fun j e => by cases e; exact hBs)
            have HC1 := rbegin_yes (.slice a1 N c1) p1 M Ba Ba at' i (by rw [← HN.out]; exact hi) x0 (TB1.out.below hS) (RD.out.below hS (Nat.le_refl _)) SZ.out HL.out (by rw [← HN.out]; exact A)
            rw [← HN.out, fair_code HF0.out, fair_at HF0.out] at HC1
            rw [← Hat2.out, ← Hcd.out] at HC1
            have HC2 := Lib.hid HC1
            have HT1 := Lib.hid T
            have HS1 := Lib.hid hS
            clear HC1 HC HT0 HA0 HS0 A T hS gg
            go_wp2_with fail
            refine HC2.out.mono ?_
            rintro e x ⟨he, A, gg⟩
            replace he : e = .returned (.int .i64 (cd : Int)) := he
            subst he
            have T := HT1.out.grown gg hptBa
            have hS := HS1.out.grown gg HS1.out.size (fun j e => by cases e; exact hBa)
            have A : OwnA x Ba Ba N at2 := A
            have dcd : ((cd : Int) != (cd : Int)) = false := bne_self_eq_false _
            clear HC2 HT1 HS1 gg Hat2 Hcd
            obtain ⟨wl, hwl⟩ : ∃ l, l = opL M at2 i := ⟨_, rfl⟩
            have WT0 := waits_yes w1 pt Bs aA cA N M at2 i hi _ T
            have RW0 := fun W (g : Below x.heap.size x W) => rwaits_any (.slice a1 N c1) p1 M _ at2 i (by rw [← HN.out]; exact hi) W ((TB1.out.below hS).below g) ((RD.out.below hS (Nat.le_refl _)).below g (Nat.le_refl _)) SZ.out HL.out (RdI.below A.rd g (Nat.le_refl _)) (by rw [← HN.out]; exact A.len)
            rw [fair_rw FA.out, ← hwl] at RW0
            rw [← hwl] at WT0
            have WT := Lib.hid WT0
            have RW := Lib.hid RW0
            clear WT0 RW0 hwl
            obtain ⟨R0, R1, q, m, TL⟩ := tail24 T A FA.out HN.out h64 SZ.out HL.out (TB1.out.below hS) (RD.out.below hS (Nat.le_refl _))
            have hsum := TL.sum
            have hq : (N : Int) - (m : Int) = (q : Int) := by omega
            have hqN : q ≤ 64 := by omega
            obtain ⟨z, hz⟩ : ∃ z, z = (q == 0) := ⟨_, rfl⟩
            have dz : ((q : Int) == 0) = z := by rw [hz, Bool.eq_iff_iff, beq_iff_eq, beq_iff_eq]; omega
            have DN := Lib.hid (fun W g => by have h := TL.dn W g; rw [← hz] at h; exact h : ∀ W, Below x.heap.size x W → Calls Tryd.prog 32 #[.pointer (some ⟨pt, 0, none⟩)] W fun e w' => e = .returned (.bool z) ∧ Below W.heap.size W w')
            have HTL := Lib.hid TL
            have HS := Lib.hid hS
            have HT := Lib.hid T
            have HA := Lib.hid A
            have bS := Below.refl x.heap.size x
            clear TL hS T A hz HF0
            go_wp2_with fail
            refine WT.out.mono ?_
            rintro e y ⟨aa, na, ca, rfl, oa, g⟩
            have bS := chain bS g
            clear g WT
            have HC := Lib.hid (RW.out _ bS)
            go_wp2_with fail
            refine HC.out.mono ?_
            rintro e y ⟨ab, nb, cb, rfl, ob, g⟩
            have oa := own_keep oa g
            have bS := chain bS g
            clear g HC
            have HC := Lib.hid (same_self _ _ _ _ (own_rdv oa) (own_rdv ob))
            go_wp2_with fail
            refine HC.out.mono ?_
            rintro e y ⟨rfl, g⟩
            have bS := chain bS g
            clear g HC oa ob
            clear RW
            have HC := Lib.hid (HTL.out.ar2 _ bS)
            go_wp2_with fail
            refine HC.out.mono ?_
            rintro e y ⟨am, cm, rfl, g⟩
            have bS := chain bS g
            clear g HC
            have HC := Lib.hid (HTL.out.ry _ bS)
            go_wp2_with fail
            refine HC.out.mono ?_
            rintro e y ⟨aa, na, ca, rfl, oa, g⟩
            have bS := chain bS g
            clear g HC
            have HC := Lib.hid (HTL.out.rr _ bS)
            go_wp2_with fail
            refine HC.out.mono ?_
            rintro e y ⟨ab, nb, cb, rfl, ob, g⟩
            have oa := own_keep oa g
            have bS := chain bS g
            clear g HC
            have HC := Lib.hid (same_self _ _ _ _ (own_rdv oa) (own_rdv ob))
            go_wp2_with fail
            refine HC.out.mono ?_
            rintro e y ⟨rfl, g⟩
            have bS := chain bS g
            clear g HC oa ob
            have HC := Lib.hid (HTL.out.ru _ bS)
            go_wp2_with fail
            refine HC.out.mono ?_
            rintro e y ⟨aa, na, ca, rfl, oa, g⟩
            have bS := chain bS g
            clear g HC
            have HC := Lib.hid (HTL.out.ar1 _ bS)
            go_wp2_with fail
            refine HC.out.mono ?_
            rintro e y ⟨ab, nb, cb, rfl, ob, g⟩
            have oa := own_keep oa g
            have bS := chain bS g
            clear g HC
            have HC := Lib.hid (same_self _ _ _ _ (own_rdv oa) (own_rdv ob))
            go_wp2_with fail
            refine HC.out.mono ?_
            rintro e y ⟨rfl, g⟩
            have bS := chain bS g
            clear g HC oa ob
            have HC := Lib.hid (HTL.out.le _ bS)
            go_wp2_with fail
            refine HC.out.mono ?_
            rintro e y ⟨rfl, g⟩
            have bS := chain bS g
            clear g HC
            have HC := Lib.hid (DN.out _ bS)
            go_wp2_with fail
            refine HC.out.mono ?_
            rintro e y ⟨rfl, g⟩
            have bS := chain bS g
            clear g HC
            go_wp2_with fail
            exact ⟨⟨k + 1, at2, by omega, by omega, by push_cast; rfl, Lib.hid FA.out, HT.out.below bS, own_keep HA.out bS, chain HS.out bS⟩, by simp [intOf]; omega⟩
        · by_cases hneg : i0 < 0
          · have dneg : decide (i0 < 0) = true := decide_eq_true hneg
            cases d with
            | true =>
              have hno : hasB N i0 = false := by unfold hasB; rw [Bool.and_eq_false_iff, decide_eq_false_iff_not, decide_eq_false_iff_not]; omega
              obtain ⟨x, hx⟩ : ∃ x, x = wr := ⟨_, rfl⟩
              have HC0 := end_no w1 pt Bs aA cA N M at' i0 _ T hno
              have HC := Lib.hid HC0
              have HR0 := rend_no Ba N i0 wr hno
              have HR := Lib.hid HR0
              have WT := Lib.hid (waits_no w1 pt Bs aA cA N M at' i0 _ T hno)
              rw [← hx] at T A hS HC HR WT cD cI ⊢
              clear HC0 HR0 hx hno
              obtain ⟨R0, R1, q, m, TL⟩ := tail24 T A FA.out HN.out h64 SZ.out HL.out (TB1.out.below hS) (RD.out.below hS (Nat.le_refl _))
              have hsum := TL.sum
              have hq : (N : Int) - (m : Int) = (q : Int) := by omega
              have hqN : q ≤ 64 := by omega
              obtain ⟨z, hz⟩ : ∃ z, z = (q == 0) := ⟨_, rfl⟩
              have dz : ((q : Int) == 0) = z := by rw [hz, Bool.eq_iff_iff, beq_iff_eq, beq_iff_eq]; omega
              have DN := Lib.hid (fun W g => by have h := TL.dn W g; rw [← hz] at h; exact h : ∀ W, Below x.heap.size x W → Calls Tryd.prog 32 #[.pointer (some ⟨pt, 0, none⟩)] W fun e w' => e = .returned (.bool z) ∧ Below W.heap.size W w')
              have HTL := Lib.hid TL
              have HS := Lib.hid hS
              have HT := Lib.hid T
              have HA := Lib.hid A
              have bS := Below.refl x.heap.size x
              clear TL hS T A hz
              go_wp2_with fail
              refine HC.out.mono ?_
              rintro e y ⟨rfl, rfl⟩
              go_wp2_with fail
              refine HR.out.mono ?_
              rintro e y ⟨rfl, rfl⟩
              clear HC HR
              go_wp2_with fail
              refine WT.out.mono ?_
              rintro e y ⟨rfl, g⟩
              have bS := chain bS g
              clear g WT
              have HC := Lib.hid (HTL.out.ar2 _ bS)
              go_wp2_with fail
              refine HC.out.mono ?_
              rintro e y ⟨am, cm, rfl, g⟩
              have bS := chain bS g
              clear g HC
              have HC := Lib.hid (HTL.out.ry _ bS)
              go_wp2_with fail
              refine HC.out.mono ?_
              rintro e y ⟨aa, na, ca, rfl, oa, g⟩
              have bS := chain bS g
              clear g HC
              have HC := Lib.hid (HTL.out.rr _ bS)
              go_wp2_with fail
              refine HC.out.mono ?_
              rintro e y ⟨ab, nb, cb, rfl, ob, g⟩
              have oa := own_keep oa g
              have bS := chain bS g
              clear g HC
              have HC := Lib.hid (same_self _ _ _ _ (own_rdv oa) (own_rdv ob))
              go_wp2_with fail
              refine HC.out.mono ?_
              rintro e y ⟨rfl, g⟩
              have bS := chain bS g
              clear g HC oa ob
              have HC := Lib.hid (HTL.out.ru _ bS)
              go_wp2_with fail
              refine HC.out.mono ?_
              rintro e y ⟨aa, na, ca, rfl, oa, g⟩
              have bS := chain bS g
              clear g HC
              have HC := Lib.hid (HTL.out.ar1 _ bS)
              go_wp2_with fail
              refine HC.out.mono ?_
              rintro e y ⟨ab, nb, cb, rfl, ob, g⟩
              have oa := own_keep oa g
              have bS := chain bS g
              clear g HC
              have HC := Lib.hid (same_self _ _ _ _ (own_rdv oa) (own_rdv ob))
              go_wp2_with fail
              refine HC.out.mono ?_
              rintro e y ⟨rfl, g⟩
              have bS := chain bS g
              clear g HC oa ob
              have HC := Lib.hid (HTL.out.le _ bS)
              go_wp2_with fail
              refine HC.out.mono ?_
              rintro e y ⟨rfl, g⟩
              have bS := chain bS g
              clear g HC
              have HC := Lib.hid (DN.out _ bS)
              go_wp2_with fail
              refine HC.out.mono ?_
              rintro e y ⟨rfl, g⟩
              have bS := chain bS g
              clear g HC
              go_wp2_with fail
              exact ⟨⟨k + 1, at', by omega, by omega, by push_cast; rfl, Lib.hid FA.out, HT.out.below bS, own_keep HA.out bS, chain HS.out bS⟩, by simp [intOf]; omega⟩
            | false =>
              have hno : hasB N i0 = false := by unfold hasB; rw [Bool.and_eq_false_iff, decide_eq_false_iff_not, decide_eq_false_iff_not]; omega
              obtain ⟨x, hx⟩ : ∃ x, x = wr := ⟨_, rfl⟩
              have HC0 := begin_no w1 pt Bs aA cA N M at' i0 _ T hno
              have HC := Lib.hid HC0
              have HR0 := rbegin_no (.slice a1 N c1) a1 c1 (.slice (some ⟨Ba, 0, none⟩) N N) N rfl i0 wr hno
              have HR := Lib.hid HR0
              have WT := Lib.hid (waits_no w1 pt Bs aA cA N M at' i0 _ T hno)
              rw [← hx] at T A hS HC HR WT cD cI ⊢
              clear HC0 HR0 hx hno
              obtain ⟨R0, R1, q, m, TL⟩ := tail24 T A FA.out HN.out h64 SZ.out HL.out (TB1.out.below hS) (RD.out.below hS (Nat.le_refl _))
              have hsum := TL.sum
              have hq : (N : Int) - (m : Int) = (q : Int) := by omega
              have hqN : q ≤ 64 := by omega
              obtain ⟨z, hz⟩ : ∃ z, z = (q == 0) := ⟨_, rfl⟩
              have dz : ((q : Int) == 0) = z := by rw [hz, Bool.eq_iff_iff, beq_iff_eq, beq_iff_eq]; omega
              have DN := Lib.hid (fun W g => by have h := TL.dn W g; rw [← hz] at h; exact h : ∀ W, Below x.heap.size x W → Calls Tryd.prog 32 #[.pointer (some ⟨pt, 0, none⟩)] W fun e w' => e = .returned (.bool z) ∧ Below W.heap.size W w')
              have HTL := Lib.hid TL
              have HS := Lib.hid hS
              have HT := Lib.hid T
              have HA := Lib.hid A
              have bS := Below.refl x.heap.size x
              clear TL hS T A hz
              go_wp2_with fail
              refine HC.out.mono ?_
              rintro e y ⟨rfl, rfl⟩
              go_wp2_with fail
              refine HR.out.mono ?_
              rintro e y ⟨rfl, rfl⟩
              clear HC HR
              go_wp2_with fail
              refine WT.out.mono ?_
              rintro e y ⟨rfl, g⟩
              have bS := chain bS g
              clear g WT
              have HC := Lib.hid (HTL.out.ar2 _ bS)
              go_wp2_with fail
              refine HC.out.mono ?_
              rintro e y ⟨am, cm, rfl, g⟩
              have bS := chain bS g
              clear g HC
              have HC := Lib.hid (HTL.out.ry _ bS)
              go_wp2_with fail
              refine HC.out.mono ?_
              rintro e y ⟨aa, na, ca, rfl, oa, g⟩
              have bS := chain bS g
              clear g HC
              have HC := Lib.hid (HTL.out.rr _ bS)
              go_wp2_with fail
              refine HC.out.mono ?_
              rintro e y ⟨ab, nb, cb, rfl, ob, g⟩
              have oa := own_keep oa g
              have bS := chain bS g
              clear g HC
              have HC := Lib.hid (same_self _ _ _ _ (own_rdv oa) (own_rdv ob))
              go_wp2_with fail
              refine HC.out.mono ?_
              rintro e y ⟨rfl, g⟩
              have bS := chain bS g
              clear g HC oa ob
              have HC := Lib.hid (HTL.out.ru _ bS)
              go_wp2_with fail
              refine HC.out.mono ?_
              rintro e y ⟨aa, na, ca, rfl, oa, g⟩
              have bS := chain bS g
              clear g HC
              have HC := Lib.hid (HTL.out.ar1 _ bS)
              go_wp2_with fail
              refine HC.out.mono ?_
              rintro e y ⟨ab, nb, cb, rfl, ob, g⟩
              have oa := own_keep oa g
              have bS := chain bS g
              clear g HC
              have HC := Lib.hid (same_self _ _ _ _ (own_rdv oa) (own_rdv ob))
              go_wp2_with fail
              refine HC.out.mono ?_
              rintro e y ⟨rfl, g⟩
              have bS := chain bS g
              clear g HC oa ob
              have HC := Lib.hid (HTL.out.le _ bS)
              go_wp2_with fail
              refine HC.out.mono ?_
              rintro e y ⟨rfl, g⟩
              have bS := chain bS g
              clear g HC
              have HC := Lib.hid (DN.out _ bS)
              go_wp2_with fail
              refine HC.out.mono ?_
              rintro e y ⟨rfl, g⟩
              have bS := chain bS g
              clear g HC
              go_wp2_with fail
              exact ⟨⟨k + 1, at', by omega, by omega, by push_cast; rfl, Lib.hid FA.out, HT.out.below bS, own_keep HA.out bS, chain HS.out bS⟩, by simp [intOf]; omega⟩
          · have dneg : decide (i0 < 0) = false := decide_eq_false hneg
            have hge : (N : Int) ≤ i0 := by omega
            have dge : decide ((N : Int) ≤ i0) = true := decide_eq_true hge
            cases d with
            | true =>
              have hno : hasB N i0 = false := by unfold hasB; rw [Bool.and_eq_false_iff, decide_eq_false_iff_not, decide_eq_false_iff_not]; omega
              obtain ⟨x, hx⟩ : ∃ x, x = wr := ⟨_, rfl⟩
              have HC0 := end_no w1 pt Bs aA cA N M at' i0 _ T hno
              have HC := Lib.hid HC0
              have HR0 := rend_no Ba N i0 wr hno
              have HR := Lib.hid HR0
              have WT := Lib.hid (waits_no w1 pt Bs aA cA N M at' i0 _ T hno)
              rw [← hx] at T A hS HC HR WT cD cI ⊢
              clear HC0 HR0 hx hno
              obtain ⟨R0, R1, q, m, TL⟩ := tail24 T A FA.out HN.out h64 SZ.out HL.out (TB1.out.below hS) (RD.out.below hS (Nat.le_refl _))
              have hsum := TL.sum
              have hq : (N : Int) - (m : Int) = (q : Int) := by omega
              have hqN : q ≤ 64 := by omega
              obtain ⟨z, hz⟩ : ∃ z, z = (q == 0) := ⟨_, rfl⟩
              have dz : ((q : Int) == 0) = z := by rw [hz, Bool.eq_iff_iff, beq_iff_eq, beq_iff_eq]; omega
              have DN := Lib.hid (fun W g => by have h := TL.dn W g; rw [← hz] at h; exact h : ∀ W, Below x.heap.size x W → Calls Tryd.prog 32 #[.pointer (some ⟨pt, 0, none⟩)] W fun e w' => e = .returned (.bool z) ∧ Below W.heap.size W w')
              have HTL := Lib.hid TL
              have HS := Lib.hid hS
              have HT := Lib.hid T
              have HA := Lib.hid A
              have bS := Below.refl x.heap.size x
              clear TL hS T A hz
              go_wp2_with fail
              refine HC.out.mono ?_
              rintro e y ⟨rfl, rfl⟩
              go_wp2_with fail
              refine HR.out.mono ?_
              rintro e y ⟨rfl, rfl⟩
              clear HC HR
              go_wp2_with fail
              refine WT.out.mono ?_
              rintro e y ⟨rfl, g⟩
              have bS := chain bS g
              clear g WT
              have HC := Lib.hid (HTL.out.ar2 _ bS)
              go_wp2_with fail
              refine HC.out.mono ?_
              rintro e y ⟨am, cm, rfl, g⟩
              have bS := chain bS g
              clear g HC
              have HC := Lib.hid (HTL.out.ry _ bS)
              go_wp2_with fail
              refine HC.out.mono ?_
              rintro e y ⟨aa, na, ca, rfl, oa, g⟩
              have bS := chain bS g
              clear g HC
              have HC := Lib.hid (HTL.out.rr _ bS)
              go_wp2_with fail
              refine HC.out.mono ?_
              rintro e y ⟨ab, nb, cb, rfl, ob, g⟩
              have oa := own_keep oa g
              have bS := chain bS g
              clear g HC
              have HC := Lib.hid (same_self _ _ _ _ (own_rdv oa) (own_rdv ob))
              go_wp2_with fail
              refine HC.out.mono ?_
              rintro e y ⟨rfl, g⟩
              have bS := chain bS g
              clear g HC oa ob
              have HC := Lib.hid (HTL.out.ru _ bS)
              go_wp2_with fail
              refine HC.out.mono ?_
              rintro e y ⟨aa, na, ca, rfl, oa, g⟩
              have bS := chain bS g
              clear g HC
              have HC := Lib.hid (HTL.out.ar1 _ bS)
              go_wp2_with fail
              refine HC.out.mono ?_
              rintro e y ⟨ab, nb, cb, rfl, ob, g⟩
              have oa := own_keep oa g
              have bS := chain bS g
              clear g HC
              have HC := Lib.hid (same_self _ _ _ _ (own_rdv oa) (own_rdv ob))
              go_wp2_with fail
              refine HC.out.mono ?_
              rintro e y ⟨rfl, g⟩
              have bS := chain bS g
              clear g HC oa ob
              have HC := Lib.hid (HTL.out.le _ bS)
              go_wp2_with fail
              refine HC.out.mono ?_
              rintro e y ⟨rfl, g⟩
              have bS := chain bS g
              clear g HC
              have HC := Lib.hid (DN.out _ bS)
              go_wp2_with fail
              refine HC.out.mono ?_
              rintro e y ⟨rfl, g⟩
              have bS := chain bS g
              clear g HC
              go_wp2_with fail
              exact ⟨⟨k + 1, at', by omega, by omega, by push_cast; rfl, Lib.hid FA.out, HT.out.below bS, own_keep HA.out bS, chain HS.out bS⟩, by simp [intOf]; omega⟩
            | false =>
              have hno : hasB N i0 = false := by unfold hasB; rw [Bool.and_eq_false_iff, decide_eq_false_iff_not, decide_eq_false_iff_not]; omega
              obtain ⟨x, hx⟩ : ∃ x, x = wr := ⟨_, rfl⟩
              have HC0 := begin_no w1 pt Bs aA cA N M at' i0 _ T hno
              have HC := Lib.hid HC0
              have HR0 := rbegin_no (.slice a1 N c1) a1 c1 (.slice (some ⟨Ba, 0, none⟩) N N) N rfl i0 wr hno
              have HR := Lib.hid HR0
              have WT := Lib.hid (waits_no w1 pt Bs aA cA N M at' i0 _ T hno)
              rw [← hx] at T A hS HC HR WT cD cI ⊢
              clear HC0 HR0 hx hno
              obtain ⟨R0, R1, q, m, TL⟩ := tail24 T A FA.out HN.out h64 SZ.out HL.out (TB1.out.below hS) (RD.out.below hS (Nat.le_refl _))
              have hsum := TL.sum
              have hq : (N : Int) - (m : Int) = (q : Int) := by omega
              have hqN : q ≤ 64 := by omega
              obtain ⟨z, hz⟩ : ∃ z, z = (q == 0) := ⟨_, rfl⟩
              have dz : ((q : Int) == 0) = z := by rw [hz, Bool.eq_iff_iff, beq_iff_eq, beq_iff_eq]; omega
              have DN := Lib.hid (fun W g => by have h := TL.dn W g; rw [← hz] at h; exact h : ∀ W, Below x.heap.size x W → Calls Tryd.prog 32 #[.pointer (some ⟨pt, 0, none⟩)] W fun e w' => e = .returned (.bool z) ∧ Below W.heap.size W w')
              have HTL := Lib.hid TL
              have HS := Lib.hid hS
              have HT := Lib.hid T
              have HA := Lib.hid A
              have bS := Below.refl x.heap.size x
              clear TL hS T A hz
              go_wp2_with fail
              refine HC.out.mono ?_
              rintro e y ⟨rfl, rfl⟩
              go_wp2_with fail
              refine HR.out.mono ?_
              rintro e y ⟨rfl, rfl⟩
              clear HC HR
              go_wp2_with fail
              refine WT.out.mono ?_
              rintro e y ⟨rfl, g⟩
              have bS := chain bS g
              clear g WT
              have HC := Lib.hid (HTL.out.ar2 _ bS)
              go_wp2_with fail
              refine HC.out.mono ?_
              rintro e y ⟨am, cm, rfl, g⟩
              have bS := chain bS g
              clear g HC
              have HC := Lib.hid (HTL.out.ry _ bS)
              go_wp2_with fail
              refine HC.out.mono ?_
              rintro e y ⟨aa, na, ca, rfl, oa, g⟩
              have bS := chain bS g
              clear g HC
              have HC := Lib.hid (HTL.out.rr _ bS)
              go_wp2_with fail
              refine HC.out.mono ?_
              rintro e y ⟨ab, nb, cb, rfl, ob, g⟩
              have oa := own_keep oa g
              have bS := chain bS g
              clear g HC
              have HC := Lib.hid (same_self _ _ _ _ (own_rdv oa) (own_rdv ob))
              go_wp2_with fail
              refine HC.out.mono ?_
              rintro e y ⟨rfl, g⟩
              have bS := chain bS g
              clear g HC oa ob
              have HC := Lib.hid (HTL.out.ru _ bS)
              go_wp2_with fail
              refine HC.out.mono ?_
              rintro e y ⟨aa, na, ca, rfl, oa, g⟩
              have bS := chain bS g
              clear g HC
              have HC := Lib.hid (HTL.out.ar1 _ bS)
              go_wp2_with fail
              refine HC.out.mono ?_
              rintro e y ⟨ab, nb, cb, rfl, ob, g⟩
              have oa := own_keep oa g
              have bS := chain bS g
              clear g HC
              have HC := Lib.hid (same_self _ _ _ _ (own_rdv oa) (own_rdv ob))
              go_wp2_with fail
              refine HC.out.mono ?_
              rintro e y ⟨rfl, g⟩
              have bS := chain bS g
              clear g HC oa ob
              have HC := Lib.hid (HTL.out.le _ bS)
              go_wp2_with fail
              refine HC.out.mono ?_
              rintro e y ⟨rfl, g⟩
              have bS := chain bS g
              clear g HC
              have HC := Lib.hid (DN.out _ bS)
              go_wp2_with fail
              refine HC.out.mono ?_
              rintro e y ⟨rfl, g⟩
              have bS := chain bS g
              clear g HC
              go_wp2_with fail
              exact ⟨⟨k + 1, at', by omega, by omega, by push_cast; rfl, Lib.hid FA.out, HT.out.below bS, own_keep HA.out bS, chain HS.out bS⟩, by simp [intOf]; omega⟩
      · obtain rfl : k = 140 := by omega
        have AWX := Lib.hid (AW.out _ hS)
        clear T A
        go_wp2_with fail
        refine AWX.out.mono ?_
        rintro e y ⟨rfl, g⟩
        go_wp2_with fail
        go_ret
        exact ⟨rfl, chain BEL.out (chain hS g)⟩
    · obtain rfl : k = n := by omega
      have AWX := Lib.hid (AW.out _ hS)
      clear T A
      go_wp2_with fail
      refine AWX.out.mono ?_
      rintro e y ⟨rfl, g⟩
      go_wp2_with fail
      go_ret
      exact ⟨rfl, chain BEL.out (chain hS g)⟩
theorem play_row (v : Value) (ps : List WV) (L : List Wt) (va : Value) (n : Nat) (w : World) (h : RdL w v ps L) (hz : SzL L) (hac : RdAc w va n) (tab : TabAt w) :
    Calls Tryd.prog 6 #[v, va] w fun e w' => e = .returned (.bool true) ∧ Below w.heap.size w w' := by
  cases hall : allB (fewLW L) with
  | false => exact plays_no v ps L va w tab h hz hall
  | true => exact plays_yes v ps L va n w tab h hz hac hall
end Go.Proofs.YtjmfiekgpoonjaaDoor
