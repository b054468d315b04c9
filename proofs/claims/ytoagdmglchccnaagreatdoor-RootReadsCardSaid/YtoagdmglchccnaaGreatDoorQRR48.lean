/- The law RootReads. Written by wip/tools/gen12z.py. -/
/- Keys: what the row's listed variable gives a walk: the table of bytes. -/
/- Roots: what the row's six listed variables give a walk. -/
/- The law RootReads, as its row asks. -/
import Derived.Test.YtoagdmglchccnaaGreatDoorQRR46
import Derived.Test.YtoagdmglchccnaaGreatDoorQRR47
import Derived.Test.YtoagdmglchccnaaGreatDoorRows
import Derived.Test.YtoagdmglchccnaaGreatDoorQRR14
import Derived.ProofKit
import Derived.LaidMore
import Derived.OpenShut
import Derived.Stop.Joined
import Derived.Test.YtoagdmglchccnaaGreatDoorQRR11
import Derived.Test.YtoagdmglchccnaaGreatDoorQRR38
namespace Go.Proofs.YtoagdmglchccnaaGreatDoor
open Go Go.RowKit
set_option linter.unusedVariables false
set_option linter.unusedSimpArgs false
theorem backR_64 {L : TxL} {n : Int} {lv : Nat → List It} {vs : Nat → Int} {c : Int} (h : BackR L n lv vs c) (b : Nat) : (lv b).length ≤ 100 := by
  cases h with
  | root _ => simp [nilT]
  | leaf _ _ _ _ => simp [nilT]
  | not _ _ _ => simp [nilT]
  | ok _ _ _ => exact Nat.le_trans (lvO_64 _ _ _) (by decide)
set_option maxRecDepth 100000 in
set_option maxHeartbeats 4000000 in
theorem rootreads_row (u : Value) (texts : List T2.Txt) (n : Int) (w : World) (hu : RdV w u (texts.map T2.sv)) (hz : ∀ s ∈ texts, s.length ≤ maxLen) (tab : TabAt w) (t : T2.Tab w) (es : ErrS w) :
    Calls Tryz.prog 4 #[u, .int .i64 n] w fun e w' => e = .returned (.bool true) ∧ Below w.heap.size w w' := by
  obtain ⟨Z, hZ⟩ : ∃ Z : Ending → World → Prop, Z = fun e w' => e = .returned (.bool true) ∧ Below w.heap.size w w' := ⟨_, rfl⟩
  rw [← hZ]
  have HZ := Lib.hid hZ
  have TB := Lib.hid (table12_any u texts w hu hz)
  have TA := Lib.hid tab
  have T0 := Lib.hid t
  have E0 := Lib.hid es
  have hL600 := tabL_short texts
  have hL60 := tabL_len texts
  obtain ⟨L, hLe⟩ : ∃ L, L = tabL texts := ⟨_, rfl⟩
  rw [← hLe] at hL600 hL60
  have HLE := Lib.hid hLe
  have L4 := Lib.hid (show ∀ s ∈ L, s.length ≤ 4000 from fun s hs => Nat.le_trans (hL600 s hs) (by decide))
  have L2 := Lib.hid (show ∀ s ∈ L, s.length ≤ 2000 from fun s hs => Nat.le_trans (hL600 s hs) (by decide))
  have z0 := zeroT_run
  have z1 := zT_ne
  obtain ⟨au0, nu0, cu0, rfl⟩ : ∃ a n c, u = .slice a n c := by
    obtain ⟨a, c, e, -⟩ := hu
    exact ⟨_, _, _, e⟩
  clear hZ hu hz tab t es hLe hL600
  go_enter Tryz.func4, Tryz.ntmps4
  go_wp2_with fail
  refine TB.out.mono ?_
  rintro e w1 ⟨v, lv, rfl, two, g1⟩
  rw [← HLE.out] at two
  have TW := Lib.hid two
  have RL := Lib.hid (own_rdv two.row)
  have G1 := Lib.hid g1
  obtain ⟨R1, hR1⟩ : ∃ R, R = leavesO L n := ⟨_, rfl⟩
  obtain ⟨R2, hR2⟩ : ∃ R, R = chunksO L n := ⟨_, rfl⟩
  have CL := chunksO_len L4.out n
  rw [← hR2] at CL
  have LA := Lib.hid (fun W (g : Below w1.heap.size w1 W) => leaves12_any w.heap.size (w.heap.size + 1) w.heap.size v L n W (two.tb.below g) (T0.out.below (g1.trans (g.mono g1.size))) (E0.out.below (g1.trans (g.mono g1.size))) L4.out)
  have LB := Lib.hid (fun W (g : Below w1.heap.size w1 W) => refLeaves12_any lv L n W (RL.out.below g (Nat.le_refl _)) L4.out)
  have CA := Lib.hid (fun W (g : Below w1.heap.size w1 W) => chunks12_any w.heap.size (w.heap.size + 1) w.heap.size v L n W (two.tb.below g) (T0.out.below (g1.trans (g.mono g1.size))) (E0.out.below (g1.trans (g.mono g1.size))) L4.out)
  have CB := Lib.hid (fun W (g : Below w1.heap.size w1 W) => refChunks12_any lv L n W (RL.out.below g (Nat.le_refl _)) L4.out)
  have BA := Lib.hid (fun W (g : Below w1.heap.size w1 W) => back12_any w.heap.size (w.heap.size + 1) w.heap.size v L n W (TA.out.below (g1.trans (g.mono g1.size))) (two.tb.below g) (T0.out.below (g1.trans (g.mono g1.size))) (E0.out.below (g1.trans (g.mono g1.size))) L4.out)
  have BB := Lib.hid (fun W (g : Below w1.heap.size w1 W) => refBack12_any lv L n W (TA.out.below (g1.trans (g.mono g1.size))) (RL.out.below g (Nat.le_refl _)) L2.out)
  have CN := Lib.hid (fun W (g : Below w1.heap.size w1 W) => T2.count_any w.heap.size (w.heap.size + 1) w.heap.size v L W (two.tb.below g))
  have AW := Lib.hid (fun W (g : Below w1.heap.size w1 W) => awake12_any W (TA.out.below (g1.trans (g.mono g1.size))) (T0.out.below (g1.trans (g.mono g1.size))) (E0.out.below (g1.trans (g.mono g1.size))))
  rw [← hR1] at LA LB
  rw [← hR2] at CA CB
  obtain ⟨xs, c1⟩ := R1
  obtain ⟨ver, cs, c2⟩ := R2
  simp only at CL
  have CLX := Lib.hid CL
  obtain ⟨al, cl, rfl⟩ := own_slice_n two.row
  clear g1 two TB CL hR1 hR2
  go_wp2_with fail
  refine (LA.out _ (Below.refl _ _)).mono ?_
  rintro e w2 ⟨ua, rfl, oa, g2⟩
  have h2 := g2
  have RA := own_rdv oa
  obtain ⟨aa, ca, rfl⟩ := own_slice_n oa
  clear oa g2
  go_wp2_with fail
  refine (LB.out _ h2).mono ?_
  rintro e w3 ⟨ub, rfl, ob, g3⟩
  have h3 := chain h2 g3
  have RA := RA.below g3 (Nat.le_refl _)
  have RB := own_rdv ob
  obtain ⟨ab, cb, rfl⟩ := own_slice_n ob
  clear ob g3 h2
  go_wp2_with fail
  refine (CA.out _ h3).mono ?_
  rintro e w4 ⟨uc, rfl, oc, g4⟩
  have h4 := chain h3 g4
  have RA := RA.below g4 (Nat.le_refl _)
  have RB := RB.below g4 (Nat.le_refl _)
  have RC := own_rdv oc
  obtain ⟨ac, cc, rfl⟩ := own_slice_n oc
  clear oc g4 h3
  go_wp2_with fail
  refine (CB.out _ h4).mono ?_
  rintro e w5 ⟨ud, rfl, od, g5⟩
  have h5 := chain h4 g5
  have RA := RA.below g5 (Nat.le_refl _)
  have RB := RB.below g5 (Nat.le_refl _)
  have RC := RC.below g5 (Nat.le_refl _)
  have RD := own_rdv od
  obtain ⟨ad, cd, rfl⟩ := own_slice_n od
  clear od g5 h4
  go_wp2_with fail
  refine (BA.out _ h5).mono ?_
  rintro e w6 ⟨CX, c3, lx, vx, rfl, otx, -, g6, brx⟩
  have RX := otx.rd
  have hsX := infoTc RX.size
  have hzX : zT.size = CX.size := by rw [RX.size]; rfl
  have hoX := RX.one
  have q6 := heap_alloc_new w6 (.cells zT 27)
  have ga := (Below.refl w6.heap.size w6).alloc (Nat.le_refl _) (.cells zT 27)
  have q6b := setRow_heap _ _ _ CX _ _ q6
  have gb := Lib.hid (below_row ga (Nat.le_refl _) CX)
  have G7 := Lib.hid (chain g6 gb.out)
  have RA := Lib.hid (RA.below G7.out (Nat.le_refl _))
  have RB := Lib.hid (RB.below G7.out (Nat.le_refl _))
  have RC := Lib.hid (RC.below G7.out (Nat.le_refl _))
  have RD := Lib.hid (RD.below G7.out (Nat.le_refl _))
  have RX := Lib.hid (RX.below gb.out (Nat.le_refl _))
  have H7 := Lib.hid (chain h5 G7.out)
  have BRX := Lib.hid brx
  clear otx g6 brx ga h5
  go_wp2_with (with_reducible refine wpList_store_row (o := ⟨none, _, _, _, _, _⟩) rfl 27 (.tmp 17) (.tmp 59) rfl _ CX rfl rfl _ zT q6 hsX hzX hoX ?_)
  obtain ⟨w7, hw7⟩ : ∃ w7, w7 = (w6.alloc (.cells zT 27)).setRow w6.heap.size CX := ⟨_, rfl⟩
  rw [← hw7] at q6b RA RB RC RD RX H7 ⊢
  clear hw7 q6 gb G7
  refine (BB.out _ H7.out).mono ?_
  rintro e w8 ⟨CY, c4, ly, vy, rfl, oty, -, g8, bry⟩
  obtain ⟨rfl, rfl, rfl⟩ := backR_one BRX.out bry
  have RY := oty.rd
  have hsY := infoTc RY.size
  have hzY : zT.size = CY.size := by rw [RY.size]; rfl
  have hoY := RY.one
  have q8 := heap_alloc_new w8 (.cells zT 27)
  have ga := (Below.refl w8.heap.size w8).alloc (Nat.le_refl _) (.cells zT 27)
  have q8b := setRow_heap _ _ _ CY _ _ q8
  have gb := Lib.hid (below_row ga (Nat.le_refl _) CY)
  have G9 := Lib.hid (chain g8 gb.out)
  have q7 := (G9.out.block _ (lt_of_block q6b)).trans q6b
  have RA := Lib.hid (RA.out.below G9.out (Nat.le_refl _))
  have RB := Lib.hid (RB.out.below G9.out (Nat.le_refl _))
  have RC := Lib.hid (RC.out.below G9.out (Nat.le_refl _))
  have RD := Lib.hid (RD.out.below G9.out (Nat.le_refl _))
  have RX := Lib.hid (RX.out.below G9.out (Nat.le_refl _))
  have RY := Lib.hid (RY.below gb.out (Nat.le_refl _))
  have H9 := Lib.hid (chain H7.out G9.out)
  have LN := Lib.hid (fun b (_ : b < 16) => backR_64 bry b)
  clear oty g8 bry ga
  go_wp2_with (with_reducible refine wpList_store_row (o := ⟨none, _, _, _, _, _⟩) rfl 27 (.tmp 19) (.tmp 65) rfl _ CY rfl rfl _ zT q8 hsY hzY hoY ?_)
  obtain ⟨w9, hw9⟩ : ∃ w9, w9 = (w8.alloc (.cells zT 27)).setRow w8.heap.size CY := ⟨_, rfl⟩
  rw [← hw9] at q7 q8b RA RB RC RD RX RY H9 ⊢
  clear hw9 q8 gb G9 q6b
  have SM := Lib.hid (same12_yes _ _ xs w9 RA.out RB.out)
  refine SM.out.mono ?_
  rintro e w10 ⟨rfl, g10⟩
  have q7 := (g10.block _ (lt_of_block q7)).trans q7
  have q8 := (g10.block _ (lt_of_block q8b)).trans q8b
  have TS := Lib.hid (tsame_yes CX CY lx vx w10 (RX.out.below g10 (Nat.le_refl _)) (RY.out.below g10 (Nat.le_refl _)) LN.out)
  have RC := Lib.hid (RC.out.below g10 (Nat.le_refl _))
  have RD := Lib.hid (RD.out.below g10 (Nat.le_refl _))
  have H10 := Lib.hid (chain H9.out g10)
  clear g10 q8b
  go_wp2_with (first | ((with_reducible refine wpList_load_row_g (o := ⟨some 94, _, _, _, _, _⟩) ?_ 27 (.tmp 17) rfl _ rfl _ CX (0, 0) _ q7 Tryz.underlying27 rfl hsX ?_); rfl) | ((with_reducible refine wpList_load_row_g (o := ⟨some 95, _, _, _, _, _⟩) ?_ 27 (.tmp 19) rfl _ rfl _ CY (0, 0) _ q8 Tryz.underlying27 rfl hsY ?_); rfl))
  refine TS.out.mono ?_
  rintro e w11 ⟨rfl, g11⟩
  have RC := Lib.hid (RC.out.below g11 (Nat.le_refl _))
  have RD := Lib.hid (RD.out.below g11 (Nat.le_refl _))
  have H11 := Lib.hid (chain H10.out g11)
  clear g11 q7 q8
  go_wp2_with fail
  go_loopw [21] (fun i wr => ∃ j : Nat, j ≤ cs.length ∧ i = .int .i64 (j : Int) ∧ Hid (Below w11.heap.size w11 wr)) (fun i _ => cs.length + 1 - (intOf i).toNat)
  case atStart => exact ⟨0, Nat.zero_le _, rfl, Lib.hid (Below.refl _ _)⟩
  case round =>
    obtain ⟨j, hj, rfl, HG⟩ := hrel
    have hcl := CLX.out.1
    by_cases hlt : j < cs.length
    · obtain ⟨b1, o1, cp1, e1, hb1, hc1⟩ := rdv_cell RC.out j (by simpa using hlt)
      obtain ⟨b2, o2, cp2, e2, hb2, hc2⟩ := rdv_cell RD.out j (by simpa using hlt)
      injection e1 with e1 e3 e4
      injection e2 with e2 e5 e6
      subst e1 e2
      rw [List.getElem_map] at hc1 hc2
      obtain ⟨s, hs⟩ : ∃ s, s = cs[j] := ⟨_, rfl⟩
      rw [← hs] at hc1 hc2
      unfold T2.sv at hc1 hc2
      have hc1 : wr.cell? ⟨b1, o1 + j, none⟩ = some (.string (str s)) := by rw [World.cell?_of_block (w := w11) (HG.out.block _ hb1)]; exact hc1
      have hc2 : wr.cell? ⟨b2, o2 + j, none⟩ = some (.string (str s)) := by rw [World.cell?_of_block (w := w11) (HG.out.block _ hb2)]; exact hc2
      clear hs e3 e4 e5 e6
      go_wp2_with fail
      refine gs_start (S := (fun W => W.cell? ⟨b1, o1 + j, none⟩ = some (.string (str s)) ∧ W.cell? ⟨b2, o2 + j, none⟩ = some (.string (str s)))) (by kernel_rfl) ?_
      refine gs_take (i := 0) (d := (some 110)) (v := ?_) rfl rfl (by kernel_rfl) (fun _ _ _ h => h) (by rfl) ⟨hc1, hc2⟩ (fun w' hb' => ?_) ?_
      rotate_left
      · (try go_simp); (try with_reducible rfl)
      try simp only [Act.put, List.setIfInBounds_toArray, List.set_cons_zero, List.set_cons_succ]
      refine gs_take (i := 1) (d := (some 111)) (v := ?_) rfl rfl (by kernel_rfl) (fun _ _ _ h => h) (by rfl) ⟨hc1, hc2⟩ (fun w' hb' => ?_) ?_
      rotate_left
      · (try go_simp); (try with_reducible rfl)
      try simp only [Act.put, List.setIfInBounds_toArray, List.set_cons_zero, List.set_cons_succ]
      refine gs_take (i := 2) (d := (some 112)) (v := ?_) rfl rfl (by kernel_rfl) (fun _ _ _ h => h) (by rfl) ⟨hc1, hc2⟩ (fun w' hb' => ?_) ?_
      rotate_left
      · (try go_simp); (try with_reducible rfl)
      try simp only [Act.put, List.setIfInBounds_toArray, List.set_cons_zero, List.set_cons_succ]
      refine gs_take (i := 3) (d := (some 113)) (v := ?_) rfl rfl (by kernel_rfl) (fun _ _ _ h => h) (by rfl) ⟨hc1, hc2⟩ (fun w' hb' => ?_) ?_
      rotate_left
      · have zz := hb'.1; (try go_simp); (try with_reducible rfl)
      try simp only [Act.put, List.setIfInBounds_toArray, List.set_cons_zero, List.set_cons_succ]
      refine gs_take (i := 4) (d := (some 114)) (v := ?_) rfl rfl (by kernel_rfl) (fun _ _ _ h => h) (by rfl) ⟨hc1, hc2⟩ (fun w' hb' => ?_) ?_
      rotate_left
      · (try go_simp); (try with_reducible rfl)
      try simp only [Act.put, List.setIfInBounds_toArray, List.set_cons_zero, List.set_cons_succ]
      refine gs_take (i := 5) (d := (some 115)) (v := ?_) rfl rfl (by kernel_rfl) (fun _ _ _ h => h) (by rfl) ⟨hc1, hc2⟩ (fun w' hb' => ?_) ?_
      rotate_left
      · (try go_simp); (try with_reducible rfl)
      try simp only [Act.put, List.setIfInBounds_toArray, List.set_cons_zero, List.set_cons_succ]
      refine gs_take (i := 6) (d := (some 116)) (v := ?_) rfl rfl (by kernel_rfl) (fun _ _ _ h => h) (by rfl) ⟨hc1, hc2⟩ (fun w' hb' => ?_) ?_
      rotate_left
      · (try go_simp); (try with_reducible rfl)
      try simp only [Act.put, List.setIfInBounds_toArray, List.set_cons_zero, List.set_cons_succ]
      refine gs_take (i := 7) (d := (some 117)) (v := ?_) rfl rfl (by kernel_rfl) (fun _ _ _ h => h) (by rfl) ⟨hc1, hc2⟩ (fun w' hb' => ?_) ?_
      rotate_left
      · have zz := hb'.2; (try go_simp); (try with_reducible rfl)
      try simp only [Act.put, List.setIfInBounds_toArray, List.set_cons_zero, List.set_cons_succ]
      refine gs_take (i := 8) (d := (some 118)) (v := ?_) rfl rfl (by kernel_rfl) (fun _ _ _ h => h) (by rfl) ⟨hc1, hc2⟩ (fun w' hb' => ?_) ?_
      rotate_left
      · (try go_simp); (try with_reducible rfl)
      try simp only [Act.put, List.setIfInBounds_toArray, List.set_cons_zero, List.set_cons_succ]
      refine gs_done (by kernel_rfl) ?_
      go_wp2_with fail
      exact ⟨⟨j + 1, by omega, by push_cast; rfl, Lib.hid HG.out.drew⟩, by simp [intOf]; omega⟩
    · obtain rfl : j = cs.length := by omega
      have HW := Lib.hid (chain H11.out HG.out)
      have CNX := Lib.hid (CN.out _ HW.out)
      have AWX := Lib.hid (AW.out _ HW.out)
      go_wp2_with fail
      refine CNX.out.mono ?_
      rintro e w12 ⟨rfl, rfl⟩
      go_wp2_with fail
      refine AWX.out.mono ?_
      rintro e w13 ⟨rfl, g13⟩
      have HF := Lib.hid (G1.out.trans ((chain HW.out g13).mono G1.out.size))
      go_wp2_with fail
      show Z _ _
      rw [HZ.out]
      exact ⟨rfl, HF.out⟩
end Go.Proofs.YtoagdmglchccnaaGreatDoor
namespace Go.Proofs.YtoagdmglchccnaaGreatDoor
open Go Go.ChangeShapes Go.WideShapes Go.ChangeAt Go.RowKit
set_option linter.unusedVariables false
def laid1 : List (String × DataW Unit) := [("plenum/key.allowed", Rows.laid_plenum_key_allowed)]
theorem gTab : Tryz.prog.globalNamed "plenum/key.allowed" = some 0 := by kernel_rfl
theorem tTab : (Tryz.prog.globals[0]?).map (·.type) = some 232 := by kernel_rfl
theorem cU64 : Tryz.prog.cellsOf 188 = 1 := by kernel_rfl
theorem cTab : Tryz.prog.cellsOf 232 = 2 := by kernel_rfl
def tabL8 : List Int := [288195191779622912, 576460745860972544]
theorem laid_tab {H : Type} : (Rows.laid_plenum_key_allowed : DataW H) = .agg (tabL8.map fun n => .lit (.int .u64 n)) := rfl
end Go.Proofs.YtoagdmglchccnaaGreatDoor
namespace Go.Proofs.YtoagdmglchccnaaGreatDoor
open Go Go.ChangeShapes Go.WideShapes Go.ChangeAt Go.RowKit
set_option linter.unusedVariables false
set_option maxRecDepth 100000
def laid12 : List (String × DataW Unit) := [("math/bits.deBruijn32tab", Rows.laid_math_bits_deBruijn32tab), ("math/bits.deBruijn64tab", Rows.laid_math_bits_deBruijn64tab), ("internal/strconv.uint64pow10", Rows.laid_internal_strconv_uint64pow10), ("strconv.ErrRange", Rows.laid_strconv_ErrRange), ("strconv.ErrSyntax", Rows.laid_strconv_ErrSyntax), ("plenum/key.allowed", Rows.laid_plenum_key_allowed)]
theorem iface_cell {enc : TypeId × Value → Unit} {W : World} {base fuel : Nat} {sp : Nat → Bool} {hd : Bool} {cs : List Value} {y : DataW Unit × List MemPlace} (h : DataW.trod enc Tryz.prog W base sp hd fuel 171 cs = some y) : ∃ v r, cs = v :: r ∧ (v = .nilIface ∨ ∃ te pe, v = .iface te pe) := by
  have ht := Tryz.underlying171
  cases fuel with
  | zero => simp [DataW.trod] at h
  | succ fuel =>
    cases cs with
    | nil => simp [DataW.trod, ht] at h
    | cons v r =>
      cases r with
      | cons _ _ => cases v <;> simp [DataW.trod, ht] at h
      | nil =>
        cases v with
        | nilIface => exact ⟨_, _, rfl, .inl rfl⟩
        | iface te pe => exact ⟨_, _, rfl, .inr ⟨_, _, rfl⟩⟩
        | _ => simp [DataW.trod, ht] at h
theorem gRange : Tryz.prog.globalNamed "strconv.ErrRange" = some 3 := by kernel_rfl
theorem gSyntax : Tryz.prog.globalNamed "strconv.ErrSyntax" = some 2 := by kernel_rfl
theorem tRange : (Tryz.prog.globals[3]?).map (·.type) = some 171 := by kernel_rfl
theorem tSyntax : (Tryz.prog.globals[2]?).map (·.type) = some 171 := by kernel_rfl
def Laid12 (W : World) : Prop := TabAt W ∧ T2.Tab W ∧ ErrS W
theorem err_of {enc : TypeId × Value → Unit} {W : World} {base fuel g : Nat} {sp : Nat → Bool} {hd : Bool} {cs : Array Value} {n : String} {y : DataW Unit × List MemPlace} (hg : Tryz.prog.globalNamed n = some g) (hv : W.var? Tryz.prog n = some cs) (h : DataW.trod enc Tryz.prog W base sp hd fuel 171 cs.toList = some y) : ∃ ev, W.cell? ⟨g, 0, none⟩ = some ev ∧ (ev = .nilIface ∨ ∃ te pe, ev = .iface te pe) := by
  obtain ⟨v, r, e, hv2⟩ := iface_cell h
  refine ⟨v, ?_, hv2⟩
  rw [World.var?_cell hg hv 0]
  have := congrArg (fun l => l[0]?) e
  simpa using this
theorem tab_of_laid12 {W : World} (h : laidMetH Tryz.prog laid12 W) : Laid12 W := by
  rw [MakeChecks.laidMetH_plain _ _ _ (by kernel_rfl)] at h
  obtain ⟨ps, ⟨_, _, _, _, _, _, _, _, _, _, r1, _⟩, _⟩ := h
  obtain ⟨_, _, _, _, _, _, _, _, _, _, r2, _⟩ := r1
  obtain ⟨g, t, cs, fuel, p, q, hg, hty, hvar, hd, r3, _⟩ := r2
  obtain ⟨gR, tR, csR, fR, pR, qR, hgR, htR, hvR, hdR, r4, _⟩ := r3
  obtain ⟨gS, tS, csS, fS, pS, qS, hgS, htS, hvS, hdS, r5, _⟩ := r4
  obtain ⟨g0, t0, cs0, f0, p0, q0, hg0, ht0, hv0, hd0, _, _⟩ := r5
  have T1 : T2.Tab W := by
    obtain rfl := Option.some.inj ((T2.gTy g hg).symm.trans hty)
    refine Lib.tabBelow_of_tabIs ?_
    unfold Lib.TabIs
    rw [T2.pow_data] at hd
    rw [hvar, ← Lib.cells_of_tab Tryz.underlying257 Tryz.underlying188 (by kernel_rfl) (by kernel_rfl) hd]
  have E1 : ErrS W := by
    obtain rfl := Option.some.inj (gRange.symm.trans hgR)
    obtain rfl := Option.some.inj (tRange.symm.trans htR)
    obtain rfl := Option.some.inj (gSyntax.symm.trans hgS)
    obtain rfl := Option.some.inj (tSyntax.symm.trans htS)
    exact ⟨err_of gSyntax hvS hdS, err_of gRange hvR hdR⟩
  refine ⟨?_, T1, E1⟩
  obtain rfl := Option.some.inj (gTab.symm.trans hg0)
  obtain rfl := Option.some.inj (tTab.symm.trans ht0)
  obtain ⟨xs, m1, rfl, hx1, hlen, hn, hel⟩ := DataW.trod_array Tryz.underlying232 hd0
  simp only [Prod.mk.injEq] at hx1
  have hx := hx1.1
  rw [laid_tab] at hx
  simp only [DataW.agg.injEq] at hx
  rw [cTab] at hlen
  have cell : ∀ i, i < 2 → W.cell? ⟨0, i, none⟩ = some (.int .u64 (tabL8.getD i 0)) := by
    intro i hi
    have h1 := hel i hi
    rw [cU64, Nat.mul_one] at h1
    obtain ⟨x, hxi⟩ : ∃ x, xs[i]? = some x := ⟨xs[i]'(by omega), by simp [hn, hi]⟩
    rw [hxi] at h1
    obtain ⟨k, e1, e2, _⟩ := DataW.trod_int Tryz.underlying188 h1
    have h3 : (xs.map (·.1))[i]? = some (.lit (.int .u64 k)) := by rw [List.getElem?_map, hxi, e2]; rfl
    rw [← hx, List.getElem?_map] at h3
    have h4 : tabL8[i]? = some (tabL8.getD i 0) := by
      have : i < tabL8.length := hi
      simp [this]
    rw [h4] at h3
    simp at h3
    have h5 := World.var?_cell hg0 hv0 i
    have h6 : cs0[i]? = some (.int .u64 k) := by
      have : (cs0.toList.drop i)[0]? = some (.int .u64 k) := by
        have := congrArg (fun l => l[0]?) e1
        simpa [List.getElem?_take] using this
      simpa using this
    rw [h5, h6]
    simp [h3]
  refine ⟨?_, cell 0 (by decide), cell 1 (by decide)⟩
  have := World.block_lt_of_cell? W _ (cell 0 (by decide))
  simpa using this
end Go.Proofs.YtoagdmglchccnaaGreatDoor
namespace Go.Proofs.YtoagdmglchccnaaGreatDoor
open Go Go.RowKit
set_option linter.unusedVariables false
theorem rootreads_row12 (u : Value) (texts : List T2.Txt) (n : Int) (w : World) (hu : RdV w u (texts.map T2.sv)) (hz : ∀ s ∈ texts, s.length ≤ maxLen) (hn : (Lit.int .i64 n).wf = true) (h : Laid12 w) :
    Calls Tryz.prog 4 #[u, .int .i64 n] w fun e w' => e = .returned (.bool true) ∧ Below w.heap.size w w' :=
  rootreads_row u texts n w hu hz h.1 h.2.1 h.2.2
end Go.Proofs.YtoagdmglchccnaaGreatDoor
