/- Snaps: Changed. Written by wip/tools/gen14m.py. -/
/- Snaps: the chapter's examples. Written by wip/tools/gen14w.py. -/
/- Snaps: what is found where, mathematics. Written by wip/tools/gen14q.py. -/
import Derived.Test.YtbdfcgffkonbiaaDoorQSN46
import Derived.Test.YtbdfcgffkonbiaaDoorQSN44
namespace Go.Proofs.YtbdfcgffkonbiaaDoor
open Go Go.RowKit
set_option linter.unusedVariables false
set_option linter.unusedSimpArgs false
theorem at_ok {L : List Sn} {q : Int} (h : atE L q = 0) : isSn L = true ∧ ∃ k, ∃ hk : k < L.length, L[k].q = q ∧ atC L q = snA L[k] := by
  unfold atE at h
  by_cases hc : lastE L q = 0 ∧ lastA L q ≠ q
  · rw [if_pos hc] at h; cases h
  · rw [if_neg hc] at h
    have ha : lastA L q = q := by
      rcases Decidable.em (lastA L q = q) with e | e
      · exact e
      · exact absurd ⟨h, e⟩ hc
    have hi : isSn L = true := by
      cases hi : isSn L with
      | true => rfl
      | false => unfold lastE at h; rw [hi] at h; cases h
    have hn : leN L q ≠ 0 := fun hn => by unfold lastE at h; rw [hi, hn] at h; cases h
    have hle : leN L q ≤ L.length := (List.takeWhile_prefix _).length_le
    obtain ⟨k, hk⟩ : ∃ k, leN L q = k + 1 := ⟨leN L q - 1, by omega⟩
    have hkl : k < L.length := by omega
    obtain ⟨_, e2, e3⟩ := last_at hi hkl hk
    exact ⟨hi, k, hkl, by rw [← e2]; exact ha, by unfold atC; rw [if_neg hc]; exact e3⟩
def ChgP14 (w : World) (L : List Sn) (a b : Int) (e : Ending) (w' : World) : Prop := (atE L a ≠ 0 → e = .returned (.tuple #[.slice none 0 0, .int .i64 (atE L a : Int)])) ∧ (atE L a = 0 → atE L b ≠ 0 → e = .returned (.tuple #[.slice none 0 0, .int .i64 (atE L b : Int)])) ∧
  (atE L a = 0 → atE L b = 0 → ∃ k j, ∃ hk : k < L.length, ∃ hj : j < L.length, L[k].q = a ∧ L[j].q = b ∧ ∃ v', e = .returned (.tuple #[v', .int .i64 0]) ∧ w'.ownsRow w.heap.size 3 1 v' (unlL L[k].s.lv L[j].s.lv L[k].s.vs L[j].s.vs 16).length ((unlL L[k].s.lv L[j].s.lv L[k].s.vs L[j].s.vs 16).map ivN)) ∧ Below w.heap.size w w'
set_option maxRecDepth 100000 in
set_option maxHeartbeats 2000000 in
theorem changed14_any (v : Value) (L : List Sn) (a b : Int) (w : World) (tab : TabAt w) (h : RdK 36 snC w v L) (hrs : RdSn w L) (hsz : SzSn L) (hln : LenSn L) :
    Calls Tryd.prog 50 #[v, .int .i64 a, .int .i64 b] w (ChgP14 w L a b) := by
  have A1 := Lib.hid (fun W (g : Below w.heap.size w W) (q : Int) => at14_any v L q W (tab.below g) (h.below g (Nat.le_refl _)) (hrs.below g (Nat.le_refl _)) hsz hln)
  have HTAB := Lib.hid tab
  have HRS := Lib.hid hrs
  have HSZ := Lib.hid hsz
  obtain ⟨ao, nn, cap, rfl⟩ : ∃ a n c, v = .slice a n c := by obtain ⟨a, c, e, _⟩ := h; exact ⟨_, _, _, e⟩
  obtain ⟨Z, hZ⟩ : ∃ Z, Z = ChgP14 w L a b := ⟨_, rfl⟩
  rw [← hZ]
  have HZ := Lib.hid hZ
  have z0 := zeroS_run
  have z1 := zS_ne
  obtain ⟨C, hC⟩ : ∃ C, C = atC L a := ⟨_, rfl⟩
  obtain ⟨D, hD⟩ : ∃ C, C = atC L b := ⟨_, rfl⟩
  obtain ⟨N, hN⟩ : ∃ C, C = atE L a := ⟨_, rfl⟩
  obtain ⟨M, hM⟩ : ∃ C, C = atE L b := ⟨_, rfl⟩
  have hsC : C.size = 35 := by rw [hC]; unfold atC; split; rfl; exact lastC_size _ _
  have hsD : D.size = 35 := by rw [hD]; unfold atC; split; rfl; exact lastC_size _ _
  have hoC : C.all (·.oneCell') = true := by rw [hC]; unfold atC; split; exact zS_one; exact lastC_one _ _
  have hoD : D.all (·.oneCell') = true := by rw [hD]; unfold atC; split; exact zS_one; exact lastC_one _ _
  have hiC := infoS hsC
  have hiD := infoS hsD
  have hzC : zS.size = C.size := by rw [hsC]; rfl
  have hzD : zS.size = D.size := by rw [hsD]; rfl
  have X1 := fun W (g : Below w.heap.size w W) => A1.out W g a
  have X2 := fun W (g : Below w.heap.size w W) => A1.out W g b
  unfold AtP at X1 X2
  rw [← hC, ← hN] at X1
  rw [← hD, ← hM] at X2
  have Y1 := Lib.hid X1
  have Y2 := Lib.hid X2
  have HC := Lib.hid hC
  have HD := Lib.hid hD
  have HN := Lib.hid hN
  have HM := Lib.hid hM
  have bel := Below.refl w.heap.size w
  clear h hrs hsz hln hZ tab X1 X2 A1 hC hD hN hM
  by_cases h0 : N = 0
  · have e0 : ((N : Int) != 0) = false := by simp [h0]
    have H0 := Lib.hid h0
    clear h0
    by_cases h1 : M = 0
    · have e1 : ((M : Int) != 0) = false := by simp [h1]
      have H1 := Lib.hid h1
      clear h1
      obtain ⟨hi, k, hk, hkq, hkC⟩ := at_ok (HN.out.symm.trans H0.out)
      obtain ⟨_, j, hj, hjq, hjD⟩ := at_ok (HM.out.symm.trans H1.out)
      have hmk : L[k] ∈ L := List.getElem_mem _
      have hmj : L[j] ∈ L := List.getElem_mem _
      have UL := Lib.hid (fun W (g : Below w.heap.size w W) => unlike_any (tC C) (tC D) L[k].s.lv L[j].s.lv L[k].s.vs L[j].s.vs W (HTAB.out.below g) (by rw [HC.out, hkC]; exact ((HRS.out _ hmk).below g (Nat.le_refl _)).tr) (by rw [HD.out, hjD]; exact ((HRS.out _ hmj).below g (Nat.le_refl _)).tr) (HSZ.out _ hmk).1 (HSZ.out _ hmj).1 (mayS_t (isSn_may hi hmk).1) (mayS_t (isSn_may hi hmj).1))
      have HFIN := Lib.hid (show ∀ e w', (∃ v', e = Ending.returned (.tuple #[v', .int .i64 0]) ∧ w'.ownsRow w.heap.size 3 1 v' (unlL L[k].s.lv L[j].s.lv L[k].s.vs L[j].s.vs 16).length ((unlL L[k].s.lv L[j].s.lv L[k].s.vs L[j].s.vs 16).map ivN)) → Below w.heap.size w w' → ChgP14 w L a b e w' from fun e w' h9 g9 => ⟨fun h => absurd (HN.out.symm.trans H0.out) h, fun _ h => absurd (HM.out.symm.trans H1.out) h, fun _ _ => ⟨k, j, hk, hj, hkq, hjq, h9⟩, g9⟩)
      clear hkC hjD hkq hjq hi
      have tcC := tC_infoA hsC
      have tcD := tC_infoA hsD
      go_enter Tryd.func50, Tryd.ntmps50
      go_wp2_with fail
      refine (Y1.out _ bel).mono ?_
      rintro e w2 ⟨rfl, g⟩
      have bel := chain bel g
      have qd8 := heap_alloc_new w2 (.cells zS 28)
      clear g
      go_wp2_with ((with_reducible refine wpList_store_row (o := ⟨none, _, _, _, _, _⟩) rfl 28 (.tmp 8) (.tmp 15) rfl _ C rfl rfl _ zS qd8 hiC hzC hoC ?_); (obtain ⟨w3, hWn⟩ : ∃ W, W = (World.alloc w2 (.cells zS 28)).setRow w2.heap.size C := ⟨_, rfl⟩); rw [← hWn]; (have q8 : w3.heap[w2.heap.size]? = some (.cells C 28 (0, 0)) := by rw [hWn]; exact setRow_heap _ _ _ C _ _ qd8); (have bel : Below w.heap.size w w3 := by rw [hWn]; exact below_row (bel.alloc bel.size _) bel.size C); clear hWn)
      refine (Y2.out _ bel).mono ?_
      rintro e w4 ⟨rfl, g⟩
      have q8 := (g.block _ (lt_of_block q8)).trans q8
      have lq8 := lt_of_block q8
      have bel := chain bel g
      have qd10 := heap_alloc_new w4 (.cells zS 28)
      clear g
      go_wp2_with (first | ((with_reducible refine wpList_load_part (o := ⟨some 30, _, _, _, _, _⟩) rfl 26 (.tmp 29) rfl _ 0 rfl (tC C) _ (tC_range q8) Tryd.underlying26 rfl (tcC) ?_)) | ((with_reducible refine wpList_load_part (o := ⟨some 32, _, _, _, _, _⟩) rfl 26 (.tmp 31) rfl _ 0 rfl (tC D) _ (tC_range q10) Tryd.underlying26 rfl (tcD) ?_)) | ((with_reducible refine wpList_store_row (o := ⟨none, _, _, _, _, _⟩) rfl 28 (.tmp 10) (.tmp 24) rfl _ D rfl rfl _ zS qd10 hiD hzD hoD ?_); (obtain ⟨w5, hWn⟩ : ∃ W, W = (World.alloc w4 (.cells zS 28)).setRow w4.heap.size D := ⟨_, rfl⟩); rw [← hWn]; (have q10 : w5.heap[w4.heap.size]? = some (.cells D 28 (0, 0)) := by rw [hWn]; exact setRow_heap _ _ _ D _ _ qd10); (have bel : Below w.heap.size w w5 := by rw [hWn]; exact below_row (bel.alloc bel.size _) bel.size D); (have q8 : w5.heap[w2.heap.size]? = some (.cells C 28 (0, 0)) := by rw [hWn, setRow_other _ _ _ _ (by omega)]; exact (heap_alloc_old _ _ lq8).trans q8); clear hWn))
      refine (UL.out _ bel).mono ?_
      rintro e w6 ⟨v9, rfl, own, g⟩
      have own := own_base own bel.size
      have bel := chain bel g
      clear g
      go_wp2_with fail
      show Z (.returned _) _
      rw [HZ.out]
      exact HFIN.out _ _ ⟨v9, rfl, own⟩ bel
    · have e1 : ((M : Int) != 0) = true := by simp; omega
      have H1 := Lib.hid h1
      clear h1
      go_enter Tryd.func50, Tryd.ntmps50
      go_wp2_with fail
      refine (Y1.out _ bel).mono ?_
      rintro e w2 ⟨rfl, g⟩
      have bel := chain bel g
      have qd8 := heap_alloc_new w2 (.cells zS 28)
      clear g
      go_wp2_with ((with_reducible refine wpList_store_row (o := ⟨none, _, _, _, _, _⟩) rfl 28 (.tmp 8) (.tmp 15) rfl _ C rfl rfl _ zS qd8 hiC hzC hoC ?_); (obtain ⟨w3, hWn⟩ : ∃ W, W = (World.alloc w2 (.cells zS 28)).setRow w2.heap.size C := ⟨_, rfl⟩); rw [← hWn]; (have q8 : w3.heap[w2.heap.size]? = some (.cells C 28 (0, 0)) := by rw [hWn]; exact setRow_heap _ _ _ C _ _ qd8); (have bel : Below w.heap.size w w3 := by rw [hWn]; exact below_row (bel.alloc bel.size _) bel.size C); clear hWn)
      refine (Y2.out _ bel).mono ?_
      rintro e w4 ⟨rfl, g⟩
      have bel := chain bel g
      have qd10 := heap_alloc_new w4 (.cells zS 28)
      clear g
      go_wp2_with ((with_reducible refine wpList_store_row (o := ⟨none, _, _, _, _, _⟩) rfl 28 (.tmp 10) (.tmp 24) rfl _ D rfl rfl _ zS qd10 hiD hzD hoD ?_); (obtain ⟨w5, hWn⟩ : ∃ W, W = (World.alloc w4 (.cells zS 28)).setRow w4.heap.size D := ⟨_, rfl⟩); rw [← hWn]; (have q10 : w5.heap[w4.heap.size]? = some (.cells D 28 (0, 0)) := by rw [hWn]; exact setRow_heap _ _ _ D _ _ qd10); (have bel : Below w.heap.size w w5 := by rw [hWn]; exact below_row (bel.alloc bel.size _) bel.size D); clear hWn)
      show Z (.returned _) _
      rw [HZ.out]
      exact ⟨fun h => absurd (HN.out.symm.trans H0.out) h, fun _ _ => (by rw [← HM.out]; rfl), fun _ h => absurd (HM.out.trans h) H1.out, bel⟩
  · have e0 : ((N : Int) != 0) = true := by simp; omega
    have H0 := Lib.hid h0
    clear h0
    go_enter Tryd.func50, Tryd.ntmps50
    go_wp2_with fail
    refine (Y1.out _ bel).mono ?_
    rintro e w2 ⟨rfl, g⟩
    have bel := chain bel g
    have qd8 := heap_alloc_new w2 (.cells zS 28)
    clear g
    go_wp2_with ((with_reducible refine wpList_store_row (o := ⟨none, _, _, _, _, _⟩) rfl 28 (.tmp 8) (.tmp 15) rfl _ C rfl rfl _ zS qd8 hiC hzC hoC ?_); (obtain ⟨w3, hWn⟩ : ∃ W, W = (World.alloc w2 (.cells zS 28)).setRow w2.heap.size C := ⟨_, rfl⟩); rw [← hWn]; (have q8 : w3.heap[w2.heap.size]? = some (.cells C 28 (0, 0)) := by rw [hWn]; exact setRow_heap _ _ _ C _ _ qd8); (have bel : Below w.heap.size w w3 := by rw [hWn]; exact below_row (bel.alloc bel.size _) bel.size C); clear hWn)
    show Z (.returned _) _
    rw [HZ.out]
    exact ⟨fun _ => (by rw [← HN.out]; rfl), fun h => absurd (HN.out.trans h) H0.out, fun h => absurd (HN.out.trans h) H0.out, bel⟩
end Go.Proofs.YtbdfcgffkonbiaaDoor
namespace Go.Proofs.YtbdfcgffkonbiaaDoor
open Go Go.RowKit
set_option linter.unusedVariables false
set_option linter.unusedSimpArgs false
def sA9 : Array Value := #[.slice none 0 0, .slice none 0 0, .slice none 0 0, .slice none 0 0, .slice none 0 0, .slice none 0 0, .slice none 0 0, .slice none 0 0, .slice none 0 0, .slice none 0 0, .slice none 0 0, .slice none 0 0, .slice none 0 0, .slice none 0 0, .slice none 0 0, .slice none 0 0, .int .i64 0, .int .i64 0, .int .i64 0, .int .i64 0, .int .i64 0, .int .i64 0, .int .i64 0, .int .i64 0, .int .i64 0, .int .i64 0, .int .i64 0, .int .i64 0, .int .i64 0, .int .i64 0, .int .i64 0, .int .i64 0, .int .i64 0, .int .i64 9, .int .i64 9]
def st9 : St := ⟨fun _ => [], fun _ => 0, 0, 9, 9⟩
theorem sA9_t : tC sA9 = zT := by kernel_rfl
theorem sA9_size : sA9.size = 35 := rfl
theorem sA9_one : sA9.all (·.oneCell') = true := by kernel_rfl
theorem rds9 (w : World) : RdS w sA9 st9 := ⟨rfl, by rw [sA9_t]; exact rdt_zero w, rfl, rfl, rfl⟩
def x5 : Sn := mkSn 5 sA9 st9
theorem x5_A : snA x5 = sA9 := mkSn_A rfl (rds9 default).one
theorem built9 : Tryd.prog.built 28 [(2, .int .i64 9), (3, .int .i64 9)] = some sA9 := by kernel_rfl
theorem hb9 (w : World) : (Instr.build 28 #[(2, .int .i64 9), (3, .int .i64 9)]).run Tryd.prog w = .ok (.agg sA9) w := run_build w _ _ _ built9
theorem may9 : mayS st9 = true := by kernel_rfl
theorem is9_one : isSn [x5] = true := by kernel_rfl
theorem is9_nil : isSn [] = true := rfl
theorem keep9_L : keepL [] x5 = [x5] := rfl
theorem keep9_0 : keepE [] x5 = 0 := by kernel_rfl
theorem keep9_1 : keepE [x5] x5 = 18 := by kernel_rfl
theorem last9E : lastE [x5] 9 = 0 := by kernel_rfl
theorem last9A : lastA [x5] 9 = 5 := by kernel_rfl
theorem last9C : lastC [x5] 9 = sA9 := by
  have h : lastC [x5] 9 = snA x5 := by kernel_rfl
  rw [h, x5_A]
theorem drop9 : [x5].drop (dropN [x5] 9) = [x5] := by kernel_rfl
theorem sz9 : SzT st9.lv ∧ WfT st9.lv := ⟨fun b hb x hx => (by cases hx), fun b hb x hx => (by cases hx)⟩
theorem sz9L : SzSn [x5] := fun x hx => by rw [List.mem_singleton.1 hx]; exact sz9
theorem ln9L : LenSn [x5] := fun x hx b hb => by rw [List.mem_singleton.1 hx]; exact Nat.zero_le _
theorem rd9L (w : World) : RdSn w [x5] := fun x hx => by rw [List.mem_singleton.1 hx, x5_A]; exact rds9 w
set_option maxRecDepth 100000 in
set_option maxHeartbeats 2000000 in
theorem awake14_any (w : World) (tab : TabAt w) : Calls Tryd.prog 41 #[] w fun e w' => e = .returned (.bool true) ∧ Below w.heap.size w w' := by
  have HTAB := Lib.hid tab
  have bel := Below.refl w.heap.size w
  have z0 := zeroS_run
  have z1 := zS_ne
  have hbb := hb9
  have hi9 := infoS sA9_size
  have hz9 : zS.size = sA9.size := rfl
  have ho9 := sA9_one
  have qd1 := heap_alloc_new w (.cells zS 28)
  have K1 := Lib.hid (fun W (g : Below w.heap.size w W) => keep14_any (.slice none 0 0) [] 5 sA9 st9 W (tab.below g) (rdk_nil W) (fun x hx => by cases hx) (fun x hx => by cases hx) (fun x hx => by cases hx) (rds9 W) sz9.1 sz9.2 (fun b _ => Nat.zero_le _))
  clear tab
  go_enter Tryd.func41, Tryd.ntmps41
  go_wp2_with (first | ((with_reducible refine wpList_load_row (o := ⟨some 13, _, _, _, _, _⟩) rfl 28 (.tmp 1) rfl _ rfl _ sA9 (0, 0) _ q1 Tryd.underlying28 rfl hi9 ?_)) | ((with_reducible refine wpList_store_row (o := ⟨none, _, _, _, _, _⟩) rfl 28 (.tmp 1) (.tmp 11) rfl _ sA9 rfl rfl _ zS qd1 hi9 hz9 ho9 ?_); (obtain ⟨w1, hWn⟩ : ∃ W, W = (World.alloc w (.cells zS 28)).setRow w.heap.size sA9 := ⟨_, rfl⟩); rw [← hWn]; (have q1 : w1.heap[w.heap.size]? = some (.cells sA9 28 (0, 0)) := by rw [hWn]; exact setRow_heap _ _ _ sA9 _ _ qd1); (have gn : Below w.heap.size w w1 := by rw [hWn]; exact below_row ((Below.refl _ _).alloc (Nat.le_refl _) _) (Nat.le_refl _) sA9); clear hWn; (have bel := chain bel gn); clear gn))
  refine (K1.out _ bel).mono ?_
  rintro e w2 ⟨hk, -, g⟩
  obtain ⟨v2, rfl, own⟩ := hk keep9_0
  rw [show keepL [] (mkSn 5 sA9 st9) = [x5] from keep9_L] at own
  have q1 := (g.block _ (lt_of_block q1)).trans q1
  have bel := chain bel g
  clear hk g
  obtain ⟨a2, n2, c2, rfl⟩ := own_slice own
  obtain rfl := own_count own
  have OWN := Lib.hid own
  clear own
  have RD := fun W (g : Below w2.heap.size w2 W) => own_rdk snC_len (own_keep OWN.out g)
  have K2 := Lib.hid (keep14_any _ [x5] 5 sA9 st9 w2 (HTAB.out.below bel) (RD _ (Below.refl _ _)) (rd9L _) sz9L ln9L (rds9 _) sz9.1 sz9.2 (fun b _ => Nat.zero_le _))
  clear RD
  go_wp2_with ((with_reducible refine wpList_load_row (o := ⟨some 19, _, _, _, _, _⟩) rfl 28 (.tmp 1) rfl _ rfl _ sA9 (0, 0) _ q1 Tryd.underlying28 rfl hi9 ?_))
  refine K2.out.mono ?_
  rintro e w3 ⟨-, hk, g⟩
  have hk2 := hk (by rw [show keepE [x5] (mkSn 5 sA9 st9) = 18 from keep9_1]; decide)
  rw [show keepE [x5] (mkSn 5 sA9 st9) = 18 from keep9_1] at hk2
  subst hk2
  have q1 := (g.block _ (lt_of_block q1)).trans q1
  have OWN := Lib.hid (own_keep OWN.out g)
  have bel := chain bel g
  have K3 := last14_any _ [x5] 9 w3 (HTAB.out.below bel) (own_rdk snC_len OWN.out) (rd9L _) sz9L ln9L
  unfold LastP at K3
  rw [last9E, last9A, last9C] at K3
  have K3 := Lib.hid K3
  clear hk g
  go_wp2_with fail
  refine K3.out.mono ?_
  rintro e w4 ⟨rfl, g⟩
  have q1 := (g.block _ (lt_of_block q1)).trans q1
  have OWN := Lib.hid (own_keep OWN.out g)
  have bel := chain bel g
  have qd7 := heap_alloc_new w4 (.cells zS 28)
  clear g
  go_wp2_with ((with_reducible refine wpList_store_row (o := ⟨none, _, _, _, _, _⟩) rfl 28 (.tmp 7) (.tmp 27) rfl _ sA9 rfl rfl _ zS qd7 hi9 hz9 ho9 ?_); (obtain ⟨w5, hWn⟩ : ∃ W, W = (World.alloc w4 (.cells zS 28)).setRow w4.heap.size sA9 := ⟨_, rfl⟩); rw [← hWn]; (have q7 : w5.heap[w4.heap.size]? = some (.cells sA9 28 (0, 0)) := by rw [hWn]; exact setRow_heap _ _ _ sA9 _ _ qd7); (have gn : Below w4.heap.size w4 w5 := by rw [hWn]; exact below_row ((Below.refl _ _).alloc (Nat.le_refl _) _) (Nat.le_refl _) sA9); clear hWn; (have bel := chain bel gn); (have q1 := (gn.block _ (lt_of_block q1)).trans q1); (have OWN := Lib.hid (own_keep OWN.out gn)); clear gn)
  have K4 := Lib.hid (drop14_any _ [x5] 9 w5 (HTAB.out.below bel) (own_rdk snC_len OWN.out) (rd9L _) sz9L ln9L)
  refine K4.out.mono ?_
  rintro e w6 ⟨-, hk, g⟩
  obtain ⟨v6, rfl, own6⟩ := hk is9_one
  rw [drop9] at own6
  obtain ⟨a6, n6, c6, rfl⟩ := own_slice own6
  obtain rfl := own_count own6
  have q1 := (g.block _ (lt_of_block q1)).trans q1
  have q7 := (g.block _ (lt_of_block q7)).trans q7
  have bel := chain bel g
  have SM := Lib.hid (same13_yes sA9 sA9 st9 w6 (rds9 _) (rds9 _) (fun b _ => Nat.zero_le _))
  clear hk g own6
  go_wp2_with (first | ((with_reducible refine wpList_load_row_g (o := ⟨some 50, _, _, _, _, _⟩) ?_ 28 (.tmp 7) rfl _ rfl _ sA9 (0, 0) _ q7 Tryd.underlying28 rfl hi9 ?_); rfl) | ((with_reducible refine wpList_load_row_g (o := ⟨some 51, _, _, _, _, _⟩) ?_ 28 (.tmp 1) rfl _ rfl _ sA9 (0, 0) _ q1 Tryd.underlying28 rfl hi9 ?_); rfl))
  refine SM.out.mono ?_
  rintro e w7 ⟨rfl, g⟩
  have bel := chain bel g
  clear g
  go_wp2_with fail
  go_ret
  exact ⟨rfl, bel⟩
end Go.Proofs.YtbdfcgffkonbiaaDoor
namespace Go.Proofs.YtbdfcgffkonbiaaDoor
open Go Go.RowKit
set_option linter.unusedVariables false
set_option linter.unusedSimpArgs false
theorem le_split {L : List Sn} (q : Int) (hs : SrtQ L) : ∀ n, n ≤ L.length → ∃ m, m ≤ n ∧ ∀ i (hi : i < L.length), i < n → (i < m ↔ L[i].q ≤ q)
  | 0, _ => ⟨0, Nat.le_refl _, fun i _ h => by omega⟩
  | n + 1, h => by
    obtain ⟨m, hm, hmi⟩ := le_split q hs n (by omega)
    by_cases hq : L[n].q ≤ q
    · by_cases hmn : m = n
      · refine ⟨n + 1, Nat.le_refl _, fun i hi hin => ⟨fun _ => ?_, fun _ => hin⟩⟩
        rcases Nat.lt_or_eq_of_le (show i ≤ n by omega) with h4 | h4
        · exact (hmi i hi h4).1 (by omega)
        · subst h4; exact hq
      · exfalso
        have hmn2 : m < n := by omega
        have h1 : ¬ L[m].q ≤ q := fun h9 => absurd ((hmi m (by omega) hmn2).2 h9) (by omega)
        have := hs m n (by omega) (by omega) hmn2
        omega
    · refine ⟨m, by omega, fun i hi hin => ?_⟩
      rcases Nat.lt_or_eq_of_le (show i ≤ n by omega) with h4 | h4
      · exact hmi i hi h4
      · subst h4; exact ⟨fun h9 => by omega, fun h9 => absurd h9 hq⟩
theorem le_iff {L : List Sn} {q : Int} (hs : SrtQ L) {k : Nat} (hk : k < L.length) : k < leN L q ↔ L[k].q ≤ q := by
  obtain ⟨m, hm, hmi⟩ := le_split q hs L.length (Nat.le_refl _)
  have : leN L q = m := take_len L m hm (fun i hi hin => decide_eq_true ((hmi i hi hi).1 hin)) (fun hn => decide_eq_false fun h => absurd ((hmi m hn hn).2 h) (by omega))
  rw [this]; exact hmi k hk hk
theorem leN_le (L : List Sn) (q : Int) : leN L q ≤ L.length := (List.takeWhile_prefix _).length_le
theorem at14_no {L : List Sn} {q : Int} (h : isSn L = false) : atE L q = 1 ∧ atC L q = zS := by
  obtain ⟨e1, e2, e3⟩ := last_no (q := q) h
  unfold atE atC
  rw [e1, if_neg (by rintro ⟨h, _⟩; cases h), if_neg (by rintro ⟨h, _⟩; cases h)]
  exact ⟨rfl, e3⟩
theorem at14_none {L : List Sn} {q : Int} (h : isSn L = true) (h0 : leN L q = 0) : atE L q = 6 ∧ atC L q = zS ∧ ixQ L q = -1 := by
  obtain ⟨e1, e2, e3⟩ := last_none h h0
  unfold atE atC
  rw [e1, if_neg (by rintro ⟨h, _⟩; cases h), if_neg (by rintro ⟨h, _⟩; cases h)]
  refine ⟨rfl, e3, ixQ_none fun i hi he => ?_⟩
  have := (le_iff (q := q) (isSn_srt h) hi).2 (by omega)
  omega
theorem at14_ne {L : List Sn} {q : Int} {m : Nat} (h : isSn L = true) (hm : m < L.length) (h0 : leN L q = m + 1) (hq : L[m].q ≠ q) : atE L q = 6 ∧ atC L q = zS ∧ ixQ L q = -1 := by
  obtain ⟨e1, e2, e3⟩ := last_at h hm h0
  unfold atE atC
  rw [e1, e2, if_pos ⟨rfl, hq⟩, if_pos ⟨rfl, hq⟩]
  refine ⟨rfl, rfl, ixQ_none fun i hi he => ?_⟩
  have h1 := (le_iff (q := q) (isSn_srt h) hi).2 (by omega)
  have h2 := (le_iff (q := q) (isSn_srt h) hm).1 (by omega)
  rcases Nat.lt_or_eq_of_le (show i ≤ m by omega) with h4 | h4
  · have := isSn_srt h i m hi hm h4; omega
  · subst h4; exact hq he
theorem at14_eq {L : List Sn} {q : Int} {m : Nat} (h : isSn L = true) (hm : m < L.length) (h0 : leN L q = m + 1) (hq : L[m].q = q) : atE L q = 0 ∧ atC L q = snA L[m] ∧ ixQ L q = m := by
  obtain ⟨e1, e2, e3⟩ := last_at h hm h0
  unfold atE atC
  rw [e1, e2, if_neg (fun h => h.2 hq), if_neg (fun h => h.2 hq)]
  exact ⟨rfl, e3, ixQ_at hm hq fun i hi hik he => by have := isSn_srt h i m hi hm hik; omega⟩
theorem same_zS (w : World) : Calls Tryd.prog 16 #[.agg zS, .agg zS] w fun e w' => e = .returned (.bool true) ∧ Below w.heap.size w w' :=
  same13_yes zS zS stZ w (rds_zero w) (rds_zero w) (fun b _ => Nat.zero_le _)
end Go.Proofs.YtbdfcgffkonbiaaDoor
