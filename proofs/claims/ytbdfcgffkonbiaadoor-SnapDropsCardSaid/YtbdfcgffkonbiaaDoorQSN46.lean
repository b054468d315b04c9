/- Snaps: Few; Changed. Written by wip/tools/gen14l.py. -/
import Derived.Test.YtbdfcgffkonbiaaDoorQSN45
import Derived.Test.YtbdfcgffkonbiaaDoorQSN25
namespace Go.Proofs.YtbdfcgffkonbiaaDoor
open Go Go.RowKit
set_option linter.unusedVariables false
set_option linter.unusedSimpArgs false
/-- Snaps made anew, of which no more is looked at than may be. -/
def FwSn (base : Nat) (w : World) (L : List Sn) : Prop := ∀ x ∈ L, OwnS base w (snA x) x.s ∧ ∃ y : St, x.s = fewS y ∧ WfT y.lv
theorem FwSn.rd {base : Nat} {w : World} {L : List Sn} (h : FwSn base w L) : RdSn w L := fun x hx => (h x hx).1.rd
theorem FwSn.sz {base : Nat} {w : World} {L : List Sn} (h : FwSn base w L) : SzSn L := fun x hx => by
  obtain ⟨_, y, e, hw⟩ := h x hx
  rw [e]; exact ⟨fewT_sz _, fewT_wf hw⟩
theorem FwSn.ln {base : Nat} {w : World} {L : List Sn} (h : FwSn base w L) : LenSn L := fun x hx => by
  obtain ⟨_, y, e, hw⟩ := h x hx
  rw [e]; exact fewT_len _
theorem ownT_grown {w w' : World} {b b2 k2 : Nat} {e2 : TypeId} {cs : Array Value} {lv : Nat → List It} {vs : Nat → Int} {v2 : Value} {n2 : Nat} {xs2 : List Value} (h : OwnT b w cs lv vs) (h2 : w.ownsRow b2 e2 k2 v2 n2 xs2) (he : 53 ≠ e2) (g : w.grownBy w' v2.ownBlock) : OwnT b w' cs lv vs :=
  ⟨h.size, fun c hc => (h.leaf c hc).imp fun u x => ⟨x.1, own_other x.2 h2 he g⟩, h.ver⟩
theorem ownS_grown {w w' : World} {b b2 k2 : Nat} {e2 : TypeId} {cs : Array Value} {s : St} {v2 : Value} {n2 : Nat} {xs2 : List Value} (h : OwnS b w cs s) (h2 : w.ownsRow b2 e2 k2 v2 n2 xs2) (he : 53 ≠ e2) (g : w.grownBy w' v2.ownBlock) : OwnS b w' cs s :=
  ⟨h.size, ownT_grown h.tr h2 he g, h.ver, h.by_, h.ke⟩
def FewSnP (w : World) (e : Ending) (w' : World) : Prop := ∃ v' L', e = .returned v' ∧ w'.ownsRow w.heap.size 77 36 v' L'.length (L'.flatMap snC) ∧ FwSn w.heap.size w' L' ∧ L'.length ≤ 10 ∧ Below w.heap.size w w'
set_option maxRecDepth 100000 in
set_option maxHeartbeats 1000000 in
theorem few14_any (v : Value) (L : List Sn) (w : World) (h : RdK 36 snC w v L) (hrs : RdSn w L) (hsz : SzSn L) :
    Calls Tryd.prog 38 #[v] w (FewSnP w) := by
  obtain ⟨ao, cap, rfl, hc, hm, hr⟩ := RdK.open h
  have HRD := Lib.hid (show RdK 36 snC w (.slice ao L.length cap) L from hr)
  clear h hr
  obtain ⟨i0, hi, hz0, hz1, hz2⟩ := snap_info
  have HBs := Lib.hid hbs_one
  have HRS := Lib.hid hrs
  have HSZ := Lib.hid hsz
  obtain ⟨Z, hZ⟩ : ∃ Z, Z = FewSnP w := ⟨_, rfl⟩
  rw [← hZ]
  have HZ := Lib.hid hZ
  clear hZ hrs hsz
  by_cases hbig : 10 < L.length
  · have hd1 : decide (10 < (L.length : Int)) = true := decide_eq_true (by omega)
    have hd2 : decide (10 < L.length) = true := decide_eq_true hbig
    obtain ⟨M, hM⟩ : ∃ M, M = L.take 10 := ⟨_, rfl⟩
    have HML := Lib.hid (show M.length = 10 by rw [hM]; simp; omega)
    have HMM := Lib.hid (show ∀ x ∈ M, x ∈ L by rw [hM]; exact fun x hx => List.mem_of_mem_take hx)
    have HM := Lib.hid hM
    clear hM
    go_enter Tryd.func38, Tryd.ntmps38
    go_wp2_with (refine wpList_slice_rdk snC_len rfl 70 77 (.tmp 8) none (some (.const (.int .i64 10))) rfl i0 Tryd.underlying70 hi hz1 ao cap L rfl HRD.out 0 10 (.inl ⟨rfl, rfl⟩) (.inr ⟨_, .i64, rfl, rfl⟩) (by omega) (by omega) ?_; intro ao2 cap2 hr2; have HR2 := Lib.hid hr2; clear hr2)
    have HRD := Lib.hid (show RdK 36 snC w (.slice ao2 10 cap2) M by have h := HR2.out; rw [HM.out]; simpa using h)
    go_wp2_with fail
    go_loopw [3, 4] (fun o i wr => ∃ (k : Nat) (acc : List Sn), k ≤ 10 ∧ i = .int .i64 (k : Int) ∧ acc.length = k ∧ wr.ownsRow w.heap.size 77 36 o acc.length (acc.flatMap snC) ∧ Hid (FwSn w.heap.size wr acc) ∧ Below w.heap.size w wr) (fun _ i _ => 200 - (intOf i).toNat)
    case atStart => exact ⟨0, [], Nat.zero_le _, rfl, rfl, World.ownsRow_nil _ _ _ _, Lib.hid (fun x hx => by cases hx), Below.refl _ _⟩
    case round =>
      obtain ⟨k, acc, hk, rfl, hac, own, FK, bel⟩ := hrel
      by_cases hlt : k < 10
      · have hlm : k < M.length := by have := HML.out; omega
        obtain ⟨b, off, rfl, hb, hca0⟩ := RdK.cell snC_len (HRD.out.below bel (Nat.le_refl _)) k hlm
        obtain ⟨x, hx⟩ : ∃ x, x = M[k]'hlm := ⟨_, rfl⟩
        rw [← hx] at hca0
        have hca : ∀ i, i < 36 → wr.cell? ⟨b, off + k * 36 + i, none⟩ = (snC x)[i]? := fun i hi => by rw [Nat.add_assoc]; exact hca0 i hi
        have qa := sn_q hca
        have hxm := HMM.out x (by rw [hx]; exact List.getElem_mem _)
        have HWX := Lib.hid (HSZ.out x hxm).2
        have FW := Lib.hid (fun W (g : Below wr.heap.size wr W) => few13_any (snA x) x.s W ((HRS.out x hxm).below (chain bel g) (Nat.le_refl _)) (HSZ.out x hxm).1)
        have HB0 := Lib.hid bel.size
        have hac2 : acc.length ≤ 100 := by omega
        have hki : (k : Int) < 10 := by omega
        clear hca0 hx
        have hS := (Below.refl wr.heap.size wr).drew
        go_wp2_with fail
        refine t_start 14 (by kernel_rfl) ?_
        refine t_take (i := 0) (d := (some 16)) (v := ?_) rfl rfl (by kernel_rfl) (fun _ _ _ h => h) (by rfl) (fun w' hb' => ?_) ?_
        rotate_left
        · (try go_simp); (try with_reducible rfl)
        try simp only [Act.put, List.setIfInBounds_toArray, List.set_cons_zero, List.set_cons_succ]
        refine t_take (i := 1) (d := (some 17)) (v := ?_) rfl rfl (by kernel_rfl) (fun _ _ _ h => h) (by rfl) (fun w' hb' => ?_) ?_
        rotate_left
        · (try go_simp); (try with_reducible rfl)
        try simp only [Act.put, List.setIfInBounds_toArray, List.set_cons_zero, List.set_cons_succ]
        refine t_take (i := 2) (d := (some 18)) (v := ?_) rfl rfl (by kernel_rfl) (fun _ _ _ h => h) (by rfl) (fun w' hb' => ?_) ?_
        rotate_left
        · (try go_simp); (try with_reducible rfl)
        try simp only [Act.put, List.setIfInBounds_toArray, List.set_cons_zero, List.set_cons_succ]
        refine t_take (i := 3) (d := (some 19)) (v := ?_) rfl rfl (by kernel_rfl) (fun _ _ _ h => h) (by rfl) (fun w' hb' => ?_) ?_
        rotate_left
        · (try go_simp); (try with_reducible rfl)
        try simp only [Act.put, List.setIfInBounds_toArray, List.set_cons_zero, List.set_cons_succ]
        refine t_take (i := 4) (d := (some 20)) (v := ?_) rfl rfl (by kernel_rfl) (fun _ _ _ h => h) (by rfl) (fun w' hb' => ?_) ?_
        rotate_left
        · (try go_simp); (try with_reducible rfl)
        try simp only [Act.put, List.setIfInBounds_toArray, List.set_cons_zero, List.set_cons_succ]
        refine t_take (i := 5) (d := (some 21)) (v := ?_) rfl rfl (by kernel_rfl) (fun _ _ _ h => h) (by rfl) (fun w' hb' => ?_) ?_
        rotate_left
        · have zz := (hb'.cell (p := ⟨b, off + k * 36, none⟩) hb).trans qa; (try go_simp); (try with_reducible rfl)
        try simp only [Act.put, List.setIfInBounds_toArray, List.set_cons_zero, List.set_cons_succ]
        refine t_take (i := 6) (d := (some 22)) (v := ?_) rfl rfl (by kernel_rfl) (fun _ _ _ h => h) (by rfl) (fun w' hb' => ?_) ?_
        rotate_left
        · (try go_simp); (try with_reducible rfl)
        try simp only [Act.put, List.setIfInBounds_toArray, List.set_cons_zero, List.set_cons_succ]
        refine t_take (i := 7) (d := (some 23)) (v := ?_) rfl rfl (by kernel_rfl) (fun _ _ _ h => h) (by rfl) (fun w' hb' => ?_) ?_
        rotate_left
        · (try go_simp); (try with_reducible rfl)
        try simp only [Act.put, List.setIfInBounds_toArray, List.set_cons_zero, List.set_cons_succ]
        refine t_take (i := 8) (d := (some 24)) (v := ?_) rfl rfl (by kernel_rfl) (fun _ _ _ h => h) (by rfl) (fun w' hb' => ?_) ?_
        rotate_left
        · (try go_simp); (try with_reducible rfl)
        try simp only [Act.put, List.setIfInBounds_toArray, List.set_cons_zero, List.set_cons_succ]
        refine t_take (i := 9) (d := (some 25)) (v := ?_) rfl rfl (by kernel_rfl) (fun _ _ _ h => h) (by rfl) (fun w' hb' => ?_) ?_
        rotate_left
        · (try go_simp); (try with_reducible rfl)
        try simp only [Act.put, List.setIfInBounds_toArray, List.set_cons_zero, List.set_cons_succ]
        refine t_take (i := 10) (d := (some 26)) (v := ?_) rfl rfl (by kernel_rfl) (fun _ _ _ h => h) (by rfl) (fun w' hb' => ?_) ?_
        rotate_left
        · (refine load_partO_op _ _ (.tmp 25) ?_ ?_ (sn_store (fun i hi => (hb'.cell (p := ⟨b, off + k * 36 + i, none⟩) hb).trans (hca i hi))) Tryd.underlying28 ?_ (infoSA x) <;> rfl); (try go_simp); (try with_reducible rfl)
        try simp only [Act.put, List.setIfInBounds_toArray, List.set_cons_zero, List.set_cons_succ]
        refine t_run (i := 11) rfl (by kernel_rfl) (by kernel_rfl) (by rfl) (fun K hK => ?_)
        go_simp
        refine (FW.out _ hS).mono ?_
        rintro e wC ⟨CF, rfl, oS, g⟩
        have hs9 := oS.size
        have ho9 := oS.rd.one
        have HBd : ∀ w, (Instr.build 77 #[(0, .int .i64 x.q), (1, .agg CF)]).run Tryd.prog w = .ok (.agg (snV (mkSn x.q CF (fewS x.s)))) w := fun w => run_build w _ _ _ (built_snap hs9 ho9)
        have HSA := Lib.hid (show snA (mkSn x.q CF (fewS x.s)) = CF from mkSn_A hs9 ho9)
        have hw0 := hS.size
        have own := own_keep (own_keep own hS) g
        have OS := Lib.hid (oS.base (base' := w.heap.size) (Nat.le_trans HB0.out hw0))
        have FK := Lib.hid (show FwSn w.heap.size wC acc from fun y hy => ⟨((FK.out y hy).1.below hS).below g, (FK.out y hy).2⟩)
        have hS2 := hS.trans (g.mono hw0)
        refine hK _ _ ⟨g, ?_⟩
        clear hK K g hS hs9 ho9 oS hw0
        have hS := hS2
        clear hS2
        try simp only [Act.put, List.setIfInBounds_toArray, List.set_cons_zero, List.set_cons_succ]
        refine t_take (i := 12) (d := (some 28)) (v := ?_) rfl rfl (by kernel_rfl) (fun _ _ _ h => h) (by rfl) (fun w' hb' => ?_) ?_
        rotate_left
        · (refine build2_op (t := 77) (r := .agg (snV (mkSn x.q CF (fewS x.s)))) (u := .int .i64 x.q) (v := .agg CF) _ _ (.tmp 21) (.tmp 27) ?_ ?_ ?_ (HBd _) <;> rfl); (try go_simp); (try with_reducible rfl)
        try simp only [Act.put, List.setIfInBounds_toArray, List.set_cons_zero, List.set_cons_succ]
        refine t_run (i := 13) rfl (by kernel_rfl) (by kernel_rfl) (by rfl) (fun K hK => ?_)
        refine op_build1 70 (.tmp 28) rfl (snV (mkSn x.q CF (fewS x.s))) rfl _ _ (HBs.out _ _) ?_
        have gA := (Below.refl wC.heap.size wC).alloc (Nat.le_refl _) (.cells (snV (mkSn x.q CF (fewS x.s))) 77)
        have hS2 := hS.alloc hS.size (.cells (snV (mkSn x.q CF (fewS x.s))) 77)
        have q8 := heap_alloc_new wC (.cells (snV (mkSn x.q CF (fewS x.s))) 77)
        have own := own.alloc (.cells (snV (mkSn x.q CF (fewS x.s))) 77)
        have OS := Lib.hid (OS.out.below gA)
        have FK := Lib.hid (show FwSn w.heap.size (wC.alloc (.cells (snV (mkSn x.q CF (fewS x.s))) 77)) acc from fun y hy => ⟨(FK.out y hy).1.below gA, (FK.out y hy).2⟩)
        refine hK _ _ ⟨gA, ?_⟩
        clear hK K hS gA
        have hS := hS2
        clear hS2
        try simp only [Act.put, List.setIfInBounds_toArray, List.set_cons_zero, List.set_cons_succ]
        refine t_into ?_
        refine t_tail (i := 14) rfl (by kernel_rfl) (by kernel_rfl) (by rfl) (fun K hK => ?_)
        obtain ⟨v9, w9, hrun, own9, gr⟩ := app_sn _ _ _ _ own _ (mkSn x.q CF (fewS x.s)) q8 (Nat.le_trans HB0.out hS.size) (by omega)
        have OS := Lib.hid (ownS_grown OS.out own (by decide) gr)
        have FK := Lib.hid (show FwSn w.heap.size w9 (acc ++ [mkSn x.q CF (fewS x.s)]) from fun y hy => by
          rcases List.mem_append.1 hy with h1 | h1
          · exact ⟨ownS_grown (FK.out y h1).1 own (by decide) gr, (FK.out y h1).2⟩
          · rw [List.mem_singleton.1 h1]; exact ⟨by rw [HSA.out]; exact OS.out, x.s, rfl, HWX.out⟩)
        have BF := grown_below (bel.trans (hS.mono bel.size)) (Nat.le_refl _) own gr
        refine op_append (.tmp 16) (.tmp 29) 70 70 rfl rfl _ _ v9 w9 rfl rfl hrun ?_
        refine hK _ _ ?_
        clear hK K hS hrun gr own q8
        try simp only [Act.put, List.setIfInBounds_toArray, List.set_cons_zero, List.set_cons_succ]
        refine t_tail (i := 15) rfl (by kernel_rfl) (by kernel_rfl) (by rfl) (fun K hK => ?_)
        go_simp
        refine hK _ _ ?_
        clear hK K
        try simp only [Act.put, List.setIfInBounds_toArray, List.set_cons_zero, List.set_cons_succ]
        refine t_over (by kernel_rfl) ?_
        go_wp2_with fail
        exact ⟨⟨k + 1, _, by omega, by push_cast; rfl, by rw [List.length_append, hac]; rfl, own9, FK, BF⟩, by simp [intOf]; omega⟩
      · obtain rfl : k = 10 := by omega
        go_wp2_with fail
        show Z (.returned _) _
        rw [HZ.out]
        exact ⟨_, acc, rfl, own, FK.out, by omega, bel⟩
  · have hd1 : decide (10 < (L.length : Int)) = false := decide_eq_false (by omega)
    have hd2 : decide (10 < L.length) = false := decide_eq_false hbig
    obtain ⟨M, hM⟩ : ∃ M, M = L := ⟨_, rfl⟩
    have HML := Lib.hid (show M.length = L.length by rw [hM])
    have HMM := Lib.hid (show ∀ x ∈ M, x ∈ L by rw [hM]; exact fun x hx => hx)
    have HRD := Lib.hid (show RdK 36 snC w (.slice ao L.length cap) M by rw [hM]; exact HRD.out)
    clear hM
    go_enter Tryd.func38, Tryd.ntmps38
    go_wp2_with fail
    go_loopw [3, 4] (fun o i wr => ∃ (k : Nat) (acc : List Sn), k ≤ L.length ∧ i = .int .i64 (k : Int) ∧ acc.length = k ∧ wr.ownsRow w.heap.size 77 36 o acc.length (acc.flatMap snC) ∧ Hid (FwSn w.heap.size wr acc) ∧ Below w.heap.size w wr) (fun _ i _ => 200 - (intOf i).toNat)
    case atStart => exact ⟨0, [], Nat.zero_le _, rfl, rfl, World.ownsRow_nil _ _ _ _, Lib.hid (fun x hx => by cases hx), Below.refl _ _⟩
    case round =>
      obtain ⟨k, acc, hk, rfl, hac, own, FK, bel⟩ := hrel
      by_cases hlt : k < L.length
      · have hlm : k < M.length := by have := HML.out; omega
        obtain ⟨b, off, rfl, hb, hca0⟩ := RdK.cell snC_len (HRD.out.below bel (Nat.le_refl _)) k hlm
        obtain ⟨x, hx⟩ : ∃ x, x = M[k]'hlm := ⟨_, rfl⟩
        rw [← hx] at hca0
        have hca : ∀ i, i < 36 → wr.cell? ⟨b, off + k * 36 + i, none⟩ = (snC x)[i]? := fun i hi => by rw [Nat.add_assoc]; exact hca0 i hi
        have qa := sn_q hca
        have hxm := HMM.out x (by rw [hx]; exact List.getElem_mem _)
        have HWX := Lib.hid (HSZ.out x hxm).2
        have FW := Lib.hid (fun W (g : Below wr.heap.size wr W) => few13_any (snA x) x.s W ((HRS.out x hxm).below (chain bel g) (Nat.le_refl _)) (HSZ.out x hxm).1)
        have HB0 := Lib.hid bel.size
        have hac2 : acc.length ≤ 100 := by omega
        have hki : (k : Int) < (L.length : Int) := by omega
        clear hca0 hx
        have hS := (Below.refl wr.heap.size wr).drew
        go_wp2_with fail
        refine t_start 14 (by kernel_rfl) ?_
        refine t_take (i := 0) (d := (some 16)) (v := ?_) rfl rfl (by kernel_rfl) (fun _ _ _ h => h) (by rfl) (fun w' hb' => ?_) ?_
        rotate_left
        · (try go_simp); (try with_reducible rfl)
        try simp only [Act.put, List.setIfInBounds_toArray, List.set_cons_zero, List.set_cons_succ]
        refine t_take (i := 1) (d := (some 17)) (v := ?_) rfl rfl (by kernel_rfl) (fun _ _ _ h => h) (by rfl) (fun w' hb' => ?_) ?_
        rotate_left
        · (try go_simp); (try with_reducible rfl)
        try simp only [Act.put, List.setIfInBounds_toArray, List.set_cons_zero, List.set_cons_succ]
        refine t_take (i := 2) (d := (some 18)) (v := ?_) rfl rfl (by kernel_rfl) (fun _ _ _ h => h) (by rfl) (fun w' hb' => ?_) ?_
        rotate_left
        · (try go_simp); (try with_reducible rfl)
        try simp only [Act.put, List.setIfInBounds_toArray, List.set_cons_zero, List.set_cons_succ]
        refine t_take (i := 3) (d := (some 19)) (v := ?_) rfl rfl (by kernel_rfl) (fun _ _ _ h => h) (by rfl) (fun w' hb' => ?_) ?_
        rotate_left
        · (try go_simp); (try with_reducible rfl)
        try simp only [Act.put, List.setIfInBounds_toArray, List.set_cons_zero, List.set_cons_succ]
        refine t_take (i := 4) (d := (some 20)) (v := ?_) rfl rfl (by kernel_rfl) (fun _ _ _ h => h) (by rfl) (fun w' hb' => ?_) ?_
        rotate_left
        · (try go_simp); (try with_reducible rfl)
        try simp only [Act.put, List.setIfInBounds_toArray, List.set_cons_zero, List.set_cons_succ]
        refine t_take (i := 5) (d := (some 21)) (v := ?_) rfl rfl (by kernel_rfl) (fun _ _ _ h => h) (by rfl) (fun w' hb' => ?_) ?_
        rotate_left
        · have zz := (hb'.cell (p := ⟨b, off + k * 36, none⟩) hb).trans qa; (try go_simp); (try with_reducible rfl)
        try simp only [Act.put, List.setIfInBounds_toArray, List.set_cons_zero, List.set_cons_succ]
        refine t_take (i := 6) (d := (some 22)) (v := ?_) rfl rfl (by kernel_rfl) (fun _ _ _ h => h) (by rfl) (fun w' hb' => ?_) ?_
        rotate_left
        · (try go_simp); (try with_reducible rfl)
        try simp only [Act.put, List.setIfInBounds_toArray, List.set_cons_zero, List.set_cons_succ]
        refine t_take (i := 7) (d := (some 23)) (v := ?_) rfl rfl (by kernel_rfl) (fun _ _ _ h => h) (by rfl) (fun w' hb' => ?_) ?_
        rotate_left
        · (try go_simp); (try with_reducible rfl)
        try simp only [Act.put, List.setIfInBounds_toArray, List.set_cons_zero, List.set_cons_succ]
        refine t_take (i := 8) (d := (some 24)) (v := ?_) rfl rfl (by kernel_rfl) (fun _ _ _ h => h) (by rfl) (fun w' hb' => ?_) ?_
        rotate_left
        · (try go_simp); (try with_reducible rfl)
        try simp only [Act.put, List.setIfInBounds_toArray, List.set_cons_zero, List.set_cons_succ]
        refine t_take (i := 9) (d := (some 25)) (v := ?_) rfl rfl (by kernel_rfl) (fun _ _ _ h => h) (by rfl) (fun w' hb' => ?_) ?_
        rotate_left
        · (try go_simp); (try with_reducible rfl)
        try simp only [Act.put, List.setIfInBounds_toArray, List.set_cons_zero, List.set_cons_succ]
        refine t_take (i := 10) (d := (some 26)) (v := ?_) rfl rfl (by kernel_rfl) (fun _ _ _ h => h) (by rfl) (fun w' hb' => ?_) ?_
        rotate_left
        · (refine load_partO_op _ _ (.tmp 25) ?_ ?_ (sn_store (fun i hi => (hb'.cell (p := ⟨b, off + k * 36 + i, none⟩) hb).trans (hca i hi))) Tryd.underlying28 ?_ (infoSA x) <;> rfl); (try go_simp); (try with_reducible rfl)
        try simp only [Act.put, List.setIfInBounds_toArray, List.set_cons_zero, List.set_cons_succ]
        refine t_run (i := 11) rfl (by kernel_rfl) (by kernel_rfl) (by rfl) (fun K hK => ?_)
        go_simp
        refine (FW.out _ hS).mono ?_
        rintro e wC ⟨CF, rfl, oS, g⟩
        have hs9 := oS.size
        have ho9 := oS.rd.one
        have HBd : ∀ w, (Instr.build 77 #[(0, .int .i64 x.q), (1, .agg CF)]).run Tryd.prog w = .ok (.agg (snV (mkSn x.q CF (fewS x.s)))) w := fun w => run_build w _ _ _ (built_snap hs9 ho9)
        have HSA := Lib.hid (show snA (mkSn x.q CF (fewS x.s)) = CF from mkSn_A hs9 ho9)
        have hw0 := hS.size
        have own := own_keep (own_keep own hS) g
        have OS := Lib.hid (oS.base (base' := w.heap.size) (Nat.le_trans HB0.out hw0))
        have FK := Lib.hid (show FwSn w.heap.size wC acc from fun y hy => ⟨((FK.out y hy).1.below hS).below g, (FK.out y hy).2⟩)
        have hS2 := hS.trans (g.mono hw0)
        refine hK _ _ ⟨g, ?_⟩
        clear hK K g hS hs9 ho9 oS hw0
        have hS := hS2
        clear hS2
        try simp only [Act.put, List.setIfInBounds_toArray, List.set_cons_zero, List.set_cons_succ]
        refine t_take (i := 12) (d := (some 28)) (v := ?_) rfl rfl (by kernel_rfl) (fun _ _ _ h => h) (by rfl) (fun w' hb' => ?_) ?_
        rotate_left
        · (refine build2_op (t := 77) (r := .agg (snV (mkSn x.q CF (fewS x.s)))) (u := .int .i64 x.q) (v := .agg CF) _ _ (.tmp 21) (.tmp 27) ?_ ?_ ?_ (HBd _) <;> rfl); (try go_simp); (try with_reducible rfl)
        try simp only [Act.put, List.setIfInBounds_toArray, List.set_cons_zero, List.set_cons_succ]
        refine t_run (i := 13) rfl (by kernel_rfl) (by kernel_rfl) (by rfl) (fun K hK => ?_)
        refine op_build1 70 (.tmp 28) rfl (snV (mkSn x.q CF (fewS x.s))) rfl _ _ (HBs.out _ _) ?_
        have gA := (Below.refl wC.heap.size wC).alloc (Nat.le_refl _) (.cells (snV (mkSn x.q CF (fewS x.s))) 77)
        have hS2 := hS.alloc hS.size (.cells (snV (mkSn x.q CF (fewS x.s))) 77)
        have q8 := heap_alloc_new wC (.cells (snV (mkSn x.q CF (fewS x.s))) 77)
        have own := own.alloc (.cells (snV (mkSn x.q CF (fewS x.s))) 77)
        have OS := Lib.hid (OS.out.below gA)
        have FK := Lib.hid (show FwSn w.heap.size (wC.alloc (.cells (snV (mkSn x.q CF (fewS x.s))) 77)) acc from fun y hy => ⟨(FK.out y hy).1.below gA, (FK.out y hy).2⟩)
        refine hK _ _ ⟨gA, ?_⟩
        clear hK K hS gA
        have hS := hS2
        clear hS2
        try simp only [Act.put, List.setIfInBounds_toArray, List.set_cons_zero, List.set_cons_succ]
        refine t_into ?_
        refine t_tail (i := 14) rfl (by kernel_rfl) (by kernel_rfl) (by rfl) (fun K hK => ?_)
        obtain ⟨v9, w9, hrun, own9, gr⟩ := app_sn _ _ _ _ own _ (mkSn x.q CF (fewS x.s)) q8 (Nat.le_trans HB0.out hS.size) (by omega)
        have OS := Lib.hid (ownS_grown OS.out own (by decide) gr)
        have FK := Lib.hid (show FwSn w.heap.size w9 (acc ++ [mkSn x.q CF (fewS x.s)]) from fun y hy => by
          rcases List.mem_append.1 hy with h1 | h1
          · exact ⟨ownS_grown (FK.out y h1).1 own (by decide) gr, (FK.out y h1).2⟩
          · rw [List.mem_singleton.1 h1]; exact ⟨by rw [HSA.out]; exact OS.out, x.s, rfl, HWX.out⟩)
        have BF := grown_below (bel.trans (hS.mono bel.size)) (Nat.le_refl _) own gr
        refine op_append (.tmp 16) (.tmp 29) 70 70 rfl rfl _ _ v9 w9 rfl rfl hrun ?_
        refine hK _ _ ?_
        clear hK K hS hrun gr own q8
        try simp only [Act.put, List.setIfInBounds_toArray, List.set_cons_zero, List.set_cons_succ]
        refine t_tail (i := 15) rfl (by kernel_rfl) (by kernel_rfl) (by rfl) (fun K hK => ?_)
        go_simp
        refine hK _ _ ?_
        clear hK K
        try simp only [Act.put, List.setIfInBounds_toArray, List.set_cons_zero, List.set_cons_succ]
        refine t_over (by kernel_rfl) ?_
        go_wp2_with fail
        exact ⟨⟨k + 1, _, by omega, by push_cast; rfl, by rw [List.length_append, hac]; rfl, own9, FK, BF⟩, by simp [intOf]; omega⟩
      · obtain rfl : k = L.length := by omega
        go_wp2_with fail
        show Z (.returned _) _
        rw [HZ.out]
        exact ⟨_, acc, rfl, own, FK.out, by omega, bel⟩
end Go.Proofs.YtbdfcgffkonbiaaDoor
