/- Trunks: whether they may be. Written by wip/tools/gen10b.py. -/
import Derived.Test.YtoagdmglchccnaaGreatDoorQRR31
namespace Go.Proofs.YtoagdmglchccnaaGreatDoor
open Go Go.RowKit
set_option linter.unusedVariables false
set_option linter.unusedSimpArgs false
/-- The cells of a trunk: sixteen leaves and sixteen versions. -/
structure RdT (w : World) (cs : Array Value) (lv : Nat → List It) (vs : Nat → Int) : Prop where
  size : cs.size = 32
  leaf : ∀ b, b < 16 → ∃ u, cs[b]? = some u ∧ RdI w u (lv b)
  ver : ∀ b, b < 16 → cs[16 + b]? = some (.int .i64 (vs b))
theorem RdT.below {w w' : World} {cs : Array Value} {lv : Nat → List It} {vs : Nat → Int} (h : RdT w cs lv vs) {B : Nat} (g : Below B w w') (hB : w.heap.size ≤ B) : RdT w' cs lv vs :=
  ⟨h.size, fun b hb => (h.leaf b hb).imp fun u x => ⟨x.1, x.2.below g hB⟩, h.ver⟩
def SzT (lv : Nat → List It) : Prop := ∀ b, b < 16 → SzI (lv b)
/-- May the first k buckets be? -/
def mayTs (lv : Nat → List It) (vs : Nat → Int) (k : Nat) : Bool := (List.range k).all fun b => mayT (b : Int) (lv b) (vs b)
theorem mayTs_succ (lv : Nat → List It) (vs : Nat → Int) (k : Nat) : mayTs lv vs (k + 1) = (mayTs lv vs k && mayT (k : Int) (lv k) (vs k)) := by
  unfold mayTs; rw [List.range_succ, List.all_append]; simp
theorem mayTs_no {lv : Nat → List It} {vs : Nat → Int} {k n : Nat} (hk : k < n) (h : mayT (k : Int) (lv k) (vs k) = false) : mayTs lv vs n = false := by
  unfold mayTs; rw [List.all_eq_false]; exact ⟨k, List.mem_range.2 hk, by simp [h]⟩
theorem ix16 (bs : Array Value) (k : Nat) (v : Value) (hk : k < 16) (h : bs[k]? = some v) (w : World) : (Instr.index 24 (.agg bs) (.int .i64 (k : Int))).run Tryz.prog w = .ok v w := by
  have e1 : (sizeOf 23).run Tryz.prog w = .ok 1 w := by kernel_rfl
  have e2 : (isAgg 23).run Tryz.prog w = .ok false w := by kernel_rfl
  have e3 : (0 ≤ (k : Int) ∧ (k : Int) < 16) := by omega
  unfold Instr.index
  simp [asIntOf, run_underlying Tryz.underlying24, Sem.run_bind, e1, e2, e3, part, h]
  omega
theorem lit16 (cs : Array Value) (hs : cs.size = 32) (k : Nat) (hk : k < 16) : (#[cs[0]'(by omega), cs[1]'(by omega), cs[2]'(by omega), cs[3]'(by omega), cs[4]'(by omega), cs[5]'(by omega), cs[6]'(by omega), cs[7]'(by omega), cs[8]'(by omega), cs[9]'(by omega), cs[10]'(by omega), cs[11]'(by omega), cs[12]'(by omega), cs[13]'(by omega), cs[14]'(by omega), cs[15]'(by omega)] : Array Value)[k]? = cs[k]? := by
  obtain ⟨l⟩ := cs
  simp only [List.size_toArray] at hs
  rcases (by omega : k = 0 ∨ k = 1 ∨ k = 2 ∨ k = 3 ∨ k = 4 ∨ k = 5 ∨ k = 6 ∨ k = 7 ∨ k = 8 ∨ k = 9 ∨ k = 10 ∨ k = 11 ∨ k = 12 ∨ k = 13 ∨ k = 14 ∨ k = 15) with rfl | rfl | rfl | rfl | rfl | rfl | rfl | rfl | rfl | rfl | rfl | rfl | rfl | rfl | rfl | rfl <;> simp
theorem bad_ref {b : Nat} {ver : Int} {x : It} {m : Nat} (hm : (x.key.getD 0 0).toNat = m) : badI (b : Int) ver x = (!isB x.key || (((m : Int) % 16 != (b : Int)) || decide (ver < x.ver))) := by
  unfold badI bk
  cases h : isB x.key with
  | true => rw [if_pos rfl, hm, Bool.not_true, Bool.false_or]; rfl
  | false =>
    rw [if_neg (by simp), Bool.not_false, Bool.true_or]
    have : ((-1 : Int) != (b : Int)) = true := by rw [bne_iff_ne]; omega
    rw [this]; rfl
theorem any_at {l : List It} {f : It → Bool} {k : Nat} (h : k < l.length) (hf : f l[k] = true) : l.any f = true := by
  rw [List.any_eq_true]; exact ⟨_, List.getElem_mem h, hf⟩
theorem any_next {l : List It} {f : It → Bool} {k : Nat} (h : k < l.length) (hp : (l.take k).any f = false) (hf : f l[k] = false) : (l.take (k + 1)).any f = false := by
  rw [List.take_succ_eq_append_getElem h, List.any_append, hp, Bool.false_or, List.any_cons, hf]; rfl
set_option maxRecDepth 100000 in
set_option maxHeartbeats 2000000 in
theorem refFits_any (b : Nat) (v : Value) (l : List It) (ver : Int) (w : World) (tab : TabAt w) (h : RdI w v l) (hsz : SzI l) (h100 : l.length ≤ 100) :
    Calls Tryz.prog 59 #[.int .i64 (b : Int), v, .int .i64 ver] w fun e w' => e = .returned (.bool (mayT (b : Int) l ver)) ∧ Below w.heap.size w w' := by
  obtain ⟨ao, cap, rfl, hc, hm, hr⟩ := RdK.open h
  have HRD := Lib.hid (show RdI w (.slice ao l.length cap) l from hr)
  have HS := Lib.hid hsz
  obtain ⟨R, hR⟩ : ∃ R, R = mayT (b : Int) l ver := ⟨_, rfl⟩
  rw [← hR]
  have HR := Lib.hid hR
  clear hr h hsz hR
  go_enter Tryz.func59, Tryz.ntmps59
  go_wp2_with fail
  go_loopw [7] (fun i wr => ∃ k : Nat, k ≤ l.length ∧ i = .int .i64 (k : Int) ∧ Hid ((l.take k).any (badI (b : Int) ver) = false) ∧ Below w.heap.size w wr) (fun i _ => 200 - (intOf i).toNat)
  case atStart => exact ⟨0, Nat.zero_le _, rfl, Lib.hid (by simp), Below.refl _ _⟩
  case round =>
    obtain ⟨k, hk, rfl, HA, bel⟩ := hrel
    by_cases hlt : k < l.length
    · have hr := HRD.out
      obtain ⟨bb, off, rfl, hb, c0, c1, c2, c3, c4⟩ := rdi_cells (hr.below bel (Nat.le_refl _)) k hlt
      obtain ⟨x, hx⟩ : ∃ x, x = l[k] := ⟨_, rfl⟩
      rw [← hx] at c0 c1 c2 c3 c4
      have hxk : x.key.length ≤ maxLen := by rw [hx]; exact (HS.out _ (List.getElem_mem _)).1
      have IS := (refIs_any x.key hxk).at wr (tab.below bel)
      obtain ⟨m, hm0⟩ : ∃ m, m = (x.key.getD 0 0).toNat := ⟨_, rfl⟩
      have BR := Lib.hid (bad_ref (b := b) (ver := ver) (x := x) hm0.symm)
      have hcc : ∀ h : 0 < (str x.key).size, ((str x.key)[0]'h).toNat = m := fun h => by rw [k8str_byte, hm0]
      have hz := str_size x.key
      have hm256 : m < 256 := by rw [hm0]; exact (x.key.getD 0 0).toNat_lt
      have HX := Lib.hid hx
      clear hm0 hx hr
      cases hi : isB x.key with
      | false =>
        have HB := Lib.hid (show R = false by
          have : badI (b : Int) ver x = true := by rw [BR.out, hi]; rfl
          have := any_at (f := badI (b : Int) ver) hlt (by rw [← HX.out]; exact this)
          rw [HR.out]; unfold mayT; rw [this, Bool.not_true, Bool.and_false])
        rw [hi] at IS
        clear hi
        go_wp2_with fail
        refine IS.mono ?_
        rintro e w2 ⟨rfl, g⟩
        have b2 := chain bel g
        clear IS g
        go_wp2_with fail
        go_ret
        exact ⟨by rw [HB.out]; rfl, b2⟩
      | true =>
        have h0 : 0 < x.key.length := by
          unfold isB at hi; simp only [Bool.and_eq_true, decide_eq_true_eq] at hi; exact hi.1
        rw [hi] at IS
        have BR2 := Lib.hid (show badI (b : Int) ver x = (((m : Int) % 16 != (b : Int)) || decide (ver < x.ver)) by rw [BR.out, hi]; rfl)
        clear hi
        cases hq : ((m : Int) % 16 != (b : Int)) with
        | true =>
          have HB := Lib.hid (show R = false by
            have : badI (b : Int) ver x = true := by rw [BR2.out, hq]; rfl
            have := any_at (f := badI (b : Int) ver) hlt (by rw [← HX.out]; exact this)
            rw [HR.out]; unfold mayT; rw [this, Bool.not_true, Bool.and_false])
          have hq2 : ((m : Int).tmod 16 != (b : Int)) = true := by rw [Int.tmod_eq_emod_of_nonneg (by omega)]; exact hq
          go_wp2_with fail
          refine IS.mono ?_
          rintro e w2 ⟨rfl, g⟩
          have b2 := chain bel g
          obtain ⟨bb', off', hbo, -, d0, d1, d2, d3, d4⟩ := rdi_cells (HRD.out.below b2 (Nat.le_refl _)) k hlt
          cases hbo
          rw [← HX.out] at d0 d1 d2 d3 d4
          clear IS g
          go_wp2_with fail
          go_ret
          exact ⟨by rw [HB.out]; rfl, b2⟩
        | false =>
          have hq2 : ((m : Int).tmod 16 != (b : Int)) = false := by rw [Int.tmod_eq_emod_of_nonneg (by omega)]; exact hq
          have BR3 := Lib.hid (show badI (b : Int) ver x = decide (ver < x.ver) by rw [BR2.out, hq]; rfl)
          by_cases hv : ver < x.ver
          · have HB := Lib.hid (show R = false by
              have : badI (b : Int) ver x = true := by rw [BR3.out, decide_eq_true_eq]; exact hv
              have := any_at (f := badI (b : Int) ver) hlt (by rw [← HX.out]; exact this)
              rw [HR.out]; unfold mayT; rw [this, Bool.not_true, Bool.and_false])
            have hv2 : decide (ver < x.ver) = true := by simpa using hv
            go_wp2_with fail
            refine IS.mono ?_
            rintro e w2 ⟨rfl, g⟩
            have b2 := chain bel g
            obtain ⟨bb', off', hbo, -, d0, d1, d2, d3, d4⟩ := rdi_cells (HRD.out.below b2 (Nat.le_refl _)) k hlt
            cases hbo
            rw [← HX.out] at d0 d1 d2 d3 d4
            clear IS g
            go_wp2_with fail
            go_ret
            exact ⟨by rw [HB.out]; rfl, b2⟩
          · have HN := Lib.hid (show (l.take (k + 1)).any (badI (b : Int) ver) = false from any_next hlt HA.out (by rw [← HX.out, BR3.out, decide_eq_false_iff_not]; exact hv))
            have hv2 : decide (ver < x.ver) = false := by simpa using hv
            go_wp2_with fail
            refine IS.mono ?_
            rintro e w2 ⟨rfl, g⟩
            have b2 := chain bel g
            obtain ⟨bb', off', hbo, -, d0, d1, d2, d3, d4⟩ := rdi_cells (HRD.out.below b2 (Nat.le_refl _)) k hlt
            cases hbo
            rw [← HX.out] at d0 d1 d2 d3 d4
            clear IS g
            go_wp2_with fail
            exact ⟨⟨k + 1, by omega, by push_cast; rfl, HN, b2⟩, by simp [intOf]; omega⟩
    · obtain rfl : k = l.length := by omega
      have IS := refIs9_any (.slice ao l.length cap) l wr (tab.below bel) (HRD.out.below bel (Nat.le_refl _)) HS.out
      have HE := Lib.hid (show R = (isL l && verB ver) by
        have h := HA.out
        rw [List.take_length] at h
        rw [HR.out]; unfold mayT; rw [h, Bool.not_false, Bool.and_true])
      obtain ⟨I, hI⟩ : ∃ I, I = isL l := ⟨_, rfl⟩
      rw [← hI] at IS HE
      clear hI
      have VB : verB ver = (decide (0 ≤ ver) && decide (ver ≤ 2147483647)) := rfl
      rw [VB] at HE
      clear VB
      cases I with
      | false =>
        have HF := Lib.hid (show R = false by rw [HE.out]; rfl)
        go_wp2_with fail
        refine IS.mono ?_
        rintro e w2 ⟨rfl, g⟩
        have b2 := chain bel g
        clear IS g
        go_wp2_with fail
        go_ret
        exact ⟨by rw [HF.out]; rfl, b2⟩
      | true =>
        by_cases h1 : 0 ≤ ver
        · have t1 : decide (0 ≤ ver) = true := by simpa using h1
          by_cases h2 : ver ≤ 2147483647
          · have t2 : decide (ver ≤ 2147483647) = true := by simpa using h2
            have HF := Lib.hid (show R = true by rw [HE.out, t1, t2]; rfl)
            go_wp2_with fail
            refine IS.mono ?_
            rintro e w2 ⟨rfl, g⟩
            have b2 := chain bel g
            clear IS g
            go_wp2_with fail
            go_ret
            exact ⟨by rw [HF.out]; rfl, b2⟩
          · have t2 : decide (ver ≤ 2147483647) = false := by simpa using h2
            have HF := Lib.hid (show R = false by rw [HE.out, t1, t2]; rfl)
            go_wp2_with fail
            refine IS.mono ?_
            rintro e w2 ⟨rfl, g⟩
            have b2 := chain bel g
            clear IS g
            go_wp2_with fail
            go_ret
            exact ⟨by rw [HF.out]; rfl, b2⟩
        · have t1 : decide (0 ≤ ver) = false := by simpa using h1
          have HF := Lib.hid (show R = false by rw [HE.out, t1]; rfl)
          go_wp2_with fail
          refine IS.mono ?_
          rintro e w2 ⟨rfl, g⟩
          have b2 := chain bel g
          clear IS g
          go_wp2_with fail
          go_ret
          exact ⟨by rw [HF.out]; rfl, b2⟩
set_option maxRecDepth 100000 in
set_option maxHeartbeats 2000000 in
theorem tmay_any (cs : Array Value) (lv : Nat → List It) (vs : Nat → Int) (w : World) (tab : TabAt w) (h : RdT w cs lv vs) (hsz : SzT lv) :
    Calls Tryz.prog 58 #[.agg cs] w fun e w' => e = .returned (.bool (mayTs lv vs 16)) ∧ Below w.heap.size w w' := by
  have hs := h.size
  have HT := Lib.hid h
  have HS := Lib.hid hsz
  obtain ⟨R, hR⟩ : ∃ R, R = mayTs lv vs 16 := ⟨_, rfl⟩
  rw [← hR]
  have HR := Lib.hid hR
  have q0 := heap_alloc_new w (.cells cs 27)
  have b0 := (Below.refl w.heap.size w).alloc (Nat.le_refl _) (.cells cs 27)
  have Q0 := Lib.hid q0
  have B0 := Lib.hid b0
  clear h hsz hR q0 b0
  go_enter Tryz.func58, Tryz.ntmps58
  go_wp2_with fail
  go_loopw [7] (fun i wr => ∃ k : Nat, k ≤ 16 ∧ i = .int .i64 (k : Int) ∧ Hid (mayTs lv vs k = true) ∧ Below (w.heap.size + 1) (w.alloc (.cells cs 27)) wr) (fun i _ => 20 - (intOf i).toNat)
  case atStart => exact ⟨0, Nat.zero_le _, rfl, Lib.hid rfl, by have := Below.refl (w.heap.size + 1) (w.alloc (.cells cs 27)); exact this⟩
  case round =>
    obtain ⟨k, hk, rfl, HA, bel⟩ := hrel
    have hsz1 : (w.alloc (.cells cs 27)).heap.size = w.heap.size + 1 := World.size_alloc _ _
    rw [← hsz1] at bel
    have bb := chain B0.out bel
    by_cases hlt : k < 16
    · have qk := (bel.block _ (lt_of_block Q0.out)).trans Q0.out
      obtain ⟨u, hu, hru⟩ := (HT.out.below bb (Nat.le_refl _)).leaf k hlt
      have hX := fun W => ix16 #[cs[0]'(by omega), cs[1]'(by omega), cs[2]'(by omega), cs[3]'(by omega), cs[4]'(by omega), cs[5]'(by omega), cs[6]'(by omega), cs[7]'(by omega), cs[8]'(by omega), cs[9]'(by omega), cs[10]'(by omega), cs[11]'(by omega), cs[12]'(by omega), cs[13]'(by omega), cs[14]'(by omega), cs[15]'(by omega)] k u hlt (by rw [lit16 cs hs k hlt]; exact hu) W
      have hv := (block_cell qk (16 + k)).trans (HT.out.ver k hlt)
      have hv2 : wr.cell? ⟨w.heap.size, k + 16, none⟩ = some (.int .i64 (vs k)) := by rw [Nat.add_comm]; exact hv
      have M := mayT_any (k : Int) u (lv k) (vs k) wr (tab.below bb) hru (HS.out k hlt)
      have HK := Lib.hid hk
      clear hru hu qk hsz1
      cases hm : mayT (k : Int) (lv k) (vs k) with
      | false =>
        have HF := Lib.hid (show R = false by rw [HR.out]; exact mayTs_no hlt hm)
        rw [hm] at M
        clear hm
        go_wp2_with fail
        refine M.mono ?_
        rintro e w2 ⟨rfl, g⟩
        have b2 := chain bb g
        clear M g
        go_wp2_with fail
        go_ret
        exact ⟨by rw [HF.out]; rfl, b2⟩
      | true =>
        have HN := Lib.hid (show mayTs lv vs (k + 1) = true by rw [mayTs_succ, HA.out, hm]; rfl)
        rw [hm] at M
        clear hm
        go_wp2_with fail
        refine M.mono ?_
        rintro e w2 ⟨rfl, g⟩
        have b2 := chain bel g
        clear M g hX hv hv2
        go_wp2_with fail
        exact ⟨⟨k + 1, by omega, by push_cast; rfl, HN, by rw [World.size_alloc] at b2; exact b2⟩, by simp [intOf]; omega⟩
    · obtain rfl : k = 16 := by omega
      go_wp2_with fail
      go_ret
      exact ⟨by rw [HR.out, HA.out]; rfl, bb⟩
set_option maxRecDepth 100000 in
set_option maxHeartbeats 2000000 in
theorem refTmay_any (cs : Array Value) (lv : Nat → List It) (vs : Nat → Int) (w : World) (tab : TabAt w) (h : RdT w cs lv vs) (hsz : SzT lv) (h100 : ∀ b, b < 16 → (lv b).length ≤ 100) :
    Calls Tryz.prog 14 #[.agg cs] w fun e w' => e = .returned (.bool (mayTs lv vs 16)) ∧ Below w.heap.size w w' := by
  have hs := h.size
  have HT := Lib.hid h
  have HS := Lib.hid hsz
  have H100 := Lib.hid h100
  obtain ⟨R, hR⟩ : ∃ R, R = mayTs lv vs 16 := ⟨_, rfl⟩
  rw [← hR]
  have HR := Lib.hid hR
  have q0 := heap_alloc_new w (.cells cs 27)
  have b0 := (Below.refl w.heap.size w).alloc (Nat.le_refl _) (.cells cs 27)
  have Q0 := Lib.hid q0
  have B0 := Lib.hid b0
  clear h hsz hR q0 b0 h100
  go_enter Tryz.func14, Tryz.ntmps14
  go_wp2_with fail
  go_loopw [3] (fun i wr => ∃ k : Nat, k ≤ 16 ∧ i = .int .i64 (k : Int) ∧ Hid (mayTs lv vs k = true) ∧ Below (w.heap.size + 1) (w.alloc (.cells cs 27)) wr) (fun i _ => 20 - (intOf i).toNat)
  case atStart => exact ⟨0, Nat.zero_le _, rfl, Lib.hid rfl, by have := Below.refl (w.heap.size + 1) (w.alloc (.cells cs 27)); exact this⟩
  case round =>
    obtain ⟨k, hk, rfl, HA, bel⟩ := hrel
    have hsz1 : (w.alloc (.cells cs 27)).heap.size = w.heap.size + 1 := World.size_alloc _ _
    rw [← hsz1] at bel
    have bb := chain B0.out bel
    by_cases hlt : k < 16
    · have qk := (bel.block _ (lt_of_block Q0.out)).trans Q0.out
      have hB := lt_of_block qk
      obtain ⟨u, hu, hru⟩ := (HT.out.below bb (Nat.le_refl _)).leaf k hlt
      have hk1 := (block_cell qk k).trans hu
      have hk2 := (block_cell qk (16 + k)).trans (HT.out.ver k hlt)
      have FT0 := fun W (g : Below wr.heap.size wr W) => refFits_any k u (lv k) (vs k) W ((tab.below bb).below g) (hru.below g (Nat.le_refl _)) (HS.out k hlt) (H100.out k hlt)
      have s1 : ((k : Int) + 16) = ((k + 16 : Nat) : Int) := by omega
      clear hu qk hsz1 hru s1
      cases hm : mayT (k : Int) (lv k) (vs k) with
      | false =>
        have HF := Lib.hid (show R = false by rw [HR.out]; exact mayTs_no hlt hm)
        rw [hm] at FT0
        have FT := Lib.hid FT0
        clear hm FT0
        go_wp2_with fail
        refine g_start (by kernel_rfl) ?_
        refine g_take (i := 0) (d := (some 8)) (v := ?_) rfl rfl (by kernel_rfl) (fun _ _ _ h => h) (by rfl) (fun w' hb' => ?_) ?_
        rotate_left
        · (try go_simp); (try with_reducible rfl)
        try simp only [Act.put, List.setIfInBounds_toArray, List.set_cons_zero, List.set_cons_succ]
        refine g_take (i := 1) (d := (some 9)) (v := ?_) rfl rfl (by kernel_rfl) (fun _ _ _ h => h) (by rfl) (fun w' hb' => ?_) ?_
        rotate_left
        · (try go_simp); (try with_reducible rfl)
        try simp only [Act.put, List.setIfInBounds_toArray, List.set_cons_zero, List.set_cons_succ]
        refine g_take (i := 2) (d := (some 10)) (v := ?_) rfl rfl (by kernel_rfl) (fun _ _ _ h => h) (by rfl) (fun w' hb' => ?_) ?_
        rotate_left
        · (try go_simp); (try with_reducible rfl)
        try simp only [Act.put, List.setIfInBounds_toArray, List.set_cons_zero, List.set_cons_succ]
        refine g_take (i := 3) (d := (some 11)) (v := ?_) rfl rfl (by kernel_rfl) (fun _ _ _ h => h) (by rfl) (fun w' hb' => ?_) ?_
        rotate_left
        · (try go_simp); (try with_reducible rfl)
        try simp only [Act.put, List.setIfInBounds_toArray, List.set_cons_zero, List.set_cons_succ]
        refine g_take (i := 4) (d := (some 12)) (v := ?_) rfl rfl (by kernel_rfl) (fun _ _ _ h => h) (by rfl) (fun w' hb' => ?_) ?_
        rotate_left
        · have zz := (hb'.cell (p := ⟨w.heap.size, k, none⟩) hB).trans hk1; (try go_simp); (try with_reducible rfl)
        try simp only [Act.put, List.setIfInBounds_toArray, List.set_cons_zero, List.set_cons_succ]
        refine g_take (i := 5) (d := (some 13)) (v := ?_) rfl rfl (by kernel_rfl) (fun _ _ _ h => h) (by rfl) (fun w' hb' => ?_) ?_
        rotate_left
        · (try go_simp); (try with_reducible rfl)
        try simp only [Act.put, List.setIfInBounds_toArray, List.set_cons_zero, List.set_cons_succ]
        refine g_take (i := 6) (d := (some 14)) (v := ?_) rfl rfl (by kernel_rfl) (fun _ _ _ h => h) (by rfl) (fun w' hb' => ?_) ?_
        rotate_left
        · (try go_simp); (try with_reducible rfl)
        try simp only [Act.put, List.setIfInBounds_toArray, List.set_cons_zero, List.set_cons_succ]
        refine g_take (i := 7) (d := (some 15)) (v := ?_) rfl rfl (by kernel_rfl) (fun _ _ _ h => h) (by rfl) (fun w' hb' => ?_) ?_
        rotate_left
        · (try go_simp); (try with_reducible rfl)
        try simp only [Act.put, List.setIfInBounds_toArray, List.set_cons_zero, List.set_cons_succ]
        refine g_take (i := 8) (d := (some 16)) (v := ?_) rfl rfl (by kernel_rfl) (fun _ _ _ h => h) (by rfl) (fun w' hb' => ?_) ?_
        rotate_left
        · have zz := (hb'.cell (p := ⟨w.heap.size, 16 + k, none⟩) hB).trans hk2; have zy := zz; rw [Nat.add_comm 16 k] at zy; (try go_simp); (try with_reducible rfl)
        try simp only [Act.put, List.setIfInBounds_toArray, List.set_cons_zero, List.set_cons_succ]
        refine g_run (i := 9) rfl (by kernel_rfl) (by rfl) (fun K hK => ?_)
        go_simp; refine (FT.out _ (Below.drew (Below.refl _ _))).mono ?_; rintro e w2 ⟨rfl, g⟩; have b2 := chain bel (Below.trans (Below.drew (Below.refl wr.heap.size wr)) g); refine hK _ _ ⟨g, ?_⟩; clear hK K g
        try simp only [Act.put, List.setIfInBounds_toArray, List.set_cons_zero, List.set_cons_succ]
        refine g_take (i := 10) (d := (some 18)) (v := ?_) rfl rfl (by kernel_rfl) (fun _ _ _ h => h) (by rfl) (fun w' hb' => ?_) ?_
        rotate_left
        · (try go_simp); (try with_reducible rfl)
        try simp only [Act.put, List.setIfInBounds_toArray, List.set_cons_zero, List.set_cons_succ]
        refine g_done (by kernel_rfl) ?_
        have b3 := chain B0.out b2
        go_wp2_with fail
        go_ret
        exact ⟨by rw [HF.out]; rfl, b3⟩
      | true =>
        have HN := Lib.hid (show mayTs lv vs (k + 1) = true by rw [mayTs_succ, HA.out, hm]; rfl)
        rw [hm] at FT0
        have FT := Lib.hid FT0
        clear hm FT0
        go_wp2_with fail
        refine g_start (by kernel_rfl) ?_
        refine g_take (i := 0) (d := (some 8)) (v := ?_) rfl rfl (by kernel_rfl) (fun _ _ _ h => h) (by rfl) (fun w' hb' => ?_) ?_
        rotate_left
        · (try go_simp); (try with_reducible rfl)
        try simp only [Act.put, List.setIfInBounds_toArray, List.set_cons_zero, List.set_cons_succ]
        refine g_take (i := 1) (d := (some 9)) (v := ?_) rfl rfl (by kernel_rfl) (fun _ _ _ h => h) (by rfl) (fun w' hb' => ?_) ?_
        rotate_left
        · (try go_simp); (try with_reducible rfl)
        try simp only [Act.put, List.setIfInBounds_toArray, List.set_cons_zero, List.set_cons_succ]
        refine g_take (i := 2) (d := (some 10)) (v := ?_) rfl rfl (by kernel_rfl) (fun _ _ _ h => h) (by rfl) (fun w' hb' => ?_) ?_
        rotate_left
        · (try go_simp); (try with_reducible rfl)
        try simp only [Act.put, List.setIfInBounds_toArray, List.set_cons_zero, List.set_cons_succ]
        refine g_take (i := 3) (d := (some 11)) (v := ?_) rfl rfl (by kernel_rfl) (fun _ _ _ h => h) (by rfl) (fun w' hb' => ?_) ?_
        rotate_left
        · (try go_simp); (try with_reducible rfl)
        try simp only [Act.put, List.setIfInBounds_toArray, List.set_cons_zero, List.set_cons_succ]
        refine g_take (i := 4) (d := (some 12)) (v := ?_) rfl rfl (by kernel_rfl) (fun _ _ _ h => h) (by rfl) (fun w' hb' => ?_) ?_
        rotate_left
        · have zz := (hb'.cell (p := ⟨w.heap.size, k, none⟩) hB).trans hk1; (try go_simp); (try with_reducible rfl)
        try simp only [Act.put, List.setIfInBounds_toArray, List.set_cons_zero, List.set_cons_succ]
        refine g_take (i := 5) (d := (some 13)) (v := ?_) rfl rfl (by kernel_rfl) (fun _ _ _ h => h) (by rfl) (fun w' hb' => ?_) ?_
        rotate_left
        · (try go_simp); (try with_reducible rfl)
        try simp only [Act.put, List.setIfInBounds_toArray, List.set_cons_zero, List.set_cons_succ]
        refine g_take (i := 6) (d := (some 14)) (v := ?_) rfl rfl (by kernel_rfl) (fun _ _ _ h => h) (by rfl) (fun w' hb' => ?_) ?_
        rotate_left
        · (try go_simp); (try with_reducible rfl)
        try simp only [Act.put, List.setIfInBounds_toArray, List.set_cons_zero, List.set_cons_succ]
        refine g_take (i := 7) (d := (some 15)) (v := ?_) rfl rfl (by kernel_rfl) (fun _ _ _ h => h) (by rfl) (fun w' hb' => ?_) ?_
        rotate_left
        · (try go_simp); (try with_reducible rfl)
        try simp only [Act.put, List.setIfInBounds_toArray, List.set_cons_zero, List.set_cons_succ]
        refine g_take (i := 8) (d := (some 16)) (v := ?_) rfl rfl (by kernel_rfl) (fun _ _ _ h => h) (by rfl) (fun w' hb' => ?_) ?_
        rotate_left
        · have zz := (hb'.cell (p := ⟨w.heap.size, 16 + k, none⟩) hB).trans hk2; have zy := zz; rw [Nat.add_comm 16 k] at zy; (try go_simp); (try with_reducible rfl)
        try simp only [Act.put, List.setIfInBounds_toArray, List.set_cons_zero, List.set_cons_succ]
        refine g_run (i := 9) rfl (by kernel_rfl) (by rfl) (fun K hK => ?_)
        go_simp; refine (FT.out _ (Below.drew (Below.refl _ _))).mono ?_; rintro e w2 ⟨rfl, g⟩; have b2 := chain bel (Below.trans (Below.drew (Below.refl wr.heap.size wr)) g); refine hK _ _ ⟨g, ?_⟩; clear hK K g
        try simp only [Act.put, List.setIfInBounds_toArray, List.set_cons_zero, List.set_cons_succ]
        refine g_take (i := 10) (d := (some 18)) (v := ?_) rfl rfl (by kernel_rfl) (fun _ _ _ h => h) (by rfl) (fun w' hb' => ?_) ?_
        rotate_left
        · (try go_simp); (try with_reducible rfl)
        try simp only [Act.put, List.setIfInBounds_toArray, List.set_cons_zero, List.set_cons_succ]
        refine g_done (by kernel_rfl) ?_
        clear hk1 hk2
        go_wp2_with fail
        exact ⟨⟨k + 1, by omega, by push_cast; rfl, HN, by rw [World.size_alloc] at b2; exact b2⟩, by simp [intOf]; omega⟩
    · obtain rfl : k = 16 := by omega
      go_wp2_with fail
      go_ret
      exact ⟨by rw [HR.out, HA.out]; rfl, bb⟩
end Go.Proofs.YtoagdmglchccnaaGreatDoor
