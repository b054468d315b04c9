/- Clash: which wants may be, which of them clash, by the document. Written by wip/tools/gen23c.py. -/
import Derived.Test.YtjmfiekgpoonjaaDoorQLGC11
import Derived.Test.YtjmfiekgpoonjaaDoorQLGC6
namespace Go.Proofs.YtjmfiekgpoonjaaDoor
open Go Go.RowKit
set_option linter.unusedVariables false
set_option linter.unusedSimpArgs false
theorem all_snoc (p : List UInt8 → Bool) (l : List (List UInt8)) (k : Nat) (hk : k < l.length) (h : (l.take k).all p = true) : (l.take (k + 1)).all p = p l[k] := by
  rw [List.take_succ_eq_append_getElem hk, List.all_append, h]; simp
set_option maxRecDepth 100000 in
theorem rmeet_any (a b : List UInt8) (ha : a.length ≤ maxLen) (hb : b.length ≤ maxLen) (w : World) (tab : TabAt w) : Calls Tryd.prog 58 #[.string (str a), .string (str b)] w fun e w' => e = .returned (.bool (mtR a b)) ∧ Below w.heap.size w w' := by
  have A1 := fun W (g : Below w.heap.size w W) => (begins_any a b ha hb).ret.at W (tab.below g)
  have A2 := fun W (g : Below w.heap.size w W) => (begins_any b a hb ha).ret.at W (tab.below g)
  rw [show mtR a b = (Lib.hasPrefix a b || Lib.hasPrefix b a) from rfl]
  generalize Lib.hasPrefix a b = R1 at A1 ⊢
  generalize Lib.hasPrefix b a = R2 at A2 ⊢
  have H1 := Lib.hid A1
  have H2 := Lib.hid A2
  have bel := Below.refl w.heap.size w
  clear A1 A2 tab
  cases R1 <;> cases R2
  all_goals
    go_enter Tryd.func58, Tryd.ntmps58
    go_wp2_with (first | ((with_reducible refine (H1.out _ bel).mono ?_); rintro e w1 ⟨rfl, g⟩; have bel := chain bel g; clear g) | ((with_reducible refine (H2.out _ bel).mono ?_); rintro e w1 ⟨rfl, g⟩; have bel := chain bel g; clear g))
    go_ret
    exact ⟨rfl, bel⟩
set_option maxRecDepth 100000 in
set_option maxHeartbeats 1000000 in
theorem pats_any (v : Value) (l : List (List UInt8)) (w : World) (tab : TabAt w) (h : RdS w v l) (hz : SzS l) :
    Calls Tryd.prog 57 #[v] w fun e w' => e = .returned (.bool (l.all patB)) ∧ Below w.heap.size w w' := by
  obtain ⟨ao, cap, rfl, hc1, hc2, hr⟩ := h.open
  have HRD := Lib.hid hr
  have PA := Lib.hid (fun (s : List UInt8) (hs : s ∈ l) W (g : Below w.heap.size w W) => (refPattern_any s (hz s hs)).ret.at W (tab.below g))
  obtain ⟨R, hR⟩ : ∃ R, R = l.all patB := ⟨_, rfl⟩
  rw [← hR]
  have HR := Lib.hid hR
  clear hR hr h hz tab
  go_enter Tryd.func57, Tryd.ntmps57
  go_wp2_with fail
  go_loopw [3] (fun i wr => ∃ k : Nat, k ≤ l.length ∧ i = .int .i64 (k : Int) ∧ Hid ((l.take k).all patB = true) ∧ Below w.heap.size w wr) (fun i _ => l.length - (intOf i).toNat)
  case atStart => exact ⟨0, Nat.zero_le _, rfl, Lib.hid (by simp), Below.refl _ _⟩
  case round =>
    obtain ⟨k, hk, rfl, HA, bel⟩ := hrel
    by_cases hlt : k < l.length
    · obtain ⟨bb, off, rfl, hb, c0⟩ := (HRD.out.below bel (Nat.le_refl _)).cell k hlt
      obtain ⟨x, hx⟩ : ∃ x, x = l[k] := ⟨_, rfl⟩
      rw [← hx] at c0
      have hmem : x ∈ l := by rw [hx]; exact List.getElem_mem _
      have MA := PA.out x hmem wr bel
      have HT := Lib.hid (show (l.take (k + 1)).all patB = patB x by rw [hx]; exact all_snoc patB l k hlt HA.out)
      obtain ⟨B, hB⟩ : ∃ B, B = patB x := ⟨_, rfl⟩
      have HB := Lib.hid hB
      rw [← hB] at MA
      have HM := Lib.hid MA
      clear hx hB MA
      cases B with
      | false =>
        have HF := Lib.hid (show R = false by rw [HR.out, List.all_eq_false]; exact ⟨x, hmem, by rw [← HB.out]; simp⟩)
        clear hmem
        go_wp2_with ((with_reducible refine (HM.out).mono ?_); rintro e w2 ⟨rfl, g⟩; have bel := chain bel g; clear g)
        go_ret
        exact ⟨by rw [HF.out]; first | done | rfl, bel⟩
      | true =>
        have HF := Lib.hid (show (l.take (k + 1)).all patB = true by rw [HT.out, ← HB.out])
        clear hmem
        go_wp2_with ((with_reducible refine (HM.out).mono ?_); rintro e w2 ⟨rfl, g⟩; have bel := chain bel g; clear g)
        exact ⟨⟨k + 1, by omega, by push_cast; rfl, HF, bel⟩, by simp [intOf]; omega⟩
    · obtain rfl : k = l.length := by omega
      have HF := Lib.hid (show R = true by have h := HA.out; rw [List.take_length] at h; rw [HR.out, h])
      go_wp2_with fail
      go_ret
      exact ⟨by rw [HF.out]; first | done | rfl, bel⟩
set_option maxRecDepth 100000 in
theorem rmay_any (vr vw : Value) (a : Wt) (w : World) (tab : TabAt w) (hr : RdS w vr a.r) (hw : RdS w vw a.w) (hz : SzW a) :
    Calls Tryd.prog 38 #[.agg #[vr, vw]] w fun e w' => e = .returned (.bool (mayW a)) ∧ Below w.heap.size w w' := by
  have A1 := fun W (g : Below w.heap.size w W) => pats_any vr a.r W (tab.below g) (hr.below g (Nat.le_refl _)) hz.1
  have A2 := fun W (g : Below w.heap.size w W) => pats_any vw a.w W (tab.below g) (hw.below g (Nat.le_refl _)) hz.2
  rw [show mayW a = (a.r.all patB && a.w.all patB) from rfl]
  generalize a.r.all patB = R1 at A1 ⊢
  generalize a.w.all patB = R2 at A2 ⊢
  have H1 := Lib.hid A1
  have H2 := Lib.hid A2
  have q1 := heap_alloc_new w (.cells #[vr, vw] 24)
  have bel := (Below.refl w.heap.size w).alloc (Nat.le_refl _) (.cells #[vr, vw] 24)
  obtain ⟨c0, c1, cf⟩ := block_cells2 q1
  clear A1 A2 hr hw hz tab
  cases R1 <;> cases R2
  all_goals
    go_enter Tryd.func38, Tryd.ntmps38
    go_wp2_with (first | ((with_reducible refine (H1.out _ bel).mono ?_); rintro e w1 ⟨rfl, g⟩; have bel := chain bel g; have q1 := (g.block _ (lt_of_block q1)).trans q1; obtain ⟨c0, c1, cf⟩ := block_cells2 q1; clear g) | ((with_reducible refine (H2.out _ bel).mono ?_); rintro e w1 ⟨rfl, g⟩; have bel := chain bel g; clear g))
    go_ret
    exact ⟨rfl, bel⟩
set_option maxRecDepth 100000 in
set_option maxHeartbeats 1000000 in
theorem some_any (va vb : Value) (a b : List (List UInt8)) (w : World) (tab : TabAt w) (ha : RdS w va a) (hb : RdS w vb b) (za : SzS a) (zb : SzS b) :
    Calls Tryd.prog 39 #[va, vb] w fun e w' => e = .returned (.bool (someR a b)) ∧ Below w.heap.size w w' := by
  obtain ⟨aa, capa, rfl, ha1, ha2, ra⟩ := ha.open
  obtain ⟨ab, capb, rfl, hb1, hb2, rb⟩ := hb.open
  have HA := Lib.hid ra
  have HB := Lib.hid rb
  have RM := Lib.hid (fun (s : List UInt8) (hs : s ∈ a) (t : List UInt8) (ht : t ∈ b) W (g : Below w.heap.size w W) => rmeet_any s t (za s hs) (zb t ht) W (tab.below g))
  obtain ⟨R, hR⟩ : ∃ R, R = someR a b := ⟨_, rfl⟩
  rw [← hR]
  have HR := Lib.hid hR
  clear hR ra rb ha hb za zb tab
  go_enter Tryd.func39, Tryd.ntmps39
  go_wp2_with fail
  go_loopw [5] (fun i wr => ∃ i' : Nat, i' ≤ a.length ∧ i = .int .i64 (i' : Int) ∧ Hid ((a.take i').any (fun p => b.any fun q => mtR p q) = false) ∧ Below w.heap.size w wr) (fun i _ => a.length - (intOf i).toNat)
  case atStart => exact ⟨0, Nat.zero_le _, rfl, Lib.hid (by simp), Below.refl _ _⟩
  case round =>
    obtain ⟨i, hi, rfl, HAA, bel⟩ := hrel
    by_cases hlt : i < a.length
    · obtain ⟨x, hx⟩ : ∃ x, x = a[i] := ⟨_, rfl⟩
      have hmx : x ∈ a := by rw [hx]; exact List.getElem_mem _
      have HX := Lib.hid hx
      have HT := Lib.hid (show (a.take (i + 1)).any (fun p => b.any fun q => mtR p q) = b.any fun q => mtR x q by rw [hx]; exact any_snoc (fun p => b.any fun q => mtR p q) a i hlt HAA.out)
      have hlti : (i : Int) < (a.length : Int) := by omega
      clear hx
      obtain ⟨wo, hwo⟩ : ∃ wo : World, wo = wr := ⟨_, rfl⟩
      subst hwo
      have BO := Lib.hid bel
      clear bel
      go_wp2_with fail
      go_loopw [6] (fun q wr => ∃ k : Nat, k ≤ b.length ∧ q = .int .i64 (k : Int) ∧ Hid ((b.take k).any (fun q => mtR x q) = false) ∧ Below w.heap.size w wr) (fun q _ => b.length - (intOf q).toNat)
      case atStart => exact ⟨0, Nat.zero_le _, rfl, Lib.hid (by simp), BO.out⟩
      case round =>
        obtain ⟨k, hk, rfl, HBB, bel⟩ := hrel
        by_cases hlk : k < b.length
        · obtain ⟨y, hy⟩ : ∃ y, y = b[k] := ⟨_, rfl⟩
          have hmy : y ∈ b := by rw [hy]; exact List.getElem_mem _
          have HTT := Lib.hid (show (b.take (k + 1)).any (fun q => mtR x q) = mtR x y by rw [hy]; exact any_snoc (fun q => mtR x q) b k hlk HBB.out)
          obtain ⟨ba, offa, rfl, la, cA⟩ := (HA.out.below bel (Nat.le_refl _)).cell i hlt
          obtain ⟨bb, offb, rfl, lb, cB⟩ := (HB.out.below bel (Nat.le_refl _)).cell k hlk
          rw [← HX.out] at cA
          rw [← hy] at cB
          have MT0 := RM.out x hmx y hmy
          obtain ⟨B, hB⟩ : ∃ B, B = mtR x y := ⟨_, rfl⟩
          rw [← hB] at MT0
          have HBv := Lib.hid hB
          have MT := Lib.hid MT0
          have hlki : (k : Int) < (b.length : Int) := by omega
          clear hy hB MT0
          cases B with
          | true =>
            have HF := Lib.hid (show R = true by rw [HR.out]; unfold someR; rw [List.any_eq_true]; exact ⟨x, hmx, by rw [List.any_eq_true]; exact ⟨y, hmy, HBv.out.symm⟩⟩)
            clear hmx hmy
            go_wp2_with fail
            refine g_start (by kernel_rfl) ?_
            refine g_take (i := 0) (d := (some 19)) (v := ?_) rfl rfl (by kernel_rfl) (fun _ _ _ h => h) (by rfl) (fun w' hb' => ?_) ?_
            rotate_left
            · (try go_simp); (try with_reducible rfl)
            try simp only [Act.put, List.setIfInBounds_toArray, List.set_cons_zero, List.set_cons_succ]
            refine g_take (i := 1) (d := (some 20)) (v := ?_) rfl rfl (by kernel_rfl) (fun _ _ _ h => h) (by rfl) (fun w' hb' => ?_) ?_
            rotate_left
            · (try go_simp); (try with_reducible rfl)
            try simp only [Act.put, List.setIfInBounds_toArray, List.set_cons_zero, List.set_cons_succ]
            refine g_take (i := 2) (d := (some 21)) (v := ?_) rfl rfl (by kernel_rfl) (fun _ _ _ h => h) (by rfl) (fun w' hb' => ?_) ?_
            rotate_left
            · (try go_simp); (try with_reducible rfl)
            try simp only [Act.put, List.setIfInBounds_toArray, List.set_cons_zero, List.set_cons_succ]
            refine g_take (i := 3) (d := (some 22)) (v := ?_) rfl rfl (by kernel_rfl) (fun _ _ _ h => h) (by rfl) (fun w' hb' => ?_) ?_
            rotate_left
            · have c0 := (hb'.cell (p := ⟨ba, offa + i, none⟩) la).trans cA; (try go_simp); (try with_reducible rfl)
            try simp only [Act.put, List.setIfInBounds_toArray, List.set_cons_zero, List.set_cons_succ]
            refine g_take (i := 4) (d := (some 23)) (v := ?_) rfl rfl (by kernel_rfl) (fun _ _ _ h => h) (by rfl) (fun w' hb' => ?_) ?_
            rotate_left
            · (try go_simp); (try with_reducible rfl)
            try simp only [Act.put, List.setIfInBounds_toArray, List.set_cons_zero, List.set_cons_succ]
            refine g_take (i := 5) (d := (some 24)) (v := ?_) rfl rfl (by kernel_rfl) (fun _ _ _ h => h) (by rfl) (fun w' hb' => ?_) ?_
            rotate_left
            · (try go_simp); (try with_reducible rfl)
            try simp only [Act.put, List.setIfInBounds_toArray, List.set_cons_zero, List.set_cons_succ]
            refine g_take (i := 6) (d := (some 25)) (v := ?_) rfl rfl (by kernel_rfl) (fun _ _ _ h => h) (by rfl) (fun w' hb' => ?_) ?_
            rotate_left
            · (try go_simp); (try with_reducible rfl)
            try simp only [Act.put, List.setIfInBounds_toArray, List.set_cons_zero, List.set_cons_succ]
            refine g_take (i := 7) (d := (some 26)) (v := ?_) rfl rfl (by kernel_rfl) (fun _ _ _ h => h) (by rfl) (fun w' hb' => ?_) ?_
            rotate_left
            · have c0 := (hb'.cell (p := ⟨bb, offb + k, none⟩) lb).trans cB; (try go_simp); (try with_reducible rfl)
            try simp only [Act.put, List.setIfInBounds_toArray, List.set_cons_zero, List.set_cons_succ]
            refine g_run (i := 8) rfl (by kernel_rfl) (by rfl) (fun K hK => ?_)
            go_simp; refine (MT.out _ (Below.drew bel)).mono ?_; rintro e w1 ⟨rfl, g⟩; have bel := chain (Below.drew bel) g; refine hK _ _ ⟨g, ?_⟩; clear hK K g
            try simp only [Act.put, List.setIfInBounds_toArray, List.set_cons_zero, List.set_cons_succ]
            refine g_done (by kernel_rfl) ?_
            go_wp2_with fail
            go_ret
            exact ⟨by rw [HF.out]; first | done | rfl, bel⟩
          | false =>
            have HF := Lib.hid (show (b.take (k + 1)).any (fun q => mtR x q) = false by rw [HTT.out, ← HBv.out])
            clear hmx hmy
            go_wp2_with fail
            refine g_start (by kernel_rfl) ?_
            refine g_take (i := 0) (d := (some 19)) (v := ?_) rfl rfl (by kernel_rfl) (fun _ _ _ h => h) (by rfl) (fun w' hb' => ?_) ?_
            rotate_left
            · (try go_simp); (try with_reducible rfl)
            try simp only [Act.put, List.setIfInBounds_toArray, List.set_cons_zero, List.set_cons_succ]
            refine g_take (i := 1) (d := (some 20)) (v := ?_) rfl rfl (by kernel_rfl) (fun _ _ _ h => h) (by rfl) (fun w' hb' => ?_) ?_
            rotate_left
            · (try go_simp); (try with_reducible rfl)
            try simp only [Act.put, List.setIfInBounds_toArray, List.set_cons_zero, List.set_cons_succ]
            refine g_take (i := 2) (d := (some 21)) (v := ?_) rfl rfl (by kernel_rfl) (fun _ _ _ h => h) (by rfl) (fun w' hb' => ?_) ?_
            rotate_left
            · (try go_simp); (try with_reducible rfl)
            try simp only [Act.put, List.setIfInBounds_toArray, List.set_cons_zero, List.set_cons_succ]
            refine g_take (i := 3) (d := (some 22)) (v := ?_) rfl rfl (by kernel_rfl) (fun _ _ _ h => h) (by rfl) (fun w' hb' => ?_) ?_
            rotate_left
            · have c0 := (hb'.cell (p := ⟨ba, offa + i, none⟩) la).trans cA; (try go_simp); (try with_reducible rfl)
            try simp only [Act.put, List.setIfInBounds_toArray, List.set_cons_zero, List.set_cons_succ]
            refine g_take (i := 4) (d := (some 23)) (v := ?_) rfl rfl (by kernel_rfl) (fun _ _ _ h => h) (by rfl) (fun w' hb' => ?_) ?_
            rotate_left
            · (try go_simp); (try with_reducible rfl)
            try simp only [Act.put, List.setIfInBounds_toArray, List.set_cons_zero, List.set_cons_succ]
            refine g_take (i := 5) (d := (some 24)) (v := ?_) rfl rfl (by kernel_rfl) (fun _ _ _ h => h) (by rfl) (fun w' hb' => ?_) ?_
            rotate_left
            · (try go_simp); (try with_reducible rfl)
            try simp only [Act.put, List.setIfInBounds_toArray, List.set_cons_zero, List.set_cons_succ]
            refine g_take (i := 6) (d := (some 25)) (v := ?_) rfl rfl (by kernel_rfl) (fun _ _ _ h => h) (by rfl) (fun w' hb' => ?_) ?_
            rotate_left
            · (try go_simp); (try with_reducible rfl)
            try simp only [Act.put, List.setIfInBounds_toArray, List.set_cons_zero, List.set_cons_succ]
            refine g_take (i := 7) (d := (some 26)) (v := ?_) rfl rfl (by kernel_rfl) (fun _ _ _ h => h) (by rfl) (fun w' hb' => ?_) ?_
            rotate_left
            · have c0 := (hb'.cell (p := ⟨bb, offb + k, none⟩) lb).trans cB; (try go_simp); (try with_reducible rfl)
            try simp only [Act.put, List.setIfInBounds_toArray, List.set_cons_zero, List.set_cons_succ]
            refine g_run (i := 8) rfl (by kernel_rfl) (by rfl) (fun K hK => ?_)
            go_simp; refine (MT.out _ (Below.drew bel)).mono ?_; rintro e w1 ⟨rfl, g⟩; have bel := chain (Below.drew bel) g; refine hK _ _ ⟨g, ?_⟩; clear hK K g
            try simp only [Act.put, List.setIfInBounds_toArray, List.set_cons_zero, List.set_cons_succ]
            refine g_done (by kernel_rfl) ?_
            go_wp2_with fail
            exact ⟨⟨k + 1, by omega, by push_cast; rfl, HF, bel⟩, by simp [intOf]; omega⟩
        · obtain rfl : k = b.length := by omega
          have HF := Lib.hid (show (a.take (i + 1)).any (fun p => b.any fun q => mtR p q) = false by have h := HBB.out; rw [List.take_length] at h; rw [HT.out, h])
          go_wp2_with fail
          exact ⟨⟨i + 1, by omega, by push_cast; rfl, HF, bel⟩, by simp [intOf]; omega⟩
    · obtain rfl : i = a.length := by omega
      have HF := Lib.hid (show R = false by have h := HAA.out; rw [List.take_length] at h; rw [HR.out]; exact h)
      go_wp2_with fail
      go_ret
      exact ⟨by rw [HF.out]; first | done | rfl, bel⟩
set_option maxRecDepth 100000 in
set_option maxHeartbeats 2000000 in
theorem rpair_any (ar aw br bw : Value) (a b : Wt) (w : World) (tab : TabAt w) (h1 : RdS w ar a.r) (h2 : RdS w aw a.w) (h3 : RdS w br b.r) (h4 : RdS w bw b.w) (za : SzW a) (zb : SzW b) :
    Calls Tryd.prog 10 #[.agg #[ar, aw], .agg #[br, bw]] w fun e w' => e = .returned (.bool (pairW a b)) ∧ Below w.heap.size w w' := by
  rw [← pairR_eq]
  have A1 := fun W (g : Below w.heap.size w W) => rmay_any ar aw a W (tab.below g) (h1.below g (Nat.le_refl _)) (h2.below g (Nat.le_refl _)) za
  have A2 := fun W (g : Below w.heap.size w W) => rmay_any br bw b W (tab.below g) (h3.below g (Nat.le_refl _)) (h4.below g (Nat.le_refl _)) zb
  have A3 := fun W (g : Below w.heap.size w W) => some_any aw bw a.w b.w W (tab.below g) (h2.below g (Nat.le_refl _)) (h4.below g (Nat.le_refl _)) za.2 zb.2
  have A4 := fun W (g : Below w.heap.size w W) => some_any aw br a.w b.r W (tab.below g) (h2.below g (Nat.le_refl _)) (h3.below g (Nat.le_refl _)) za.2 zb.1
  have A5 := fun W (g : Below w.heap.size w W) => some_any ar bw a.r b.w W (tab.below g) (h1.below g (Nat.le_refl _)) (h4.below g (Nat.le_refl _)) za.1 zb.2
  rw [show pairR a b = (mayW a && mayW b && (someR a.w b.w || someR a.w b.r || someR a.r b.w)) from rfl]
  generalize mayW a = R1 at A1 ⊢
  generalize mayW b = R2 at A2 ⊢
  generalize someR a.w b.w = R3 at A3 ⊢
  generalize someR a.w b.r = R4 at A4 ⊢
  generalize someR a.r b.w = R5 at A5 ⊢
  have H1 := Lib.hid A1
  have H2 := Lib.hid A2
  have H3 := Lib.hid A3
  have H4 := Lib.hid A4
  have H5 := Lib.hid A5
  obtain ⟨q1, q2, -, -⟩ := two_allocs w (.cells #[ar, aw] 24) (.cells #[br, bw] 24)
  have bel := ((Below.refl w.heap.size w).alloc (Nat.le_refl _) (.cells #[ar, aw] 24)).alloc (by simp) (.cells #[br, bw] 24)
  obtain ⟨c0, c1, cf⟩ := block_cells2 q1
  obtain ⟨d0, d1, df⟩ := block_cells2 q2
  clear A1 A2 A3 A4 A5 h1 h2 h3 h4 za zb tab
  cases R1 with
  | false =>
    go_enter Tryd.func10, Tryd.ntmps10
    go_wp2_with (first | ((with_reducible refine (H1.out _ bel).mono ?_); rintro e w1 ⟨rfl, g⟩; have bel := chain bel g; have q1 := (g.block _ (lt_of_block q1)).trans q1; obtain ⟨c0, c1, cf⟩ := block_cells2 q1; have q2 := (g.block _ (lt_of_block q2)).trans q2; obtain ⟨d0, d1, df⟩ := block_cells2 q2; clear g) | ((with_reducible refine (H2.out _ bel).mono ?_); rintro e w1 ⟨rfl, g⟩; have bel := chain bel g; have q1 := (g.block _ (lt_of_block q1)).trans q1; obtain ⟨c0, c1, cf⟩ := block_cells2 q1; have q2 := (g.block _ (lt_of_block q2)).trans q2; obtain ⟨d0, d1, df⟩ := block_cells2 q2; clear g) | ((with_reducible refine (H3.out _ bel).mono ?_); rintro e w1 ⟨rfl, g⟩; have bel := chain bel g; have q1 := (g.block _ (lt_of_block q1)).trans q1; obtain ⟨c0, c1, cf⟩ := block_cells2 q1; have q2 := (g.block _ (lt_of_block q2)).trans q2; obtain ⟨d0, d1, df⟩ := block_cells2 q2; clear g) | ((with_reducible refine (H4.out _ bel).mono ?_); rintro e w1 ⟨rfl, g⟩; have bel := chain bel g; have q1 := (g.block _ (lt_of_block q1)).trans q1; obtain ⟨c0, c1, cf⟩ := block_cells2 q1; have q2 := (g.block _ (lt_of_block q2)).trans q2; obtain ⟨d0, d1, df⟩ := block_cells2 q2; clear g) | ((with_reducible refine (H5.out _ bel).mono ?_); rintro e w1 ⟨rfl, g⟩; have bel := chain bel g; have q1 := (g.block _ (lt_of_block q1)).trans q1; obtain ⟨c0, c1, cf⟩ := block_cells2 q1; have q2 := (g.block _ (lt_of_block q2)).trans q2; obtain ⟨d0, d1, df⟩ := block_cells2 q2; clear g))
    go_ret
    exact ⟨rfl, bel⟩
  | true =>
    cases R2 with
    | false =>
      go_enter Tryd.func10, Tryd.ntmps10
      go_wp2_with (first | ((with_reducible refine (H1.out _ bel).mono ?_); rintro e w1 ⟨rfl, g⟩; have bel := chain bel g; have q1 := (g.block _ (lt_of_block q1)).trans q1; obtain ⟨c0, c1, cf⟩ := block_cells2 q1; have q2 := (g.block _ (lt_of_block q2)).trans q2; obtain ⟨d0, d1, df⟩ := block_cells2 q2; clear g) | ((with_reducible refine (H2.out _ bel).mono ?_); rintro e w1 ⟨rfl, g⟩; have bel := chain bel g; have q1 := (g.block _ (lt_of_block q1)).trans q1; obtain ⟨c0, c1, cf⟩ := block_cells2 q1; have q2 := (g.block _ (lt_of_block q2)).trans q2; obtain ⟨d0, d1, df⟩ := block_cells2 q2; clear g) | ((with_reducible refine (H3.out _ bel).mono ?_); rintro e w1 ⟨rfl, g⟩; have bel := chain bel g; have q1 := (g.block _ (lt_of_block q1)).trans q1; obtain ⟨c0, c1, cf⟩ := block_cells2 q1; have q2 := (g.block _ (lt_of_block q2)).trans q2; obtain ⟨d0, d1, df⟩ := block_cells2 q2; clear g) | ((with_reducible refine (H4.out _ bel).mono ?_); rintro e w1 ⟨rfl, g⟩; have bel := chain bel g; have q1 := (g.block _ (lt_of_block q1)).trans q1; obtain ⟨c0, c1, cf⟩ := block_cells2 q1; have q2 := (g.block _ (lt_of_block q2)).trans q2; obtain ⟨d0, d1, df⟩ := block_cells2 q2; clear g) | ((with_reducible refine (H5.out _ bel).mono ?_); rintro e w1 ⟨rfl, g⟩; have bel := chain bel g; have q1 := (g.block _ (lt_of_block q1)).trans q1; obtain ⟨c0, c1, cf⟩ := block_cells2 q1; have q2 := (g.block _ (lt_of_block q2)).trans q2; obtain ⟨d0, d1, df⟩ := block_cells2 q2; clear g))
      go_ret
      exact ⟨rfl, bel⟩
    | true =>
      cases R3 with
      | true =>
        go_enter Tryd.func10, Tryd.ntmps10
        go_wp2_with (first | ((with_reducible refine (H1.out _ bel).mono ?_); rintro e w1 ⟨rfl, g⟩; have bel := chain bel g; have q1 := (g.block _ (lt_of_block q1)).trans q1; obtain ⟨c0, c1, cf⟩ := block_cells2 q1; have q2 := (g.block _ (lt_of_block q2)).trans q2; obtain ⟨d0, d1, df⟩ := block_cells2 q2; clear g) | ((with_reducible refine (H2.out _ bel).mono ?_); rintro e w1 ⟨rfl, g⟩; have bel := chain bel g; have q1 := (g.block _ (lt_of_block q1)).trans q1; obtain ⟨c0, c1, cf⟩ := block_cells2 q1; have q2 := (g.block _ (lt_of_block q2)).trans q2; obtain ⟨d0, d1, df⟩ := block_cells2 q2; clear g) | ((with_reducible refine (H3.out _ bel).mono ?_); rintro e w1 ⟨rfl, g⟩; have bel := chain bel g; have q1 := (g.block _ (lt_of_block q1)).trans q1; obtain ⟨c0, c1, cf⟩ := block_cells2 q1; have q2 := (g.block _ (lt_of_block q2)).trans q2; obtain ⟨d0, d1, df⟩ := block_cells2 q2; clear g) | ((with_reducible refine (H4.out _ bel).mono ?_); rintro e w1 ⟨rfl, g⟩; have bel := chain bel g; have q1 := (g.block _ (lt_of_block q1)).trans q1; obtain ⟨c0, c1, cf⟩ := block_cells2 q1; have q2 := (g.block _ (lt_of_block q2)).trans q2; obtain ⟨d0, d1, df⟩ := block_cells2 q2; clear g) | ((with_reducible refine (H5.out _ bel).mono ?_); rintro e w1 ⟨rfl, g⟩; have bel := chain bel g; have q1 := (g.block _ (lt_of_block q1)).trans q1; obtain ⟨c0, c1, cf⟩ := block_cells2 q1; have q2 := (g.block _ (lt_of_block q2)).trans q2; obtain ⟨d0, d1, df⟩ := block_cells2 q2; clear g))
        go_ret
        exact ⟨rfl, bel⟩
      | false =>
        cases R4 with
        | true =>
          go_enter Tryd.func10, Tryd.ntmps10
          go_wp2_with (first | ((with_reducible refine (H1.out _ bel).mono ?_); rintro e w1 ⟨rfl, g⟩; have bel := chain bel g; have q1 := (g.block _ (lt_of_block q1)).trans q1; obtain ⟨c0, c1, cf⟩ := block_cells2 q1; have q2 := (g.block _ (lt_of_block q2)).trans q2; obtain ⟨d0, d1, df⟩ := block_cells2 q2; clear g) | ((with_reducible refine (H2.out _ bel).mono ?_); rintro e w1 ⟨rfl, g⟩; have bel := chain bel g; have q1 := (g.block _ (lt_of_block q1)).trans q1; obtain ⟨c0, c1, cf⟩ := block_cells2 q1; have q2 := (g.block _ (lt_of_block q2)).trans q2; obtain ⟨d0, d1, df⟩ := block_cells2 q2; clear g) | ((with_reducible refine (H3.out _ bel).mono ?_); rintro e w1 ⟨rfl, g⟩; have bel := chain bel g; have q1 := (g.block _ (lt_of_block q1)).trans q1; obtain ⟨c0, c1, cf⟩ := block_cells2 q1; have q2 := (g.block _ (lt_of_block q2)).trans q2; obtain ⟨d0, d1, df⟩ := block_cells2 q2; clear g) | ((with_reducible refine (H4.out _ bel).mono ?_); rintro e w1 ⟨rfl, g⟩; have bel := chain bel g; have q1 := (g.block _ (lt_of_block q1)).trans q1; obtain ⟨c0, c1, cf⟩ := block_cells2 q1; have q2 := (g.block _ (lt_of_block q2)).trans q2; obtain ⟨d0, d1, df⟩ := block_cells2 q2; clear g) | ((with_reducible refine (H5.out _ bel).mono ?_); rintro e w1 ⟨rfl, g⟩; have bel := chain bel g; have q1 := (g.block _ (lt_of_block q1)).trans q1; obtain ⟨c0, c1, cf⟩ := block_cells2 q1; have q2 := (g.block _ (lt_of_block q2)).trans q2; obtain ⟨d0, d1, df⟩ := block_cells2 q2; clear g))
          go_ret
          exact ⟨rfl, bel⟩
        | false =>
          cases R5 with
          | true =>
            go_enter Tryd.func10, Tryd.ntmps10
            go_wp2_with (first | ((with_reducible refine (H1.out _ bel).mono ?_); rintro e w1 ⟨rfl, g⟩; have bel := chain bel g; have q1 := (g.block _ (lt_of_block q1)).trans q1; obtain ⟨c0, c1, cf⟩ := block_cells2 q1; have q2 := (g.block _ (lt_of_block q2)).trans q2; obtain ⟨d0, d1, df⟩ := block_cells2 q2; clear g) | ((with_reducible refine (H2.out _ bel).mono ?_); rintro e w1 ⟨rfl, g⟩; have bel := chain bel g; have q1 := (g.block _ (lt_of_block q1)).trans q1; obtain ⟨c0, c1, cf⟩ := block_cells2 q1; have q2 := (g.block _ (lt_of_block q2)).trans q2; obtain ⟨d0, d1, df⟩ := block_cells2 q2; clear g) | ((with_reducible refine (H3.out _ bel).mono ?_); rintro e w1 ⟨rfl, g⟩; have bel := chain bel g; have q1 := (g.block _ (lt_of_block q1)).trans q1; obtain ⟨c0, c1, cf⟩ := block_cells2 q1; have q2 := (g.block _ (lt_of_block q2)).trans q2; obtain ⟨d0, d1, df⟩ := block_cells2 q2; clear g) | ((with_reducible refine (H4.out _ bel).mono ?_); rintro e w1 ⟨rfl, g⟩; have bel := chain bel g; have q1 := (g.block _ (lt_of_block q1)).trans q1; obtain ⟨c0, c1, cf⟩ := block_cells2 q1; have q2 := (g.block _ (lt_of_block q2)).trans q2; obtain ⟨d0, d1, df⟩ := block_cells2 q2; clear g) | ((with_reducible refine (H5.out _ bel).mono ?_); rintro e w1 ⟨rfl, g⟩; have bel := chain bel g; have q1 := (g.block _ (lt_of_block q1)).trans q1; obtain ⟨c0, c1, cf⟩ := block_cells2 q1; have q2 := (g.block _ (lt_of_block q2)).trans q2; obtain ⟨d0, d1, df⟩ := block_cells2 q2; clear g))
            go_ret
            exact ⟨rfl, bel⟩
          | false =>
            go_enter Tryd.func10, Tryd.ntmps10
            go_wp2_with (first | ((with_reducible refine (H1.out _ bel).mono ?_); rintro e w1 ⟨rfl, g⟩; have bel := chain bel g; have q1 := (g.block _ (lt_of_block q1)).trans q1; obtain ⟨c0, c1, cf⟩ := block_cells2 q1; have q2 := (g.block _ (lt_of_block q2)).trans q2; obtain ⟨d0, d1, df⟩ := block_cells2 q2; clear g) | ((with_reducible refine (H2.out _ bel).mono ?_); rintro e w1 ⟨rfl, g⟩; have bel := chain bel g; have q1 := (g.block _ (lt_of_block q1)).trans q1; obtain ⟨c0, c1, cf⟩ := block_cells2 q1; have q2 := (g.block _ (lt_of_block q2)).trans q2; obtain ⟨d0, d1, df⟩ := block_cells2 q2; clear g) | ((with_reducible refine (H3.out _ bel).mono ?_); rintro e w1 ⟨rfl, g⟩; have bel := chain bel g; have q1 := (g.block _ (lt_of_block q1)).trans q1; obtain ⟨c0, c1, cf⟩ := block_cells2 q1; have q2 := (g.block _ (lt_of_block q2)).trans q2; obtain ⟨d0, d1, df⟩ := block_cells2 q2; clear g) | ((with_reducible refine (H4.out _ bel).mono ?_); rintro e w1 ⟨rfl, g⟩; have bel := chain bel g; have q1 := (g.block _ (lt_of_block q1)).trans q1; obtain ⟨c0, c1, cf⟩ := block_cells2 q1; have q2 := (g.block _ (lt_of_block q2)).trans q2; obtain ⟨d0, d1, df⟩ := block_cells2 q2; clear g) | ((with_reducible refine (H5.out _ bel).mono ?_); rintro e w1 ⟨rfl, g⟩; have bel := chain bel g; have q1 := (g.block _ (lt_of_block q1)).trans q1; obtain ⟨c0, c1, cf⟩ := block_cells2 q1; have q2 := (g.block _ (lt_of_block q2)).trans q2; obtain ⟨d0, d1, df⟩ := block_cells2 q2; clear g))
            go_ret
            exact ⟨rfl, bel⟩
end Go.Proofs.YtjmfiekgpoonjaaDoor
