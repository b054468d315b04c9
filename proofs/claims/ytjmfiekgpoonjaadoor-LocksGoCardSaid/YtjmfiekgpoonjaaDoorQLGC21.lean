/- Clash: Swap. Written by wip/tools/gen23j.py. -/
import Derived.Test.YtjmfiekgpoonjaaDoorQLGC20
namespace Go.Proofs.YtjmfiekgpoonjaaDoor
open Go Go.RowKit
set_option linter.unusedVariables false
set_option linter.unusedSimpArgs false
def RdI (w : World) (v : Value) (l : List Nat) : Prop := RdV w v (l.map iv)
theorem RdI.below {w w' : World} {v : Value} {l : List Nat} (h : RdI w v l) {B : Nat} (hb : Below B w w') (hB : w.heap.size ≤ B) : RdI w' v l := RdV.below h hb hB
theorem RdI.open {w : World} {v : Value} {l : List Nat} (h : RdI w v l) : ∃ ao cap, v = .slice ao l.length cap ∧ l.length ≤ cap ∧ cap ≤ 9223372036854775807 ∧ RdI w (.slice ao l.length cap) l := by
  have h' := h
  obtain ⟨ao, cap, h1, h2, h3, -, -⟩ := h'
  rw [List.length_map] at h1 h2
  exact ⟨ao, cap, h1, h2, by unfold maxLen at h3; omega, h1 ▸ h⟩
theorem RdI.cell {w : World} {ao : Option Addr} {n cap : Nat} {l : List Nat} (h : RdI w (.slice ao n cap) l) (k : Nat) (hk : k < l.length) : ∃ b off, ao = some ⟨b, off, none⟩ ∧ b < w.heap.size ∧ w.cell? ⟨b, off + k, none⟩ = some (.int .i64 (l[k] : Int)) := RdV.icell h k hk
set_option maxRecDepth 100000 in
set_option maxHeartbeats 1000000 in
theorem containsI (f : Nat) (lb : Array Value) (eg : ∀ args w, (callFunc f args).run Tryd.prog w = .ok (.enter f args) w) (v : Value) (l : List Nat) (p : Nat → Bool) (w : World) (h : RdI w v l)
    (hp : ∀ s ∈ l, ∀ W, Below w.heap.size w W → Calls Tryd.prog f (#[.int .i64 (s : Int)] ++ lb) W fun e w' => e = .returned (.bool (p s)) ∧ Below W.heap.size W w') :
    Calls Tryd.prog 44 #[v, .func (.func f) #[] lb] w fun e w' => e = .returned (.bool (l.any p)) ∧ Below w.heap.size w w' := by
  obtain ⟨ao, cap, rfl, hc1, hc2, hr⟩ := h.open
  have HRD := Lib.hid hr
  have HP := Lib.hid hp
  have IX : Calls Tryd.prog 62 #[.slice ao l.length cap, .func (.func f) #[] lb] w fun e w' => ∃ r : Int, e = .returned (.int .i64 r) ∧ decide (0 ≤ r) = l.any p ∧ Below w.heap.size w w' := by
    clear hr h hp
    go_enter Tryd.func62, Tryd.ntmps62
    go_wp2_with fail
    go_loopw [8] (fun i wr => ∃ k : Nat, k ≤ l.length ∧ i = .int .i64 (k : Int) ∧ Hid ((l.take k).any p = false) ∧ Below w.heap.size w wr) (fun i _ => l.length - (intOf i).toNat)
    case atStart => exact ⟨0, Nat.zero_le _, rfl, Lib.hid (by simp), Below.refl _ _⟩
    case round =>
      obtain ⟨k, hk, rfl, HA, bel⟩ := hrel
      by_cases hlt : k < l.length
      · obtain ⟨bb, off, rfl, hb, c0⟩ := (HRD.out.below bel (Nat.le_refl _)).cell k hlt
        obtain ⟨x, hx⟩ : ∃ x, x = l[k] := ⟨_, rfl⟩
        rw [← hx] at c0
        have hmem : x ∈ l := by rw [hx]; exact List.getElem_mem _
        have MA := HP.out x hmem wr bel
        have HT := Lib.hid (show (l.take (k + 1)).any p = p x by rw [hx]; exact any_snoc p l k hlt HA.out)
        obtain ⟨R, hR⟩ : ∃ R, R = p x := ⟨_, rfl⟩
        have HR := Lib.hid hR
        rw [← hR] at MA
        clear hx hR
        cases R with
        | true =>
          have HF := Lib.hid (show l.any p = true by rw [List.any_eq_true]; exact ⟨x, hmem, HR.out.symm⟩)
          clear hmem
          go_wp2_with fail
          refine MA.mono ?_
          rintro e w2 ⟨rfl, g⟩
          have b2 := chain bel g
          clear MA g
          go_wp2_with fail
          go_ret
          exact ⟨(k : Int), rfl, by rw [HF.out]; simp, b2⟩
        | false =>
          have HF := Lib.hid (show (l.take (k + 1)).any p = false by rw [HT.out, ← HR.out])
          clear hmem
          go_wp2_with fail
          refine MA.mono ?_
          rintro e w2 ⟨rfl, g⟩
          have b2 := chain bel g
          clear MA g
          go_wp2_with fail
          exact ⟨⟨k + 1, by omega, by push_cast; rfl, HF, b2⟩, by simp [intOf]; omega⟩
      · obtain rfl : k = l.length := by omega
        have HF := Lib.hid (show l.any p = false by have h := HA.out; rwa [List.take_length] at h)
        go_wp2_with fail
        go_ret
        exact ⟨-1, rfl, by rw [HF.out]; rfl, bel⟩
  have IXH := Lib.hid IX
  clear IX hr h hp
  obtain ⟨R, hR⟩ : ∃ R, R = l.any p := ⟨_, rfl⟩
  rw [← hR]
  have HR := Lib.hid hR
  clear hR
  go_enter Tryd.func44, Tryd.ntmps44
  go_wp2_with fail
  refine IXH.out.mono ?_
  rintro e w1 ⟨r, rfl, hr, g⟩
  rw [← HR.out] at hr
  go_wp2_with fail
  go_ret
  exact ⟨rfl, g⟩

def zv (x : Int) : Value := .int .i64 x
def RdZ (w : World) (v : Value) (o : List Int) : Prop := RdV w v (o.map zv)
theorem RdZ.open {w : World} {v : Value} {l : List Int} (h : RdZ w v l) : ∃ ao cap, v = .slice ao l.length cap ∧ l.length ≤ cap ∧ cap ≤ 9223372036854775807 ∧ RdZ w (.slice ao l.length cap) l := by
  have h' := h
  obtain ⟨ao, cap, h1, h2, h3, -, -⟩ := h'
  rw [List.length_map] at h1 h2
  exact ⟨ao, cap, h1, h2, by unfold maxLen at h3; omega, h1 ▸ h⟩
theorem index_any (v : Value) (o : List Int) (x : Int) (w : World) (h : RdZ w v o) : Calls Tryd.prog 43 #[v, .int .i64 x] w fun e w' => e = .returned (.int .i64 (Lib.idxOf o x)) ∧ w' = w := by
  obtain ⟨ao, cap, e, h2, h3, h4, h5⟩ := h
  subst e
  rw [List.length_map] at h2 h5 ⊢
  by_cases h0 : 0 < o.length
  · obtain ⟨b, off, rfl, hb, hc⟩ := h5 h0
    have := Tryd.slices_Index_int b off o.length cap o x w (Nat.le_refl _) (by unfold maxLen at h3; omega) (fun j hj => by
      rw [hc j hj, List.getElem?_map, List.getElem?_eq_getElem hj]
      simp [zv, List.getD, hj])
    rwa [List.take_length] at this
  · obtain rfl : o = [] := List.eq_nil_of_length_eq_zero (by omega)
    exact Tryd.slices_Index_int_empty ao cap x w
set_option maxRecDepth 100000 in
theorem sw1_any (i j B n b10 : Nat) (pi pj : Int) (hi : i < n) (hj : j < n) (hn : n ≤ 64) (w : World) (cP : w.cell? ⟨B + 1, 0, none⟩ = some (.slice (some ⟨B, 0, none⟩) n n)) (cIb : w.cell? ⟨b10, 0, none⟩ = some (.int .i64 (i : Int)))
    (cI : w.cell? ⟨B, i, none⟩ = some (.int .i64 pi)) (cJ : w.cell? ⟨B, j, none⟩ = some (.int .i64 pj)) :
    Calls Tryd.prog 45 #[.int .i64 (j : Int), .pointer (some ⟨B + 1, 0, none⟩), .pointer (some ⟨b10, 0, none⟩)] w fun e w' => e = .returned (.bool (decide (pi < pj))) ∧ Below w.heap.size w w' := by
  have hii : (i : Int) < (n : Int) := by omega
  have hjj : (j : Int) < (n : Int) := by omega
  obtain ⟨R, hR⟩ : ∃ R, R = decide (pi < pj) := ⟨_, rfl⟩
  have HR := Lib.hid hR
  rw [← hR]
  clear hR
  go_enter Tryd.func45, Tryd.ntmps45
  go_wp2_with fail
  go_quiet (fail)
  go_wp2_with fail
  go_ret
  exact ⟨by rw [HR.out]; first | done | rfl, below_drewN (Below.refl _ _)⟩
/-- The places of the first i. -/
def plS (o : List Int) (N i : Nat) : List Int := (List.range i).map (plc o) ++ List.replicate (N - i) 0
theorem plS_len (o : List Int) {N i : Nat} (h : i ≤ N) : (plS o N i).length = N := by unfold plS; simp; omega
theorem plS_set (o : List Int) {N i : Nat} (h : i < N) : (plS o N i).set i (plc o i) = plS o N (i + 1) := by
  unfold plS
  obtain ⟨m, hm⟩ : ∃ m, N - i = m + 1 := ⟨N - i - 1, by omega⟩
  have := set_mid ((List.range i).map (plc o)) 0 (plc o i) (List.replicate m 0)
  rw [List.length_map, List.length_range] at this
  rw [hm, List.replicate_succ, this, List.range_succ, List.map_append, List.append_assoc, show N - (i + 1) = m by omega]; rfl
theorem plS_lt (o : List Int) {N i j : Nat} (h : j < i) : (plS o N i)[j]? = some (plc o j) := by
  unfold plS
  rw [List.getElem?_append_left (by simp; omega)]
  simp [h]
theorem plS_at (o : List Int) {N i : Nat} (h : i < N) : (plS o N i)[i]? = some 0 := by
  unfold plS
  obtain ⟨m, hm⟩ : ∃ m, N - i = m + 1 := ⟨N - i - 1, by omega⟩
  rw [List.getElem?_append_right (by simp), hm, List.replicate_succ]
  simp
theorem plS_zero (o : List Int) (N : Nat) : (List.replicate N 0).map iv = (plS o N 0).map zv := by unfold plS; simp [iv, zv]
theorem kept_any (L : List Wt) (o : List Int) (i : Nat) : ((ahN L i i).any fun j => decide (plc o i < plc o j)) = !keptB L o i := by
  unfold keptB
  induction ahN L i i with
  | nil => rfl
  | cons x l ih => rw [List.any_cons, List.all_cons, ih]; cases decide (plc o i < plc o x) <;> rfl
theorem swB_ok {L : List Wt} {o : List Int} {n : Nat} (hN : n = L.length) (hl : o.length = n) (hw : wholeB o n = true) : swOk L o = true := by
  unfold swOk; rw [← hN, hw]; simp [hl]
theorem whole_no {o : List Int} {n i : Nat} (h : i < n) (hp : plc o i < 0) : wholeB o n = false := by
  unfold wholeB
  rw [List.all_eq_false]
  exact ⟨i, List.mem_range.2 h, by simp; omega⟩
theorem whole_take {o : List Int} {k : Nat} (h : wholeB o k = true) (hp : 0 ≤ plc o k) : wholeB o (k + 1) = true := by
  unfold wholeB at *
  rw [List.range_succ, List.all_append, h]; simp [hp]
def swE (L : List Wt) (o : List Int) : Int := if swOk L o = true then 0 else 3
set_option maxRecDepth 100000 in
theorem swap_no (v : Value) (ps : List WV) (L : List Wt) (vo : Value) (w : World) (tab : TabAt w) (h : RdL w v ps L) (hz : SzL L) (hall : allB L = false) :
    Calls Tryd.prog 17 #[v, vo] w fun e w' => e = .returned (.tuple #[.bool false, .int .i64 1]) ∧ Below w.heap.size w w' := by
  have H := Lib.hid (aheadF_no v ps L w tab h hz hall)
  clear hall h hz tab
  go_enter Tryd.func17, Tryd.ntmps17
  go_wp2_with ((with_reducible refine (H.out).mono ?_); rintro e w1 ⟨rfl, g⟩)
  go_ret2
  exact ⟨rfl, g⟩
set_option maxRecDepth 100000 in
theorem swap_len (v : Value) (ps : List WV) (L : List Wt) (vo : Value) (o : List Int) (w : World) (tab : TabAt w) (h : RdL w v ps L) (hz : SzL L) (ho : RdZ w vo o) (hall : allB L = true) (hl : o.length ≠ L.length) :
    Calls Tryd.prog 17 #[v, vo] w fun e w' => e = .returned (.tuple #[.bool false, .int .i64 3]) ∧ Below w.heap.size w w' := by
  obtain ⟨ao, cap, rfl, hc1, hc2, hr⟩ := h.open
  obtain ⟨bo, bc, rfl, hc3, hc4, -⟩ := ho.open
  have H := Lib.hid (aheadF_yes (.slice ao L.length cap) ps L w tab hr hz hall)
  have d1 : ((o.length : Int) != (L.length : Int)) = true := by rw [bne_iff_ne]; omega
  clear hall h hz tab hr ho
  go_enter Tryd.func17, Tryd.ntmps17
  go_wp2_with fail
  refine H.out.mono ?_
  rintro e w1 ⟨a1, n1, k1, rfl, hA, g⟩
  clear hA
  go_wp2_with fail
  go_ret2
  exact ⟨rfl, g⟩
set_option maxRecDepth 100000 in
set_option maxHeartbeats 1000000 in
theorem swap_yes (v : Value) (ps : List WV) (L : List Wt) (vo : Value) (o : List Int) (w : World) (tab : TabAt w) (h : RdL w v ps L) (hz : SzL L) (ho : RdZ w vo o) (hall : allB L = true) (hl : o.length = L.length) :
    Calls Tryd.prog 17 #[v, vo] w fun e w' => e = .returned (.tuple #[.bool (swB L o), .int .i64 (swE L o)]) ∧ Below w.heap.size w w' := by
  obtain ⟨ao, cap, rfl, hc1, hc2, hr⟩ := h.open
  have h64 : L.length ≤ 64 := by unfold allB at hall; rw [Bool.and_eq_true, decide_eq_true_eq] at hall; exact hall.1
  have H0 := aheadF_yes (.slice ao L.length cap) ps L w tab hr hz hall
  obtain ⟨Z, hZ⟩ : ∃ Z : Ending → World → Prop, Z = fun e w' => e = .returned (.tuple #[.bool (swB L o), .int .i64 (swE L o)]) ∧ Below w.heap.size w w' := ⟨_, rfl⟩
  rw [← hZ]
  have HZ := Lib.hid hZ
  obtain ⟨bo, bc, rfl, hc3, hc4, ho2⟩ := ho.open
  have IDX := Lib.hid (fun (x : Int) W (g : Below w.heap.size w W) => index_any (.slice bo o.length bc) o x W (RdV.below ho2 g (Nat.le_refl _)))
  obtain ⟨N, hN⟩ : ∃ N, N = L.length := ⟨_, rfl⟩
  rw [← hN] at H0 h64 hl hc1 ⊢
  rw [hl] at IDX hc3 ⊢
  have H := Lib.hid H0
  have HN := Lib.hid hN
  have HL := Lib.hid hl
  have hmk := make_ints N (by omega)
  clear hall h hz tab hr H0 hN hZ ho ho2 hl
  go_enter Tryd.func17, Tryd.ntmps17
  go_wp2_with fail
  refine H.out.mono ?_
  rintro e w1 ⟨a1, n1, k1, rfl, hA, g⟩
  obtain ⟨hn1, hk1, hk2⟩ := hA.open
  rw [ahL_len] at hn1
  subst hn1
  have HA := Lib.hid hA
  have BG := Lib.hid g
  have own0 := own_made (w := w1) (n := n1) (base := w1.heap.size) (Nat.le_refl _) (by omega)
  obtain ⟨p1, p2, p3, -⟩ := two_allocs w1 (.cells (Array.replicate n1 (.int .i64 0)) 3) (.cells #[.slice (some ⟨w1.heap.size, 0, none⟩) n1 n1] 34)
  have own1 := own0.alloc (.cells #[.slice (some ⟨w1.heap.size, 0, none⟩) n1 n1] 34)
  have b10 := ((Below.refl w1.heap.size w1).alloc (Nat.le_refl _) (.cells (Array.replicate n1 (.int .i64 0)) 3)).alloc (by simp) (.cells #[.slice (some ⟨w1.heap.size, 0, none⟩) n1 n1] 34)
  clear hA g own0 p1 p3
  go_wp2_with fail
  obtain ⟨W0, hW0⟩ : ∃ W, W = (w1.alloc (.cells (Array.replicate n1 (.int .i64 0)) 3)).alloc (.cells #[.slice (some ⟨w1.heap.size, 0, none⟩) n1 n1] 34) := ⟨_, rfl⟩
  rw [← hW0] at own1 p2 b10 ⊢
  obtain ⟨B, hB⟩ : ∃ B, B = w1.heap.size := ⟨_, rfl⟩
  rw [← hB] at own1 p2 b10 ⊢
  rw [plS_zero o] at own1
  have HB := Lib.hid hB
  clear hW0 hmk hB
  go_loopw [30] (fun t wr => ∃ i : Nat, i ≤ n1 ∧ t = .int .i64 (i : Int) ∧ wr.ownsRow B 3 1 (.slice (some ⟨B, 0, none⟩) n1 n1) n1 ((plS o n1 i).map zv) ∧ Hid (wr.heap[B + 1]? = some (.cells #[.slice (some ⟨B, 0, none⟩) n1 n1] 34 (0, 0))) ∧ Below B w1 wr ∧ Hid (wholeB o i = true)) (fun t _ => n1 - (intOf t).toNat)
  case atStart => exact ⟨0, Nat.zero_le _, rfl, own1, Lib.hid p2, b10, Lib.hid rfl⟩
  case round =>
    obtain ⟨i, hi, rfl, hown, Q8, belr, HW⟩ := hrel
    have bw : Below w.heap.size w wr := BG.out.trans (belr.mono (by rw [HB.out]; exact BG.out.size))
    by_cases hlt : i < n1
    · have hti : (i : Int) < (n1 : Int) := by omega
      have q8 := Q8.out
      have c8 := block_cell q8 0
      simp only [List.getElem?_toArray, List.getElem?_cons_zero] at c8
      have h8l := lt_of_block q8
      have IX0 := fun W (g : Below wr.heap.size wr W) => IDX.out (i : Int) W (chain bw g)
      obtain ⟨p, hp⟩ : ∃ p, p = Lib.idxOf o (i : Int) := ⟨_, rfl⟩
      rw [← hp] at IX0
      have HP := Lib.hid (show p = plc o i from hp)
      have IX := Lib.hid IX0
      have cI : wr.cell? ⟨B, i, none⟩ = some (.int .i64 0) := by rw [hown.cellAt i (by omega), List.getElem?_map, plS_at o hlt]; rfl
      clear q8 hp IX0
      by_cases hp0 : p < 0
      · have E1 := Lib.hid (show swB L o = false ∧ swE L o = 3 by
          have e : swOk L o = false := by unfold swOk; rw [← HN.out, whole_no hlt (by rw [← HP.out]; exact hp0)]; simp
          exact ⟨by unfold swB; rw [e]; rfl, by unfold swE; rw [e]; rfl⟩)
        go_wp2_with fail
        refine t_start 6 (by kernel_rfl) ?_
        refine t_take (i := 0) (d := (some 33)) (v := ?_) rfl rfl (by kernel_rfl) (fun _ _ _ h => h) (by rfl) (fun w' hb' => ?_) ?_
        rotate_left
        · have z := (hb'.cell (p := ⟨B + 1, 0, none⟩) h8l).trans c8; (try go_simp); (try with_reducible rfl)
        try simp only [Act.put, List.setIfInBounds_toArray, List.set_cons_zero, List.set_cons_succ]
        refine t_take (i := 1) (d := (some 34)) (v := ?_) rfl rfl (by kernel_rfl) (fun _ _ _ h => h) (by rfl) (fun w' hb' => ?_) ?_
        rotate_left
        · (try go_simp); (try with_reducible rfl)
        try simp only [Act.put, List.setIfInBounds_toArray, List.set_cons_zero, List.set_cons_succ]
        refine t_take (i := 2) (d := (some 35)) (v := ?_) rfl rfl (by kernel_rfl) (fun _ _ _ h => h) (by rfl) (fun w' hb' => ?_) ?_
        rotate_left
        · (try go_simp); (try with_reducible rfl)
        try simp only [Act.put, List.setIfInBounds_toArray, List.set_cons_zero, List.set_cons_succ]
        refine t_take (i := 3) (d := (some 36)) (v := ?_) rfl rfl (by kernel_rfl) (fun _ _ _ h => h) (by rfl) (fun w' hb' => ?_) ?_
        rotate_left
        · (try go_simp); (try with_reducible rfl)
        try simp only [Act.put, List.setIfInBounds_toArray, List.set_cons_zero, List.set_cons_succ]
        refine t_run (i := 4) rfl (by kernel_rfl) (by kernel_rfl) (by rfl) (fun K hK => ?_)
        go_simp; refine (IX.out _ (Below.drew (Below.refl _ _))).mono ?_; rintro e w2 ⟨rfl, rfl⟩; refine hK _ _ ⟨Below.refl _ _, ?_⟩; clear hK K
        try simp only [Act.put, List.setIfInBounds_toArray, List.set_cons_zero, List.set_cons_succ]
        refine t_take (i := 5) (d := (some 38)) (v := ?_) rfl rfl (by kernel_rfl) (fun _ _ _ h => h) (by rfl) (fun w' hb' => ?_) ?_
        rotate_left
        · (try go_simp); (try with_reducible rfl)
        try simp only [Act.put, List.setIfInBounds_toArray, List.set_cons_zero, List.set_cons_succ]
        refine t_last (i := 6) rfl (by kernel_rfl) (by kernel_rfl) (by kernel_rfl) (by rfl) (fun K hK => ?_)
        have z := cI; have fz := hown.frozenAt i; go_simp; refine hK _ _ ?_; clear hK K
        have b9 := bw.trans ((((Below.refl wr.heap.size wr).mono (Nat.le_refl _)).mono bw.size).setCell (p := ⟨B, i, none⟩) (by rw [HB.out]; exact BG.out.size) (.int .i64 p))
        go_wp2_with fail
        show Z (.returned _) _
        rw [HZ.out]
        exact ⟨by rw [E1.out.1, E1.out.2]; first | done | rfl, b9.drew⟩
      · obtain ⟨own2, gr2⟩ := hown.stored i (.int .i64 p)
        have bel2 := (belr.setCell (p := ⟨B, i, none⟩) (Nat.le_refl _) (.int .i64 p)).drew
        have OWN2 := Lib.hid (show (wr.setCell ⟨B, i, none⟩ (.int .i64 p)).drew.ownsRow B 3 1 (.slice (some ⟨B, 0, none⟩) n1 n1) n1 ((plS o n1 (i + 1)).map zv) by
          rw [← plS_set o hlt, List.map_set, ← HP.out]; exact own2)
        have Q8' := Lib.hid (show (wr.setCell ⟨B, i, none⟩ (.int .i64 p)).drew.heap[B + 1]? = some (.cells #[.slice (some ⟨B, 0, none⟩) n1 n1] 34 (0, 0)) by
          show (wr.setCell ⟨B, i, none⟩ (.int .i64 p)).heap[B + 1]? = _
          rw [set_old (by omega)]; exact Q8.out)
        have HW' := Lib.hid (whole_take HW.out (by rw [← HP.out]; omega))
        clear own2 gr2
        go_wp2_with fail
        refine t_start 6 (by kernel_rfl) ?_
        refine t_take (i := 0) (d := (some 33)) (v := ?_) rfl rfl (by kernel_rfl) (fun _ _ _ h => h) (by rfl) (fun w' hb' => ?_) ?_
        rotate_left
        · have z := (hb'.cell (p := ⟨B + 1, 0, none⟩) h8l).trans c8; (try go_simp); (try with_reducible rfl)
        try simp only [Act.put, List.setIfInBounds_toArray, List.set_cons_zero, List.set_cons_succ]
        refine t_take (i := 1) (d := (some 34)) (v := ?_) rfl rfl (by kernel_rfl) (fun _ _ _ h => h) (by rfl) (fun w' hb' => ?_) ?_
        rotate_left
        · (try go_simp); (try with_reducible rfl)
        try simp only [Act.put, List.setIfInBounds_toArray, List.set_cons_zero, List.set_cons_succ]
        refine t_take (i := 2) (d := (some 35)) (v := ?_) rfl rfl (by kernel_rfl) (fun _ _ _ h => h) (by rfl) (fun w' hb' => ?_) ?_
        rotate_left
        · (try go_simp); (try with_reducible rfl)
        try simp only [Act.put, List.setIfInBounds_toArray, List.set_cons_zero, List.set_cons_succ]
        refine t_take (i := 3) (d := (some 36)) (v := ?_) rfl rfl (by kernel_rfl) (fun _ _ _ h => h) (by rfl) (fun w' hb' => ?_) ?_
        rotate_left
        · (try go_simp); (try with_reducible rfl)
        try simp only [Act.put, List.setIfInBounds_toArray, List.set_cons_zero, List.set_cons_succ]
        refine t_run (i := 4) rfl (by kernel_rfl) (by kernel_rfl) (by rfl) (fun K hK => ?_)
        go_simp; refine (IX.out _ (Below.drew (Below.refl _ _))).mono ?_; rintro e w2 ⟨rfl, rfl⟩; refine hK _ _ ⟨Below.refl _ _, ?_⟩; clear hK K
        try simp only [Act.put, List.setIfInBounds_toArray, List.set_cons_zero, List.set_cons_succ]
        refine t_take (i := 5) (d := (some 38)) (v := ?_) rfl rfl (by kernel_rfl) (fun _ _ _ h => h) (by rfl) (fun w' hb' => ?_) ?_
        rotate_left
        · (try go_simp); (try with_reducible rfl)
        try simp only [Act.put, List.setIfInBounds_toArray, List.set_cons_zero, List.set_cons_succ]
        refine t_last (i := 6) rfl (by kernel_rfl) (by kernel_rfl) (by kernel_rfl) (by rfl) (fun K hK => ?_)
        have z := cI; have fz := hown.frozenAt i; go_simp; refine hK _ _ ?_; clear hK K
        go_wp2_with fail
        exact ⟨⟨i + 1, by omega, by push_cast; rfl, OWN2.out, Q8', bel2, HW'⟩, by simp [intOf]; omega⟩
    · obtain rfl : i = n1 := by omega
      have OK := Lib.hid (swB_ok HN.out HL.out HW.out)
      obtain ⟨w3, hw3⟩ : ∃ w3 : World, w3 = wr := ⟨_, rfl⟩
      subst hw3
      have OWN3 := Lib.hid hown
      have BR := Lib.hid belr
      have BW := Lib.hid bw
      clear hown belr bw
      go_wp2_with fail
      go_loopw [47] (fun t wr => ∃ k : Nat, k ≤ i ∧ t = .int .i64 (k : Int) ∧ Hid ((List.range k).all (keptB L o) = true) ∧ Below w3.heap.size w3 wr) (fun t _ => i - (intOf t).toNat)
      case atStart => exact ⟨0, Nat.zero_le _, rfl, Lib.hid rfl, Below.refl _ _⟩
      case round =>
        obtain ⟨k, hk, rfl, HK, bel3⟩ := hrel
        by_cases hlk : k < i
        · have bel1 : Below B w1 wr := BR.out.trans (bel3.mono (by have := BR.out.size; rw [HB.out]; exact this))
          obtain ⟨b, off, ta, tc, rfl, hb, c0, hrow⟩ := HA.out.cell k (by rw [ahL_len]; exact hlk)
          have c0 := (bel1.cell (p := ⟨b, off + k, none⟩) (by rw [HB.out]; exact hb)).trans c0
          rw [ahL_get L hlk] at c0 hrow
          have rowr : RdI wr _ (ahN L k k) := RdV.below hrow bel1 (by rw [HB.out]; exact Nat.le_refl _)
          have qb := heap_alloc_new wr (.cells #[.int .i64 (k : Int)] 3)
          have b11 := (Below.refl wr.heap.size wr).alloc (Nat.le_refl _) (.cells #[.int .i64 (k : Int)] 3)
          have CF0 := containsI 45 #[.pointer (some ⟨B + 1, 0, none⟩), .pointer (some ⟨wr.heap.size, 0, none⟩)] (enters_of Tryd.func45 (by kernel_rfl) rfl) (.slice ta (ahN L k k).length tc) (ahN L k k) (fun j => decide (plc o k < plc o j)) (wr.alloc (.cells #[.int .i64 (k : Int)] 3)) (rowr.below b11 (Nat.le_refl _))
            (fun j hj W g => by
              have hjk := ahN_lt hj
              have g3 : Below w3.heap.size w3 W := chain bel3 (chain b11 g)
              have h8 := (g3.block _ (lt_of_block Q8.out)).trans Q8.out
              have cP := block_cell h8 0
              have hBl := (OWN3.out.lt B rfl).2
              have cb := block_cell ((g.block _ (lt_of_block qb)).trans qb) 0
              simp only [List.getElem?_toArray, List.getElem?_cons_zero] at cP cb
              exact sw1_any k j B i wr.heap.size (plc o k) (plc o j) hlk (by omega) h64 W cP cb
                ((g3.cell (p := ⟨B, k, none⟩) hBl).trans (by rw [OWN3.out.cellAt k (by omega), List.getElem?_map, plS_lt o hlk]; rfl))
                ((g3.cell (p := ⟨B, j, none⟩) hBl).trans (by rw [OWN3.out.cellAt j (by omega), List.getElem?_map, plS_lt o (by omega)]; rfl)))
          rw [kept_any] at CF0
          obtain ⟨R, hR⟩ : ∃ R, R = keptB L o k := ⟨_, rfl⟩
          rw [← hR] at CF0
          have HR := Lib.hid hR
          have CF := Lib.hid CF0
          obtain ⟨J, hJ⟩ : ∃ J, J = (ahN L k k).length := ⟨_, rfl⟩
          rw [← hJ] at CF c0
          have hki : (k : Int) < (i : Int) := by omega
          have B11 := Lib.hid (chain (chain BW.out bel3) b11)
          have B12 := Lib.hid (chain bel3 b11)
          clear hR CF0 hJ rowr qb b11 bel1 hrow
          cases R with
          | false =>
            have E1 := Lib.hid (show swB L o = false ∧ swE L o = 0 by
              have e : (List.range L.length).all (keptB L o) = false := by rw [List.all_eq_false]; exact ⟨k, List.mem_range.2 (by rw [← HN.out]; exact hlk), by rw [← HR.out]; simp⟩
              exact ⟨by unfold swB; rw [e, Bool.and_false], by unfold swE; rw [OK.out]; rfl⟩)
            go_wp2_with ((with_reducible refine (CF.out).mono ?_); rintro e w9 ⟨rfl, g⟩)
            show Z (.returned _) _
            rw [HZ.out]
            exact ⟨by rw [E1.out.1, E1.out.2]; first | done | rfl, chain B11.out g⟩
          | true =>
            have HK' := Lib.hid (show (List.range (k + 1)).all (keptB L o) = true by rw [List.range_succ, List.all_append, HK.out]; simp [← HR.out])
            go_wp2_with ((with_reducible refine (CF.out).mono ?_); rintro e w9 ⟨rfl, g⟩)
            exact ⟨⟨k + 1, by omega, by push_cast; rfl, HK', chain B12.out g⟩, by simp [intOf]; omega⟩
        · obtain rfl : k = i := by omega
          have E1 := Lib.hid (show swB L o = true ∧ swE L o = 0 by
            exact ⟨by unfold swB; rw [OK.out, ← HN.out, HK.out]; rfl, by unfold swE; rw [OK.out]; rfl⟩)
          go_wp2_with fail
          show Z (.returned _) _
          rw [HZ.out]
          exact ⟨by rw [E1.out.1, E1.out.2]; first | done | rfl, chain BW.out bel3⟩
end Go.Proofs.YtjmfiekgpoonjaaDoor
