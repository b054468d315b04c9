/- Clash: what is found in a list of wants; which lists may be. Written by wip/tools/gen23f.py. -/
import Derived.Test.YtjmfiekgpoonjaaDoorQLGC15
namespace Go.Proofs.YtjmfiekgpoonjaaDoor
open Go Go.RowKit
set_option linter.unusedVariables false
set_option linter.unusedSimpArgs false
theorem getD_of {α : Type} {l : List α} {i : Nat} {d : α} (h : i < l.length) : l.getD i d = l[i] := by simp [List.getD, h]
theorem anyW_snoc (p : Wt → Bool) (L : List Wt) (k : Nat) (hk : k < L.length) (h : (L.take k).any p = false) : (L.take (k + 1)).any p = p (L.getD k wt0) := by
  rw [any_snoc p L k hk h, getD_of hk]
theorem allW_snoc (p : Wt → Bool) (L : List Wt) (k : Nat) (hk : k < L.length) (h : (L.take k).all p = true) : (L.take (k + 1)).all p = p (L.getD k wt0) := by
  rw [List.take_succ_eq_append_getElem hk, List.all_append, h, getD_of hk]; simp
theorem mem_getD {L : List Wt} {k : Nat} (hk : k < L.length) : L.getD k wt0 ∈ L := by rw [getD_of hk]; exact List.getElem_mem _
theorem RdL.open {w : World} {v : Value} {ps : List WV} {L : List Wt} (h : RdL w v ps L) : ∃ ao cap, v = .slice ao L.length cap ∧ L.length ≤ cap ∧ cap ≤ 9223372036854775807 ∧ RdL w (.slice ao L.length cap) ps L := by
  obtain ⟨h1, h2, h3⟩ := h
  obtain ⟨ao, cap, e, hc, hm, hr⟩ := RdK.open h1
  rw [h2] at e hc hr
  exact ⟨ao, cap, e, hc, hm, hr, h2, h3⟩
set_option maxRecDepth 100000 in
set_option maxHeartbeats 1000000 in
theorem containsW (f : Nat) (lb : Array Value) (eg : ∀ args w, (callFunc f args).run Tryd.prog w = .ok (.enter f args) w) (v : Value) (ps : List WV) (L : List Wt) (q : Wt → Bool) (w : World) (h : RdL w v ps L)
    (hp : ∀ i, i < L.length → ∀ W, Below w.heap.size w W → Calls Tryd.prog f (#[.agg #[.slice (ps.getD i wv0).a1 (ps.getD i wv0).n1 (ps.getD i wv0).c1, .slice (ps.getD i wv0).a2 (ps.getD i wv0).n2 (ps.getD i wv0).c2]] ++ lb) W fun e w' => e = .returned (.bool (q (L.getD i wt0))) ∧ Below W.heap.size W w') :
    Calls Tryd.prog 59 #[v, .func (.func f) #[] lb] w fun e w' => e = .returned (.bool (L.any q)) ∧ Below w.heap.size w w' := by
  obtain ⟨ao, cap, rfl, hc1, hc2, hr⟩ := h.open
  have HRD := Lib.hid hr
  have HP := Lib.hid hp
  have IX : Calls Tryd.prog 70 #[.slice ao L.length cap, .func (.func f) #[] lb] w fun e w' => ∃ r : Int, e = .returned (.int .i64 r) ∧ decide (0 ≤ r) = L.any q ∧ Below w.heap.size w w' := by
    clear hr h hp
    go_enter Tryd.func70, Tryd.ntmps70
    go_wp2_with fail
    go_loopw [8] (fun i wr => ∃ k : Nat, k ≤ L.length ∧ i = .int .i64 (k : Int) ∧ Hid ((L.take k).any q = false) ∧ Below w.heap.size w wr) (fun i _ => L.length - (intOf i).toNat)
    case atStart => exact ⟨0, Nat.zero_le _, rfl, Lib.hid (by simp), Below.refl _ _⟩
    case round =>
      obtain ⟨k, hk, rfl, HA, bel⟩ := hrel
      by_cases hlt : k < L.length
      · obtain ⟨bb, off, rfl, hb, c0, c1⟩ := rdl_cells (HRD.out.below bel (Nat.le_refl _)).row k (by rw [HRD.out.len]; exact hlt)
        have MA := HP.out k hlt wr bel
        obtain ⟨p, hpp⟩ : ∃ p, p = ps.getD k wv0 := ⟨_, rfl⟩
        rw [← hpp] at c0 c1 MA
        have HT := Lib.hid (anyW_snoc q L k hlt HA.out)
        have hmem := mem_getD hlt
        obtain ⟨R, hR⟩ : ∃ R, R = q (L.getD k wt0) := ⟨_, rfl⟩
        have HR := Lib.hid hR
        rw [← hR] at MA
        clear hpp hR
        cases R with
        | true =>
          have HF := Lib.hid (show L.any q = true by rw [List.any_eq_true]; exact ⟨_, hmem, HR.out.symm⟩)
          clear hmem
          go_wp2_with fail
          refine MA.mono ?_
          rintro e w2 ⟨rfl, g⟩
          have b2 := chain bel g
          clear MA g
          go_wp2_with fail
          go_ret
          exact ⟨(k : Int), rfl, by rw [HF.out]; simp, b2⟩
        | false =>
          have HF := Lib.hid (show (L.take (k + 1)).any q = false by rw [HT.out, ← HR.out])
          clear hmem
          go_wp2_with fail
          refine MA.mono ?_
          rintro e w2 ⟨rfl, g⟩
          have b2 := chain bel g
          clear MA g
          go_wp2_with fail
          exact ⟨⟨k + 1, by omega, by push_cast; rfl, HF, b2⟩, by simp [intOf]; omega⟩
      · obtain rfl : k = L.length := by omega
        have HF := Lib.hid (show L.any q = false by have h := HA.out; rwa [List.take_length] at h)
        go_wp2_with fail
        go_ret
        exact ⟨-1, rfl, by rw [HF.out]; rfl, bel⟩
  have IXH := Lib.hid IX
  clear IX hr h hp
  obtain ⟨R, hR⟩ : ∃ R, R = L.any q := ⟨_, rfl⟩
  rw [← hR]
  have HR := Lib.hid hR
  clear hR
  go_enter Tryd.func59, Tryd.ntmps59
  go_wp2_with fail
  refine IXH.out.mono ?_
  rintro e w1 ⟨r, rfl, hr, g⟩
  rw [← HR.out] at hr
  go_wp2_with fail
  go_ret
  exact ⟨rfl, g⟩
set_option maxRecDepth 100000 in
theorem all1_any (p : WV) (a : Wt) (w : World) (tab : TabAt w) (h : RdWV w p a) (hz : SzW a) :
    Calls Tryd.prog 60 #[.agg #[.slice p.a1 p.n1 p.c1, .slice p.a2 p.n2 p.c2]] w fun e w' => e = .returned (.bool (!mayW a)) ∧ Below w.heap.size w w' := by
  have A1 := fun W (g : Below w.heap.size w W) => cmay_any (.slice p.a1 p.n1 p.c1) (.slice p.a2 p.n2 p.c2) a W (tab.below g) (h.1.below g (Nat.le_refl _)) (h.2.below g (Nat.le_refl _)) hz
  generalize mayW a = R at A1 ⊢
  have H1 := Lib.hid A1
  have q1 := heap_alloc_new w (.cells #[.slice p.a1 p.n1 p.c1, .slice p.a2 p.n2 p.c2] 24)
  have bel := (Below.refl w.heap.size w).alloc (Nat.le_refl _) (.cells #[.slice p.a1 p.n1 p.c1, .slice p.a2 p.n2 p.c2] 24)
  obtain ⟨c0, c1, cf⟩ := block_cells2 q1
  clear A1 h hz tab
  go_enter Tryd.func60, Tryd.ntmps60
  go_wp2_with ((with_reducible refine (H1.out _ bel).mono ?_); rintro e w1 ⟨rfl, g⟩; have bel := chain bel g; clear g)
  go_ret
  exact ⟨rfl, bel⟩
def allB (L : List Wt) : Bool := decide (L.length ≤ 64) && L.all mayW
theorem anyW_not (L : List Wt) : (L.any fun a => !mayW a) = !L.all mayW := by
  induction L with
  | nil => rfl
  | cons x l ih => rw [List.any_cons, List.all_cons, ih]; cases mayW x <;> rfl
set_option maxRecDepth 100000 in
theorem all_any (v : Value) (ps : List WV) (L : List Wt) (w : World) (tab : TabAt w) (h : RdL w v ps L) (hz : SzL L) :
    Calls Tryd.prog 41 #[v] w fun e w' => e = .returned (.bool (allB L)) ∧ Below w.heap.size w w' := by
  obtain ⟨ao, cap, rfl, hc1, hc2, hr⟩ := h.open
  have A1 := fun W (g : Below w.heap.size w W) => containsW 60 #[] (enters_of Tryd.func60 (by kernel_rfl) rfl) (.slice ao L.length cap) ps L (fun a => !mayW a) W (hr.below g (Nat.le_refl _))
    (fun i hi W' g' => all1_any (ps.getD i wv0) (L.getD i wt0) W' ((tab.below g).below g') (((hr.el i hi).below g).below g') (hz i hi))
  rw [anyW_not] at A1
  unfold allB
  generalize L.all mayW = R at A1 ⊢
  have H1 := Lib.hid A1
  have bel := Below.refl w.heap.size w
  clear A1 h hr hz tab
  by_cases hl : L.length ≤ 64
  · have d1 : decide ((L.length : Int) ≤ 64) = true := decide_eq_true (by omega)
    have d2 : decide (L.length ≤ 64) = true := decide_eq_true hl
    rw [d2]
    cases R
    all_goals
      go_enter Tryd.func41, Tryd.ntmps41
      go_wp2_with (first | ((with_reducible refine (H1.out _ bel).mono ?_); rintro e w1 ⟨rfl, g⟩; have bel := chain bel g; clear g))
      go_ret
      exact ⟨rfl, bel⟩
  · have d1 : decide ((L.length : Int) ≤ 64) = false := decide_eq_false (by omega)
    have d2 : decide (L.length ≤ 64) = false := decide_eq_false hl
    rw [d2]
    go_enter Tryd.func41, Tryd.ntmps41
    go_wp2_with fail
    go_ret
    exact ⟨rfl, bel⟩
set_option maxRecDepth 100000 in
set_option maxHeartbeats 1000000 in
theorem right_any (v : Value) (ps : List WV) (L : List Wt) (w : World) (tab : TabAt w) (h : RdL w v ps L) (hz : SzL L) :
    Calls Tryd.prog 15 #[v] w fun e w' => e = .returned (.bool (allB L)) ∧ Below w.heap.size w w' := by
  obtain ⟨ao, cap, rfl, hc1, hc2, hr⟩ := h.open
  have HRD := Lib.hid hr
  have HP := Lib.hid (fun i (hi : i < L.length) W (g : Below w.heap.size w W) => rmay_any (.slice (ps.getD i wv0).a1 (ps.getD i wv0).n1 (ps.getD i wv0).c1) (.slice (ps.getD i wv0).a2 (ps.getD i wv0).n2 (ps.getD i wv0).c2) (L.getD i wt0) W (tab.below g) ((hr.el i hi).below g).1 ((hr.el i hi).below g).2 (hz i hi))
  obtain ⟨Z, hZ⟩ : ∃ Z, Z = allB L := ⟨_, rfl⟩
  rw [← hZ]
  have HZ := Lib.hid hZ
  clear hr h hz hZ tab
  go_enter Tryd.func15, Tryd.ntmps15
  go_wp2_with fail
  go_loopw [3] (fun i wr => ∃ k : Nat, k ≤ L.length ∧ i = .int .i64 (k : Int) ∧ Hid ((L.take k).all mayW = true) ∧ Below w.heap.size w wr) (fun i _ => L.length - (intOf i).toNat)
  case atStart => exact ⟨0, Nat.zero_le _, rfl, Lib.hid (by simp), Below.refl _ _⟩
  case round =>
    obtain ⟨k, hk, rfl, HA, bel⟩ := hrel
    by_cases hlt : k < L.length
    · obtain ⟨bb, off, rfl, hb, c0, c1⟩ := rdl_cells (HRD.out.below bel (Nat.le_refl _)).row k (by rw [HRD.out.len]; exact hlt)
      have MA := HP.out k hlt wr bel
      obtain ⟨p, hpp⟩ : ∃ p, p = ps.getD k wv0 := ⟨_, rfl⟩
      rw [← hpp] at c0 c1 MA
      have HT := Lib.hid (allW_snoc mayW L k hlt HA.out)
      have hmem := mem_getD hlt
      obtain ⟨R, hR⟩ : ∃ R, R = mayW (L.getD k wt0) := ⟨_, rfl⟩
      have HR := Lib.hid hR
      rw [← hR] at MA
      clear hpp hR
      cases R with
      | false =>
        have HF := Lib.hid (show Z = false by rw [HZ.out]; unfold allB; rw [Bool.and_eq_false_iff]; right; rw [List.all_eq_false]; exact ⟨_, hmem, by rw [← HR.out]; simp⟩)
        clear hmem
        go_wp2_with fail
        refine MA.mono ?_
        rintro e w2 ⟨rfl, g⟩
        have b2 := chain bel g
        clear MA g
        go_wp2_with fail
        go_ret
        exact ⟨by rw [HF.out]; first | done | rfl, b2⟩
      | true =>
        have HF := Lib.hid (show (L.take (k + 1)).all mayW = true by rw [HT.out, ← HR.out])
        clear hmem
        go_wp2_with fail
        refine MA.mono ?_
        rintro e w2 ⟨rfl, g⟩
        have b2 := chain bel g
        clear MA g
        go_wp2_with fail
        exact ⟨⟨k + 1, by omega, by push_cast; rfl, HF, b2⟩, by simp [intOf]; omega⟩
    · obtain rfl : k = L.length := by omega
      have HF := Lib.hid (show Z = decide (L.length ≤ 64) by have h := HA.out; rw [List.take_length] at h; rw [HZ.out]; unfold allB; rw [h, Bool.and_true])
      have e1 : decide ((L.length : Int) ≤ 64) = decide (L.length ≤ 64) := decide_eq_decide.2 (by omega)
      obtain ⟨D, hD⟩ : ∃ D, D = decide (L.length ≤ 64) := ⟨_, rfl⟩
      rw [← hD] at e1 HF
      clear hD
      go_wp2_with fail
      go_ret
      exact ⟨by rw [HF.out]; first | done | rfl, bel⟩
end Go.Proofs.YtjmfiekgpoonjaaDoor
