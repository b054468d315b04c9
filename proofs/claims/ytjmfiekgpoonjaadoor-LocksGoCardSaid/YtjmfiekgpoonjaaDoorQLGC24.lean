/- Locks: the table as it lies in memory, what is asked of it. Written by wip/tools/gen24a.py. -/
import Derived.Test.YtjmfiekgpoonjaaDoorQLGC23
namespace Go.Proofs.YtjmfiekgpoonjaaDoor
open Go Go.RowKit
set_option linter.unusedVariables false
set_option linter.unusedSimpArgs false
/-- Those ahead of one that are not done. -/
def opL (L : List Wt) (at' : List Nat) (i : Nat) : List Nat := (ahN L i i).filter fun j => at'.getD j 0 != 2
theorem filt_snoc (p : Nat → Bool) (l : List Nat) (k : Nat) (hk : k < l.length) : (l.take (k + 1)).filter p = if p l[k] = true then (l.take k).filter p ++ [l[k]] else (l.take k).filter p := by
  rw [List.take_succ_eq_append_getElem hk, List.filter_append]
  by_cases h : p l[k] = true
  · rw [if_pos h, List.filter_cons, if_pos h]; rfl
  · rw [if_neg h, List.filter_cons, if_neg h, List.filter_nil, List.append_nil]
theorem filt_range (p : Nat → Bool) (k : Nat) : (List.range (k + 1)).filter p = if p k = true then (List.range k).filter p ++ [k] else (List.range k).filter p := by
  rw [List.range_succ, List.filter_append]
  by_cases h : p k = true
  · rw [if_pos h, List.filter_cons, if_pos h]; rfl
  · rw [if_neg h, List.filter_cons, if_neg h, List.filter_nil, List.append_nil]
/-- The table pt: how far all are (block Bs), and those ahead, which lie as they lay in w1. -/
structure Tb (w1 w : World) (pt Bs : Nat) (aA : Option Addr) (cA N : Nat) (L : List Wt) (at' : List Nat) : Prop where
  bs : Bs = w1.heap.size
  bel : Below w1.heap.size w1 w
  tb : w.heap[pt]? = some (.cells #[.slice (some ⟨Bs, 0, none⟩) N N, .slice aA N cA] 73 (0, 0))
  st : w.heap[Bs]? = some (.cells (at'.map iv).toArray 74 (0, 0))
  len : at'.length = N
  ah : RdR w1 (.slice aA N cA) (ahL L N)
  pt1 : pt = Bs + 1
  n64 : N ≤ 64
theorem Tb.below {w1 w w' : World} {pt Bs : Nat} {aA : Option Addr} {cA N : Nat} {L : List Wt} {at' : List Nat} (T : Tb w1 w pt Bs aA cA N L at') (g : Below w.heap.size w w') : Tb w1 w' pt Bs aA cA N L at' :=
  ⟨T.bs, T.bel.trans (g.mono T.bel.size), (g.block _ (lt_of_block T.tb)).trans T.tb, (g.block _ (lt_of_block T.st)).trans T.st, T.len, T.ah, T.pt1, T.n64⟩
theorem Tb.cell {w1 w : World} {pt Bs : Nat} {aA : Option Addr} {cA N : Nat} {L : List Wt} {at' : List Nat} (T : Tb w1 w pt Bs aA cA N L at') (i : Nat) (hi : i < N) : w.cell? ⟨Bs, i, none⟩ = some (.int .i64 ((at'.getD i 0 : Nat) : Int)) := by
  rw [block_cell T.st i]
  have := T.len
  have h : i < at'.length := by omega
  simp [List.getD, h, iv]
/-- What a call hands back is a list of numbers of its own. -/
def GivesI (w : World) (l : List Nat) (e : Ending) (w' : World) : Prop := ∃ a n c, e = .returned (.slice a n c) ∧ w'.ownsRow w.heap.size 3 1 (.slice a n c) l.length (l.map iv) ∧ Below w.heap.size w w'
def hasB (N : Nat) (i : Int) : Bool := decide (0 ≤ i) && decide (i < (N : Int))
set_option maxRecDepth 100000 in
theorem has_any (w1 : World) (pt Bs : Nat) (aA : Option Addr) (cA N : Nat) (L : List Wt) (at' : List Nat) (i : Int) (w : World) (T : Tb w1 w pt Bs aA cA N L at') :
    Calls Tryd.prog 46 #[.pointer (some ⟨pt, 0, none⟩), .int .i64 i] w fun e w' => e = .returned (.bool (hasB N i)) ∧ w' = w := by
  obtain ⟨c0, c1, cf⟩ := block_cells2 T.tb
  clear T
  unfold hasB
  by_cases h0 : 0 ≤ i
  · have d0 : decide (0 ≤ i) = true := decide_eq_true h0
    rw [d0]
    by_cases h1 : i < (N : Int)
    · have d1 : decide (i < (N : Int)) = true := decide_eq_true h1
      rw [d1]
      go_enter Tryd.func46, Tryd.ntmps46
      go_wp2_with fail
      go_ret
      exact ⟨rfl, rfl⟩
    · have d1 : decide (i < (N : Int)) = false := decide_eq_false h1
      rw [d1]
      go_enter Tryd.func46, Tryd.ntmps46
      go_wp2_with fail
      go_ret
      exact ⟨rfl, rfl⟩
  · have d0 : decide (0 ≤ i) = false := decide_eq_false h0
    rw [d0]
    go_enter Tryd.func46, Tryd.ntmps46
    go_wp2_with fail
    go_ret
    exact ⟨rfl, rfl⟩
set_option maxRecDepth 100000 in
set_option maxHeartbeats 1000000 in
theorem open_any (w1 : World) (pt Bs : Nat) (aA : Option Addr) (cA N : Nat) (L : List Wt) (at' : List Nat) (i : Nat) (hi : i < N) (w : World) (T : Tb w1 w pt Bs aA cA N L at') :
    Calls Tryd.prog 47 #[.pointer (some ⟨pt, 0, none⟩), .int .i64 (i : Int)] w (GivesI w (opL L at' i)) := by
  obtain ⟨i0, hi0, hz0, hz1, hz2⟩ := info_parts intinfo
  obtain ⟨c0, c1, cf⟩ := block_cells2 T.tb
  have hii : (i : Int) < (N : Int) := by omega
  obtain ⟨J, hJ⟩ : ∃ J, J = ahN L i i := ⟨_, rfl⟩
  have hJl : J.length ≤ 64 := by rw [hJ]; have := ahN_len L i i; have := T.n64; omega
  have hJi : ∀ j ∈ J, j < N := fun j hj => by rw [hJ] at hj; have := ahN_lt hj; omega
  obtain ⟨b, off, ta, tc, hao, hb, x0, hrow⟩ := T.ah.cell i (by rw [ahL_len]; exact hi)
  rw [ahL_get L hi, ← hJ] at x0 hrow
  have x0 := (T.bel.cell (p := ⟨b, off + i, none⟩) hb).trans x0
  have HROW := Lib.hid (hrow.below T.bel (Nat.le_refl _))
  subst hao
  have HT := Lib.hid T
  have HJI := Lib.hid hJi
  obtain ⟨Z, hZ⟩ : ∃ Z, Z = GivesI w (J.filter fun j => at'.getD j 0 != 2) := ⟨_, rfl⟩
  rw [show opL L at' i = J.filter fun j => at'.getD j 0 != 2 by rw [hJ]; rfl, ← hZ]
  have HZ := Lib.hid hZ
  clear T hJ hrow hZ hJi
  go_enter Tryd.func47, Tryd.ntmps47
  go_wp2_with fail
  clear c0 c1 cf x0
  go_loopw [5, 16] (fun o t wr => ∃ (k : Nat) (acc : List Nat), k ≤ J.length ∧ t = .int .i64 (k : Int) ∧ acc.length ≤ k ∧ Hid (acc = (J.take k).filter fun j => at'.getD j 0 != 2) ∧ wr.ownsRow w.heap.size 3 1 o acc.length (acc.map iv) ∧ Below w.heap.size w wr) (fun _ t _ => J.length - (intOf t).toNat)
  case atStart => exact ⟨0, [], Nat.zero_le _, rfl, Nat.le_refl _, Lib.hid rfl, World.ownsRow_nil _ _ _ _, Below.refl _ _⟩
  case round =>
    obtain ⟨k, acc, hk, rfl, hacc, HA, hown, bel⟩ := hrel
    by_cases hlt : k < J.length
    · obtain ⟨b2, off2, rfl, hb2, y0⟩ := RdI.cell HROW.out k hlt
      have y0 := (bel.cell (p := ⟨b2, off2 + k, none⟩) hb2).trans y0
      obtain ⟨j, hj⟩ : ∃ j, j = J[k] := ⟨_, rfl⟩
      have hjN : j < N := by rw [hj]; exact HJI.out _ (List.getElem_mem _)
      rw [← hj] at y0
      have TW := HT.out.below bel
      obtain ⟨c0, c1, cf⟩ := block_cells2 TW.tb
      have cJ := TW.cell j hjN
      have HST := Lib.hid (filt_snoc (fun j => at'.getD j 0 != 2) J k hlt)
      rw [← hj, ← HA.out] at HST
      have hjj : (j : Int) < (N : Int) := by omega
      have hkk : (k : Int) < (J.length : Int) := by omega
      obtain ⟨x, hx⟩ : ∃ x, x = at'.getD j 0 := ⟨_, rfl⟩
      rw [← hx] at cJ HST
      clear hx hj TW
      by_cases h2 : x = 2
      · have d2 : ((x : Int) != 2) = false := by rw [h2]; rfl
        have HA' := Lib.hid (show acc = (J.take (k + 1)).filter fun j => at'.getD j 0 != 2 by rw [HST.out, h2]; rfl)
        clear h2
        go_wp2_with fail
        exact ⟨⟨k + 1, acc, by omega, by push_cast; rfl, by omega, HA', hown, bel⟩, by simp [intOf]; omega⟩
      · have d2 : ((x : Int) != 2) = true := by rw [bne_iff_ne]; omega
        have HA' := Lib.hid (show acc ++ [j] = (J.take (k + 1)).filter fun j => at'.getD j 0 != 2 by rw [HST.out, if_pos (by rw [bne_iff_ne]; exact h2)])
        clear h2
        go_wp2_with (at_builtin; refine wpList_app1 w rfl (.tmp 28) (.tmp 30) 34 rfl w.heap.size 3 i0 (.int .i64 0) 8 Tryd.underlying34 hi0 hz0 hz1 hz2 rfl _ _ _ rfl hown _ (iv j) rfl rfl (by unfold maxLen; omega) (by omega) (Nat.le_refl _) bel ?_; intro v' w9 hown' hb')
        exact ⟨⟨k + 1, acc ++ [j], by omega, by push_cast; rfl, by simp; omega, HA', by simpa using hown', hb'⟩, by simp [intOf]; omega⟩
    · obtain rfl : k = J.length := by omega
      have E := Lib.hid (show acc = J.filter fun j => at'.getD j 0 != 2 by rw [HA.out, List.take_length])
      go_wp2_with fail
      show Z (.returned _) _
      rw [HZ.out, ← E.out]
      obtain ⟨a9, n9, c9, e9⟩ := own_val hown
      subst e9
      exact ⟨_, _, _, rfl, hown, bel⟩
set_option maxRecDepth 100000 in
set_option maxHeartbeats 1000000 in
theorem those_any (f : Nat) (lb : Array Value) (eg : ∀ args w, (callFunc f args).run Tryd.prog w = .ok (.enter f args) w) (p : Nat → Bool) (w1 : World) (pt Bs : Nat) (aA : Option Addr) (cA N : Nat) (L : List Wt) (at' : List Nat) (w : World) (T : Tb w1 w pt Bs aA cA N L at')
    (hp : ∀ i, i < N → ∀ W, Below w.heap.size w W → Calls Tryd.prog f (#[.int .i64 (i : Int)] ++ lb) W fun e w' => e = .returned (.bool (p i)) ∧ Below W.heap.size W w') :
    Calls Tryd.prog 49 #[.pointer (some ⟨pt, 0, none⟩), .func (.func f) #[] lb] w (GivesI w ((List.range N).filter p)) := by
  obtain ⟨i0, hi0, hz0, hz1, hz2⟩ := info_parts intinfo
  obtain ⟨c0, c1, cf⟩ := block_cells2 T.tb
  have h64 := T.n64
  have HP := Lib.hid hp
  obtain ⟨Z, hZ⟩ : ∃ Z, Z = GivesI w ((List.range N).filter p) := ⟨_, rfl⟩
  rw [← hZ]
  have HZ := Lib.hid hZ
  clear T hp hZ
  go_enter Tryd.func49, Tryd.ntmps49
  go_wp2_with fail
  clear c0 c1 cf
  go_loopw [5, 12] (fun o t wr => ∃ (k : Nat) (acc : List Nat), k ≤ N ∧ t = .int .i64 (k : Int) ∧ acc.length ≤ k ∧ Hid (acc = (List.range k).filter p) ∧ wr.ownsRow w.heap.size 3 1 o acc.length (acc.map iv) ∧ Below w.heap.size w wr) (fun _ t _ => N - (intOf t).toNat)
  case atStart => exact ⟨0, [], Nat.zero_le _, rfl, Nat.le_refl _, Lib.hid rfl, World.ownsRow_nil _ _ _ _, Below.refl _ _⟩
  case round =>
    obtain ⟨k, acc, hk, rfl, hacc, HA, hown, bel⟩ := hrel
    by_cases hlt : k < N
    · have MA := HP.out k hlt wr bel
      have HST := Lib.hid (filt_range p k)
      obtain ⟨R, hR⟩ : ∃ R, R = p k := ⟨_, rfl⟩
      rw [← hR, ← HA.out] at HST
      rw [← hR] at MA
      have HM := Lib.hid MA
      have hkk : (k : Int) < (N : Int) := by omega
      clear hR MA
      cases R with
      | false =>
        have HA' := Lib.hid (show acc = (List.range (k + 1)).filter p by rw [HST.out]; rfl)
        go_wp2_with fail
        refine HM.out.mono ?_
        rintro e w2 ⟨rfl, g⟩
        have hown := own_keep hown g
        have bel := chain bel g
        clear g
        go_wp2_with fail
        exact ⟨⟨k + 1, acc, by omega, by push_cast; rfl, by omega, HA', hown, bel⟩, by simp [intOf]; omega⟩
      | true =>
        have HA' := Lib.hid (show acc ++ [k] = (List.range (k + 1)).filter p by rw [HST.out]; rfl)
        go_wp2_with fail
        refine HM.out.mono ?_
        rintro e w2 ⟨rfl, g⟩
        have hown := own_keep hown g
        have bel := chain bel g
        clear g
        go_wp2_with (at_builtin; refine wpList_app1 w rfl (.tmp 18) (.tmp 20) 34 rfl w.heap.size 3 i0 (.int .i64 0) 8 Tryd.underlying34 hi0 hz0 hz1 hz2 rfl _ _ _ rfl hown _ (iv k) rfl rfl (by unfold maxLen; omega) (by omega) (Nat.le_refl _) bel ?_; intro v' w9 hown' hb')
        exact ⟨⟨k + 1, acc ++ [k], by omega, by push_cast; rfl, by simp; omega, HA', by simpa using hown', hb'⟩, by simp [intOf]; omega⟩
    · obtain rfl : k = N := by omega
      have E := Lib.hid (show acc = (List.range k).filter p from HA.out)
      go_wp2_with fail
      show Z (.returned _) _
      rw [HZ.out, ← E.out]
      obtain ⟨a9, n9, c9, e9⟩ := own_val hown
      subst e9
      exact ⟨_, _, _, rfl, hown, bel⟩
theorem own_len {w : World} {base : Nat} {e : TypeId} {a : Option Addr} {n c k : Nat} {l : List Nat} (h : w.ownsRow base e 1 (.slice a n c) k (l.map iv)) : k = l.length ∧ n = k := by
  refine ⟨by have := h.1; simpa using this.symm, ?_⟩
  rcases h.2 with ⟨h1, h2⟩ | ⟨g, cap, cur, h1, _⟩
  · injection h1 with _ q _; omega
  · injection h1
set_option maxRecDepth 100000 in
theorem ready1_any (w1 : World) (pt Bs bt : Nat) (aA : Option Addr) (cA N : Nat) (L : List Wt) (at' : List Nat) (i : Nat) (hi : i < N) (w : World) (T : Tb w1 w pt Bs aA cA N L at') (hp : w.cell? ⟨bt, 0, none⟩ = some (.pointer (some ⟨pt, 0, none⟩))) :
    Calls Tryd.prog 50 #[.int .i64 (i : Int), .pointer (some ⟨bt, 0, none⟩)] w fun e w' => e = .returned (.bool (at'.getD i 0 == 0 && (opL L at' i).length == 0)) ∧ Below w.heap.size w w' := by
  obtain ⟨c0, c1, cf⟩ := block_cells2 T.tb
  have cI := T.cell i hi
  have hii : (i : Int) < (N : Int) := by omega
  have OP := Lib.hid (open_any w1 pt Bs aA cA N L at' i hi w T)
  obtain ⟨x, hx⟩ : ∃ x, x = at'.getD i 0 := ⟨_, rfl⟩
  rw [← hx] at cI ⊢
  obtain ⟨l, hl⟩ : ∃ l, l = opL L at' i := ⟨_, rfl⟩
  rw [← hl] at OP ⊢
  clear T hx hi hl
  by_cases h0 : x = 0
  · have d0 : ((x : Int) == 0) = true := by rw [h0]; rfl
    have e0 : (x == 0) = true := by rw [h0]; rfl
    obtain ⟨R, hR⟩ : ∃ R, R = ((l.length : Int) == 0) := ⟨_, rfl⟩
    have HR := Lib.hid (show (l.length == 0) = R by rw [hR, Bool.eq_iff_iff]; simp)
    rw [e0]
    clear h0 e0
    go_enter Tryd.func50, Tryd.ntmps50
    go_wp2_with ((with_reducible refine (OP.out).mono ?_); rintro e w2 ⟨a, n, c, rfl, own, g⟩; (obtain ⟨-, hn⟩ := own_len own); subst hn; clear own)
    go_ret
    exact ⟨by rw [HR.out, hR]; first | done | rfl, g⟩
  · have d0 : ((x : Int) == 0) = false := by rw [beq_eq_false_iff_ne]; omega
    have e0 : (x == 0) = false := by rw [beq_eq_false_iff_ne]; exact h0
    rw [e0]
    clear h0 e0
    go_enter Tryd.func50, Tryd.ntmps50
    go_wp2_with fail
    go_ret
    exact ⟨rfl, Below.refl _ _⟩
set_option maxRecDepth 100000 in
theorem running1_any (w1 : World) (pt Bs bt : Nat) (aA : Option Addr) (cA N : Nat) (L : List Wt) (at' : List Nat) (i : Nat) (hi : i < N) (w : World) (T : Tb w1 w pt Bs aA cA N L at') (hp : w.cell? ⟨bt, 0, none⟩ = some (.pointer (some ⟨pt, 0, none⟩))) :
    Calls Tryd.prog 51 #[.int .i64 (i : Int), .pointer (some ⟨bt, 0, none⟩)] w fun e w' => e = .returned (.bool (at'.getD i 0 == 1)) ∧ Below w.heap.size w w' := by
  obtain ⟨c0, c1, cf⟩ := block_cells2 T.tb
  have cI := T.cell i hi
  have hii : (i : Int) < (N : Int) := by omega
  obtain ⟨x, hx⟩ : ∃ x, x = at'.getD i 0 := ⟨_, rfl⟩
  rw [← hx] at cI ⊢
  obtain ⟨R, hR⟩ : ∃ R, R = ((x : Int) == 1) := ⟨_, rfl⟩
  have HR := Lib.hid (show (x == 1) = R by rw [hR]; first | rfl | (rw [Bool.eq_iff_iff]; simp; omega))
  clear T hx hi
  go_enter Tryd.func51, Tryd.ntmps51
  go_wp2_with fail
  go_ret
  exact ⟨by rw [HR.out, hR]; first | done | rfl, Below.refl _ _⟩
set_option maxRecDepth 100000 in
theorem left1_any (w1 : World) (pt Bs bt : Nat) (aA : Option Addr) (cA N : Nat) (L : List Wt) (at' : List Nat) (i : Nat) (hi : i < N) (w : World) (T : Tb w1 w pt Bs aA cA N L at') (hp : w.cell? ⟨bt, 0, none⟩ = some (.pointer (some ⟨pt, 0, none⟩))) :
    Calls Tryd.prog 52 #[.int .i64 (i : Int), .pointer (some ⟨bt, 0, none⟩)] w fun e w' => e = .returned (.bool (at'.getD i 0 != 2)) ∧ Below w.heap.size w w' := by
  obtain ⟨c0, c1, cf⟩ := block_cells2 T.tb
  have cI := T.cell i hi
  have hii : (i : Int) < (N : Int) := by omega
  obtain ⟨x, hx⟩ : ∃ x, x = at'.getD i 0 := ⟨_, rfl⟩
  rw [← hx] at cI ⊢
  obtain ⟨R, hR⟩ : ∃ R, R = ((x : Int) != 2) := ⟨_, rfl⟩
  have HR := Lib.hid (show (x != 2) = R by rw [hR]; first | rfl | (rw [Bool.eq_iff_iff]; simp; omega))
  clear T hx hi
  go_enter Tryd.func52, Tryd.ntmps52
  go_wp2_with fail
  go_ret
  exact ⟨by rw [HR.out, hR]; first | done | rfl, Below.refl _ _⟩
set_option maxRecDepth 100000 in
theorem ready_any (w1 : World) (pt Bs : Nat) (aA : Option Addr) (cA N : Nat) (L : List Wt) (at' : List Nat) (w : World) (T : Tb w1 w pt Bs aA cA N L at') :
    Calls Tryd.prog 28 #[.pointer (some ⟨pt, 0, none⟩)] w (GivesI w ((List.range N).filter fun i => at'.getD i 0 == 0 && (opL L at' i).length == 0)) := by
  have q1 := heap_alloc_new w (.cells #[.pointer (some ⟨pt, 0, none⟩)] 42)
  have bel := (Below.refl w.heap.size w).alloc (Nat.le_refl _) (.cells #[.pointer (some ⟨pt, 0, none⟩)] 42)
  have C := those_any 50 #[.pointer (some ⟨w.heap.size, 0, none⟩)] (enters_of Tryd.func50 (by kernel_rfl) rfl) (fun i => at'.getD i 0 == 0 && (opL L at' i).length == 0) w1 pt Bs aA cA N L at' _ (T.below bel)
    (fun i hi W g => ready1_any w1 pt Bs w.heap.size aA cA N L at' i hi W ((T.below bel).below g) (by
      have := block_cell ((g.block _ (lt_of_block q1)).trans q1) 0
      simpa using this))
  obtain ⟨l, hl⟩ : ∃ l, l = (List.range N).filter fun i => at'.getD i 0 == 0 && (opL L at' i).length == 0 := ⟨_, rfl⟩
  rw [← hl] at C ⊢
  have H := Lib.hid C
  clear C hl q1 T
  go_enter Tryd.func28, Tryd.ntmps28
  go_wp2_with ((with_reducible refine (H.out).mono ?_); rintro e w2 ⟨a, n, c, rfl, own, g⟩)
  go_ret
  exact ⟨a, n, c, rfl, own_base own bel.size, bel.trans (g.mono bel.size)⟩
set_option maxRecDepth 100000 in
theorem running_any (w1 : World) (pt Bs : Nat) (aA : Option Addr) (cA N : Nat) (L : List Wt) (at' : List Nat) (w : World) (T : Tb w1 w pt Bs aA cA N L at') :
    Calls Tryd.prog 30 #[.pointer (some ⟨pt, 0, none⟩)] w (GivesI w ((List.range N).filter fun i => at'.getD i 0 == 1)) := by
  have q1 := heap_alloc_new w (.cells #[.pointer (some ⟨pt, 0, none⟩)] 42)
  have bel := (Below.refl w.heap.size w).alloc (Nat.le_refl _) (.cells #[.pointer (some ⟨pt, 0, none⟩)] 42)
  have C := those_any 51 #[.pointer (some ⟨w.heap.size, 0, none⟩)] (enters_of Tryd.func51 (by kernel_rfl) rfl) (fun i => at'.getD i 0 == 1) w1 pt Bs aA cA N L at' _ (T.below bel)
    (fun i hi W g => running1_any w1 pt Bs w.heap.size aA cA N L at' i hi W ((T.below bel).below g) (by
      have := block_cell ((g.block _ (lt_of_block q1)).trans q1) 0
      simpa using this))
  obtain ⟨l, hl⟩ : ∃ l, l = (List.range N).filter fun i => at'.getD i 0 == 1 := ⟨_, rfl⟩
  rw [← hl] at C ⊢
  have H := Lib.hid C
  clear C hl q1 T
  go_enter Tryd.func30, Tryd.ntmps30
  go_wp2_with ((with_reducible refine (H.out).mono ?_); rintro e w2 ⟨a, n, c, rfl, own, g⟩)
  go_ret
  exact ⟨a, n, c, rfl, own_base own bel.size, bel.trans (g.mono bel.size)⟩
set_option maxRecDepth 100000 in
theorem left_any (w1 : World) (pt Bs : Nat) (aA : Option Addr) (cA N : Nat) (L : List Wt) (at' : List Nat) (w : World) (T : Tb w1 w pt Bs aA cA N L at') :
    Calls Tryd.prog 31 #[.pointer (some ⟨pt, 0, none⟩)] w fun e w' => e = .returned (.int .i64 ((((List.range N).filter fun i => at'.getD i 0 != 2).length : Nat) : Int)) ∧ Below w.heap.size w w' := by
  have q1 := heap_alloc_new w (.cells #[.pointer (some ⟨pt, 0, none⟩)] 42)
  have bel := (Below.refl w.heap.size w).alloc (Nat.le_refl _) (.cells #[.pointer (some ⟨pt, 0, none⟩)] 42)
  have C := those_any 52 #[.pointer (some ⟨w.heap.size, 0, none⟩)] (enters_of Tryd.func52 (by kernel_rfl) rfl) (fun i => at'.getD i 0 != 2) w1 pt Bs aA cA N L at' _ (T.below bel)
    (fun i hi W g => left1_any w1 pt Bs w.heap.size aA cA N L at' i hi W ((T.below bel).below g) (by
      have := block_cell ((g.block _ (lt_of_block q1)).trans q1) 0
      simpa using this))
  obtain ⟨l, hl⟩ : ∃ l, l = (List.range N).filter fun i => at'.getD i 0 != 2 := ⟨_, rfl⟩
  rw [← hl] at C ⊢
  have H := Lib.hid C
  clear C hl q1 T
  go_enter Tryd.func31, Tryd.ntmps31
  go_wp2_with ((with_reducible refine (H.out).mono ?_); rintro e w2 ⟨a, n, c, rfl, own, g⟩; (obtain ⟨-, hn⟩ := own_len own); subst hn; clear own)
  go_ret
  exact ⟨rfl, bel.trans (g.mono bel.size)⟩
set_option maxRecDepth 100000 in
theorem done_any (w1 : World) (pt Bs : Nat) (aA : Option Addr) (cA N : Nat) (L : List Wt) (at' : List Nat) (w : World) (T : Tb w1 w pt Bs aA cA N L at') :
    Calls Tryd.prog 32 #[.pointer (some ⟨pt, 0, none⟩)] w fun e w' => e = .returned (.bool (((List.range N).filter fun i => at'.getD i 0 != 2).length == 0)) ∧ Below w.heap.size w w' := by
  have H := Lib.hid (left_any w1 pt Bs aA cA N L at' w T)
  generalize ((List.range N).filter fun i => at'.getD i 0 != 2).length = n at H ⊢
  obtain ⟨R, hR⟩ : ∃ R, R = ((n : Int) == 0) := ⟨_, rfl⟩
  have HR := Lib.hid (show (n == 0) = R by rw [hR, Bool.eq_iff_iff]; simp)
  clear T
  go_enter Tryd.func32, Tryd.ntmps32
  go_wp2_with ((with_reducible refine (H.out).mono ?_); rintro e w2 ⟨rfl, g⟩)
  go_ret
  exact ⟨by rw [HR.out, hR]; first | done | rfl, g⟩
set_option maxRecDepth 100000 in
theorem waits_no (w1 : World) (pt Bs : Nat) (aA : Option Addr) (cA N : Nat) (L : List Wt) (at' : List Nat) (i : Int) (w : World) (T : Tb w1 w pt Bs aA cA N L at') (h : hasB N i = false) :
    Calls Tryd.prog 24 #[.pointer (some ⟨pt, 0, none⟩), .int .i64 i] w fun e w' => e = .returned (.tuple #[.slice none 0 0, .int .i64 4]) ∧ Below w.heap.size w w' := by
  have H0 := has_any w1 pt Bs aA cA N L at' i w T
  rw [h] at H0
  have H := Lib.hid H0
  clear H0 h T
  go_enter Tryd.func24, Tryd.ntmps24
  go_wp2_with ((with_reducible refine (H.out).mono ?_); rintro e w2 ⟨rfl, rfl⟩)
  go_ret2
  exact ⟨rfl, Below.refl _ _⟩
theorem has_yes {N i : Nat} (h : i < N) : hasB N (i : Int) = true := by unfold hasB; simp; omega
set_option maxRecDepth 100000 in
theorem waits_yes (w1 : World) (pt Bs : Nat) (aA : Option Addr) (cA N : Nat) (L : List Wt) (at' : List Nat) (i : Nat) (hi : i < N) (w : World) (T : Tb w1 w pt Bs aA cA N L at') :
    Calls Tryd.prog 24 #[.pointer (some ⟨pt, 0, none⟩), .int .i64 (i : Int)] w fun e w' => ∃ a n c, e = .returned (.tuple #[.slice a n c, .int .i64 0]) ∧ w'.ownsRow w.heap.size 3 1 (.slice a n c) (opL L at' i).length ((opL L at' i).map iv) ∧ Below w.heap.size w w' := by
  have H0 := has_any w1 pt Bs aA cA N L at' (i : Int) w T
  rw [has_yes hi] at H0
  have H := Lib.hid H0
  have OP := Lib.hid (open_any w1 pt Bs aA cA N L at' i hi w T)
  generalize opL L at' i = l at OP ⊢
  obtain ⟨Z, hZ⟩ : ∃ Z : Ending → World → Prop, Z = fun e w' => ∃ a n c, e = .returned (.tuple #[.slice a n c, .int .i64 0]) ∧ w'.ownsRow w.heap.size 3 1 (.slice a n c) l.length (l.map iv) ∧ Below w.heap.size w w' := ⟨_, rfl⟩
  rw [← hZ]
  have HZ := Lib.hid hZ
  clear H0 hi T hZ
  go_enter Tryd.func24, Tryd.ntmps24
  go_wp2_with (first | ((with_reducible refine (H.out).mono ?_); rintro e w2 ⟨rfl, rfl⟩) | ((with_reducible refine (OP.out).mono ?_); rintro e w2 ⟨a, n, c, rfl, own, g⟩))
  show Z (.returned _) _
  rw [HZ.out]
  exact ⟨a, n, c, rfl, own, g⟩
end Go.Proofs.YtjmfiekgpoonjaaDoor
