/- Trunks: a trunk among the arguments. Written by wip/tools/gen10p.py. -/
/- Trunks: Count, Weight; which buckets are unlike. Written by wip/tools/gen10h.py. -/
import Derived.Test.YtbdfcgffkonbiaaDoorQSN13
import Derived.Test.YtbdfcgffkonbiaaDoorQSN23
import Derived.Test.YtbdfcgffkonbiaaDoorQSN12
namespace Go.Proofs.YtbdfcgffkonbiaaDoor
open Go Go.ChangeShapes Go.WideShapes Go.ChangeAt Go.RowKit Go.Joins
set_option linter.unusedVariables false
set_option linter.unusedSimpArgs false
set_option maxRecDepth 100000
theorem trunk_cells : Tryd.prog.cellsOf 26 = 32 := by kernel_rfl
theorem leaves_cells : Tryd.prog.cellsOf 23 = 16 := by kernel_rfl
theorem vers_cells : Tryd.prog.cellsOf 24 = 16 := by kernel_rfl
theorem items_cells : Tryd.prog.cellsOf 22 = 1 := by kernel_rfl
def WfT (lv : Nat → List It) : Prop := ∀ b, b < 16 → WfI (lv b)
theorem one_of {l : List Value} {i n : Nat} (hi : i < n) (hl : l.length = n) : ∃ v, l[i]? = some v ∧ (l.drop i).take 1 = [v] := by
  have h : i < l.length := by omega
  refine ⟨l[i], List.getElem?_eq_getElem h, ?_⟩
  rw [List.drop_eq_getElem_cons h]; rfl
section
variable {H : Type} {enc : TypeId × Value → H}
theorem open_trunk {W : World} {r : Reach} {base b0 : Nat} {hd : Bool} {v : Value} {d : DataW H} {p : List MemPlace}
    (hval : Value.okWide Tryd.prog W r b0 26 v) (h : DataW.Trod enc Tryd.prog W base (fun _ => true) hd 26 v d p) : ∃ (cs : Array Value) (lv : Nat → List It) (vs : Nat → Int), v = .agg cs ∧ RdT W cs lv vs ∧ SzT lv ∧ WfT lv := by
  obtain ⟨cs, rfl, hsz⟩ := okWide_struct Tryd.underlying26 hval
  rw [trunk_cells] at hsz
  obtain ⟨fuel, hf⟩ := h
  obtain ⟨xs, n, _, hx, _, hlen, hg⟩ := DataW.trod_struct Tryd.underlying26 hf
  match xs, hlen with
  | [y0, y1], _ =>
    have h0 := hg 0 _ rfl
    have h1 := hg 1 _ rfl
    simp only [leaves_cells, vers_cells, Value.cells] at h0 h1
    have hll : cs.toList.length = 32 := by rw [Array.length_toList]; exact hsz
    obtain ⟨A, hA⟩ : ∃ A, A = (cs.toList.drop 0).take 16 := ⟨_, rfl⟩
    obtain ⟨B, hB⟩ : ∃ B, B = (cs.toList.drop 16).take 16 := ⟨_, rfl⟩
    have lA : A.length = 16 := by rw [hA, List.length_take, List.length_drop]; omega
    have lB : B.length = 16 := by rw [hB, List.length_take, List.length_drop]; omega
    have h0' : DataW.trod enc Tryd.prog W base (fun _ => true) hd n 23 A = some y0 := by rw [hA]; exact h0
    have h1' : DataW.trod enc Tryd.prog W base (fun _ => true) hd n 24 B = some y1 := by rw [hB]; exact h1
    obtain ⟨ys, m, _, _, _, hly, hgy⟩ := DataW.trod_array Tryd.underlying23 h0'
    obtain ⟨zs, m2, _, _, _, hlz, hgz⟩ := DataW.trod_array Tryd.underlying24 h1'
    have each : ∀ b, b < 16 → ∃ l : List It, (∃ u, cs[b]? = some u ∧ RdI W u l) ∧ SzI l ∧ WfI l := by
      intro b hb
      have e1 := hgy b hb
      rw [items_cells, Nat.mul_one] at e1
      obtain ⟨u, hu, hu2⟩ := one_of hb lA
      rw [hu2, List.getElem?_eq_getElem (by omega : b < ys.length)] at e1
      obtain ⟨l, q1, q2, q3⟩ := open_items_at e1
      refine ⟨l, ⟨u, ?_, q1⟩, q2, q3⟩
      rw [hA, List.getElem?_take, if_pos hb, List.drop_zero, Array.getElem?_toList] at hu
      exact hu
    have eachV : ∀ b, b < 16 → ∃ x : Int, cs[16 + b]? = some (.int .i64 x) := by
      intro b hb
      have e1 := hgz b hb
      rw [int_cells9, Nat.mul_one] at e1
      obtain ⟨u, hu, hu2⟩ := one_of hb lB
      rw [hu2, List.getElem?_eq_getElem (by omega : b < zs.length)] at e1
      obtain ⟨a, ea, _, _⟩ := DataW.trod_int Tryd.underlying3 e1
      refine ⟨a, ?_⟩
      rw [hB, List.getElem?_take, if_pos hb, List.getElem?_drop, Array.getElem?_toList] at hu
      simp at ea
      rw [hu, ea]
    refine ⟨cs, fun b => if hb : b < 16 then (each b hb).choose else [], fun b => if hb : b < 16 then (eachV b hb).choose else 0, rfl, ⟨hsz, fun b hb => ?_, fun b hb => ?_⟩, fun b hb => ?_, fun b hb => ?_⟩
    · simp only [hb, dite_true]; exact (each b hb).choose_spec.1
    · simp only [hb, dite_true]; exact (eachV b hb).choose_spec
    · simp only [hb, dite_true]; exact (each b hb).choose_spec.2.1
    · simp only [hb, dite_true]; exact (each b hb).choose_spec.2.2
end
end Go.Proofs.YtbdfcgffkonbiaaDoor
namespace Go.Proofs.YtbdfcgffkonbiaaDoor
open Go Go.RowKit
set_option linter.unusedVariables false
set_option linter.unusedSimpArgs false
def arr16 (cs : Array Value) : List Value := cs.toList.take 16
theorem arr16_len {cs : Array Value} (h : cs.size = 32) : (arr16 cs).length = 16 := by unfold arr16; rw [List.length_take, Array.length_toList]; omega
theorem arr16_at {cs : Array Value} {k : Nat} (hk : k < 16) : (arr16 cs).toArray[k]? = cs[k]? := by
  unfold arr16; rw [List.getElem?_toArray, List.getElem?_take, if_pos hk, Array.getElem?_toList]
theorem arr16_range {w : World} {B : Nat} {cs : Array Value} {t : TypeId} (q : w.heap[B]? = some (.cells cs t (0, 0))) : w.rangeAt B 0 (arr16 cs) := by
  intro j v hv
  have hj : j < 16 := by
    have := (List.getElem?_eq_some_iff.1 hv).1
    unfold arr16 at this; rw [List.length_take] at this; omega
  rw [Nat.zero_add, block_cell q j, ← arr16_at hj, List.getElem?_toArray]; exact hv
theorem info16 {cs : Array Value} (h : cs.size = 32) : (Tryd.prog.info? 23).map (·.size) = some (arr16 cs).length := by
  rw [arr16_len h]; kernel_rfl
/-- What a function says of the leaves, added up. -/
def sumN (p : List It → Nat) (lv : Nat → List It) (n : Nat) : Nat := ((List.range n).map fun b => p (lv b)).sum
theorem sumN_succ (p : List It → Nat) (lv : Nat → List It) (n : Nat) : sumN p lv (n + 1) = sumN p lv n + p (lv n) := by
  unfold sumN; rw [List.range_succ, List.map_append, List.sum_append]; simp
def sumT (p : List It → Nat) (lv : Nat → List It) (vs : Nat → Int) : Nat := if mayTs lv vs 16 = true then sumN p lv 16 else 0
set_option maxRecDepth 100000 in
set_option maxHeartbeats 2000000 in
theorem sum_any (F : Nat) (p : List It → Nat) (cs : Array Value) (lv : Nat → List It) (vs : Nat → Int) (w : World) (tab : TabAt w) (h : RdT w cs lv vs) (hsz : SzT lv)
    (HP : ∀ b, b < 16 → ∀ W u, TabAt W → RdI W u (lv b) → Calls Tryd.prog F #[u] W fun e w' => e = .returned (.int .i64 (p (lv b) : Int)) ∧ Below W.heap.size W w')
    (hp : ∀ b, b < 16 → p (lv b) ≤ 100000) (eg : ∀ args w, (callFunc F args).run Tryd.prog w = .ok (.enter F args) w) :
    Calls Tryd.prog 88 #[.agg cs, .func (.func F) #[] #[]] w fun e w' => e = .returned (.int .i64 (sumT p lv vs : Int)) ∧ Below w.heap.size w w' := by
  have hs := infoTc h.size
  have hs16 := info16 h.size
  have HT := Lib.hid h
  have HPP := Lib.hid HP
  have HPB := Lib.hid hp
  obtain ⟨R, hR⟩ : ∃ R, R = sumT p lv vs := ⟨_, rfl⟩
  rw [← hR]
  have q2 := heap_alloc_new w (.cells cs 26)
  have bel := (Below.refl w.heap.size w).alloc (Nat.le_refl _) (.cells cs 26)
  have T0 := tab.below bel
  have T1 := Lib.hid tab
  have TM0 := tmay_any cs lv vs _ T0 (h.below bel (Nat.le_refl _)) hsz
  clear h hsz tab HP hp
  cases hm : mayTs lv vs 16 with
  | false =>
    have HR := Lib.hid (show R = 0 by rw [hR]; unfold sumT; rw [hm]; rfl)
    rw [hm] at TM0
    have TM := Lib.hid TM0
    clear hR hm TM0
    go_enter Tryd.func88, Tryd.ntmps88
    go_wp2_with (with_reducible refine wpList_load_row (o := ⟨some 8, _, _, _, _, _⟩) rfl 26 (.tmp 2) rfl _ rfl _ cs (0, 0) _ q2 Tryd.underlying26 rfl hs ?_)
    refine TM.out.mono ?_
    rintro e w1 ⟨rfl, g⟩
    replace bel := chain bel g
    clear g q2
    go_wp2_with fail
    go_ret
    exact ⟨by rw [HR.out]; rfl, bel⟩
  | true =>
    have HR := Lib.hid (show R = sumN p lv 16 by rw [hR]; unfold sumT; rw [hm]; rfl)
    rw [hm] at TM0
    have TM := Lib.hid TM0
    clear hR hm TM0
    go_enter Tryd.func88, Tryd.ntmps88
    go_wp2_with (with_reducible refine wpList_load_row (o := ⟨some 8, _, _, _, _, _⟩) rfl 26 (.tmp 2) rfl _ rfl _ cs (0, 0) _ q2 Tryd.underlying26 rfl hs ?_)
    refine TM.out.mono ?_
    rintro e w1 ⟨rfl, g⟩
    replace q2 := (g.block _ (lt_of_block q2)).trans q2
    replace bel := chain bel g
    have hrg := arr16_range q2
    clear g
    go_wp2_with (with_reducible refine wpList_load_mid (op := ⟨some 12, _, _, _, _, _⟩) rfl 23 (.tmp 11) rfl _ 0 rfl (arr16 cs) _ hrg Tryd.underlying23 rfl hs16 ?_)
    obtain ⟨A, hA⟩ : ∃ A, A = (arr16 cs).toArray := ⟨_, rfl⟩
    rw [← hA]
    have HA := Lib.hid hA
    clear hA hrg hs16 q2
    go_loopw [5, 13] (fun n i wr => ∃ k : Nat, k ≤ 16 ∧ i = .int .i64 (k : Int) ∧ n = .int .i64 (sumN p lv k : Int) ∧ Hid (sumN p lv k ≤ k * 100000) ∧ Below w.heap.size w wr) (fun _ i _ => 20 - (intOf i).toNat)
    case atStart => exact ⟨0, by omega, rfl, rfl, Lib.hid (Nat.zero_le _), bel⟩
    case round =>
      clear bel
      obtain ⟨k, hk, rfl, rfl, HB, bel⟩ := hrel
      by_cases hlt : k < 16
      · have hlti : (k : Int) < 16 := by omega
        obtain ⟨u, hu, hru⟩ := HT.out.leaf k hlt
        have hX := fun W => ix16 A k u hlt (by rw [HA.out, arr16_at hlt]; exact hu) W
        have b1 := HB.out
        have b2 := HPB.out k hlt
        have HN := Lib.hid (sumN_succ p lv k)
        have HBN := Lib.hid (show sumN p lv (k + 1) ≤ (k + 1) * 100000 by rw [sumN_succ]; omega)
        have PC := HPP.out k hlt wr u (T1.out.below bel) (hru.below bel (Nat.le_refl _))
        obtain ⟨P, hP⟩ : ∃ P, P = p (lv k) := ⟨_, rfl⟩
        obtain ⟨Q, hQ⟩ : ∃ Q, Q = sumN p lv k := ⟨_, rfl⟩
        rw [← hP] at PC b2 HN
        rw [← hQ] at b1 HN ⊢
        have p1 : (P : Int) ≤ 100000 := by omega
        have p2 : (Q : Int) ≤ 1600000 := by omega
        have p3 : (0 : Int) ≤ P := by omega
        have p4 : (0 : Int) ≤ Q := by omega
        clear hu hru hP hQ b1 b2
        go_wp2_with fail
        refine PC.mono ?_
        rintro e w2 ⟨rfl, g⟩
        have bel2 := chain bel g
        clear PC g hX
        go_wp2_with fail
        exact ⟨⟨k + 1, by omega, by push_cast; rfl, by rw [HN.out]; push_cast; rfl, HBN, bel2⟩, by simp [intOf]; omega⟩
      · obtain rfl : k = 16 := by omega
        go_wp2_with fail
        go_ret
        exact ⟨by rw [HR.out]; rfl, bel⟩
theorem isT {lv : Nat → List It} {vs : Nat → Int} (h : mayTs lv vs 16 = true) {b : Nat} (hb : b < 16) : isL (lv b) = true := mayT_is (mayTs_at h hb)
set_option maxRecDepth 100000 in
theorem count_any (cs : Array Value) (lv : Nat → List It) (vs : Nat → Int) (w : World) (tab : TabAt w) (h : RdT w cs lv vs) (hsz : SzT lv) (h100 : ∀ b, b < 16 → (lv b).length ≤ 100) :
    Calls Tryd.prog 55 #[.agg cs] w fun e w' => e = .returned (.int .i64 (sumT List.length lv vs : Int)) ∧ Below w.heap.size w w' := by
  have hs := infoTc h.size
  have q2 := heap_alloc_new w (.cells cs 26)
  have bel := (Below.refl w.heap.size w).alloc (Nat.le_refl _) (.cells cs 26)
  have SU := Lib.hid (sum_any 90 List.length cs lv vs _ (tab.below bel) (h.below bel (Nat.le_refl _)) hsz (fun b hb W u _ hr => by
    obtain ⟨ao, cap, rfl, hc, hm, _⟩ := RdK.open hr
    go_enter Tryd.func90, Tryd.ntmps90
    go_wp2_with fail
    go_ret
    exact ⟨rfl, Below.refl _ _⟩) (fun b hb => Nat.le_trans (h100 b hb) (by decide)) (fun args w => by kernel_rfl))
  obtain ⟨R, hR⟩ : ∃ R, R = sumT List.length lv vs := ⟨_, rfl⟩
  rw [← hR] at SU ⊢
  clear hR h hsz tab h100
  go_enter Tryd.func55, Tryd.ntmps55
  go_wp2_with (with_reducible refine wpList_load_row (o := ⟨some 3, _, _, _, _, _⟩) rfl 26 (.tmp 1) rfl _ rfl _ cs (0, 0) _ q2 Tryd.underlying26 rfl hs ?_)
  refine SU.out.mono ?_
  rintro e w1 ⟨rfl, g⟩
  replace bel := chain bel g
  clear g q2
  go_wp2_with fail
  go_ret
  exact ⟨rfl, bel⟩
open Classical in
noncomputable def itEq (x y : It) : Bool := decide (x = y)
theorem it_ne_yes (x y : It) (h : x ≠ y) (w : World) : (binOp .neq 53 (itV x) (itV y)).run Tryd.prog w = .ok (.bool true) w := by
  obtain ⟨a, ⟨b, c, d⟩, e⟩ := x
  obtain ⟨a', ⟨b', c', d'⟩, e'⟩ := y
  unfold itV
  go_simp
  by_cases h1 : a = a'
  · by_cases h2 : b = b'
    · by_cases h3 : c = c'
      · by_cases h4 : d = d'
        · by_cases h5 : e = e'
          · exact absurd (by rw [h1, h2, h3, h4, h5]) h
          · simp [h1, h2, h3, h4, h5, str_tl]
        · simp [h1, h2, h3, h4, str_tl]
      · simp [h1, h2, h3, str_tl]
    · simp [h1, h2, str_tl]
  · simp [h1, str_tl]
theorem it_guard : Tryd.prog.eqGuardType Tryd.prog.depth 53 = false := by kernel_rfl
theorem it_neq_op (op : Oper) (a : Act) (x y : Operand) (T' : TypeId) (p q : It) (r : Bool) (hr : r = !(itEq p q)) (ho : op.op = .binOp .neq 53 x y T') (hx : a.eval x = itV p) (hy : a.eval y = itV q) (w : World) : (execOp a.eval op).run Tryd.prog w = .ok (.value (.bool r)) w := by
  subst hr
  have h : (binOp .neq 53 (itV p) (itV q)).run Tryd.prog w = .ok (.bool (!(itEq p q))) w := by
    by_cases e : p = q
    · subst e; rw [it_ne_same]; simp [itEq]
    · rw [it_ne_yes p q e]; simp [itEq, e]
  have g := it_guard
  have e : (eqGuard .neq 53 x y (itV p) (itV q)).run Tryd.prog w = .ok () w := by
    unfold itV; exact run_eqGuard_agg (hm := g) ..
  simp only [execOp, ho, hx, hy, Sem.run_bind, e, h, Result.andThen_ok, Sem.run_pure]
end Go.Proofs.YtbdfcgffkonbiaaDoor
