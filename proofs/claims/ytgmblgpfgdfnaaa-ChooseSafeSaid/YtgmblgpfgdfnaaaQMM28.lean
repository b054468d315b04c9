/- Marks: slices.IndexFunc, slices.DeleteFunc, slices.Clone. Written by wip/tools/gen30e.py. -/
import Derived.Test.YtgmblgpfgdfnaaaQMM27
import Derived.Lib.SliceRun
import Derived.Lib.AppendZeros
import Derived.Lib.BufferMore
namespace Go.Proofs.Ytgmblgpfgdfnaaa
open Go Go.RowKit
set_option linter.unusedVariables false
set_option linter.unusedSimpArgs false
set_option maxRecDepth 100000

theorem grown_none {w w' : World} {r : Option Nat} (g : Below w.heap.size w w') : w.grownBy w' r := ⟨g.os, g.tape, g.output, g.size, fun k hk _ => g.block k hk⟩
theorem own_rows_below {w w' : World} {base : Nat} {e : TypeId} {s : Nat} {v : Value} {n : Nat} {xs : List Value} (h : w.ownsRow base e s v n xs) (g : Below w.heap.size w w') : w'.ownsRow base e s v n xs :=
  h.kept (row := none) (grown_none g) (by cases v.ownBlock <;> simp)
theorem own_short {w : World} {base : Nat} {e : TypeId} {s g n cap : Nat} {xs : List Value} (h : w.ownsRow base e s (.slice (some ⟨g, 0, none⟩) n cap) n xs) (k : Nat) (hk : k ≤ n) : w.ownsRow base e s (.slice (some ⟨g, 0, none⟩) k cap) k (xs.take (k * s)) := by
  obtain ⟨h1, h2⟩ := h
  rcases h2 with ⟨h2, _⟩ | ⟨g', cap', cur, h2, h3, h4, h5, h6, h7, h8⟩
  · simp at h2
  · simp only [Value.slice.injEq, Option.some.injEq, Addr.mk.injEq, and_true, true_and] at h2
    obtain ⟨rfl, rfl⟩ := h2
    have hm : k * s ≤ n * s := Nat.mul_le_mul_right s hk
    refine ⟨by rw [List.length_take, h1]; omega, .inr ⟨g, cap, cur, rfl, h3, h4, Nat.le_trans hk h5, h6, h7, ?_⟩⟩
    rw [← h8, List.take_take, Nat.min_eq_left hm]
theorem own_beyond {base : Nat} {e : TypeId} {s g n cap : Nat} {xs : List Value} : ∀ (vs : List Value) (o : Nat) (w : World), w.ownsRow base e s (.slice (some ⟨g, 0, none⟩) n cap) n xs → n * s ≤ o → (w.setCells g o vs).ownsRow base e s (.slice (some ⟨g, 0, none⟩) n cap) n xs ∧ w.grownBy (w.setCells g o vs) (some g)
  | [], _, w, h, _ => ⟨h, grown_reflB⟩
  | v :: r, o, w, h, ho => by
    have h1 := (h.stored o v).1
    rw [List.set_eq_of_length_le (by rw [h.1]; exact ho)] at h1
    have h2 := own_beyond r (o + 1) _ h1 (by omega)
    exact ⟨h2.1, grown_transB (grown_setB grown_reflB) h2.2⟩
theorem run_clear_k {P : Program} (w : World) (t e ty : TypeId) (z : Value) (ht : P.underlying t = some (.slice e)) (hv : ∀ w, (zeroValue e).run P w = .ok z w) (b o n c : Nat) (hn : 0 < n) (h1 : ∀ v ∈ (Builtin.zeroCells z.cells n).toList, v.oneCell' = true)
    (hc : ∀ j, j < n * z.cells.size → (w.cell? ⟨b, o + j, none⟩).isSome = true) (hf : ∀ j, j < n * z.cells.size → w.frozen? ⟨b, o + j, none⟩ = false) :
    (Builtin.clear_ #[t] ty #[.slice (some ⟨b, o, none⟩) n c]).run P w = .ok (.tuple #[]) (w.setCells b o (Builtin.zeroCells z.cells n).toList) := by
  have hlen : (Builtin.zeroCells z.cells n).toList.length = n * z.cells.size := by simp [Builtin.zeroCells]
  have hst := run_storeCells_cells (P := P) b o (Builtin.zeroCells z.cells n).toList 0 w (by rw [hlen]; simpa using hc) (by rw [hlen]; simpa using hf) h1
  simp only [Nat.add_zero] at hst
  obtain ⟨m, rfl⟩ : ∃ m, n = m + 1 := ⟨n - 1, by omega⟩
  simp [Builtin.clear_, run_underlying ht, hv, hst]
theorem zero_one (n : Nat) : ∀ v ∈ (Builtin.zeroCells #[Value.int .i64 0, .int .i64 0, .int .i64 0] n).toList, v.oneCell' = true := by
  intro v hv
  unfold Builtin.zeroCells at hv
  simp only [Array.toList_map, List.mem_map] at hv
  obtain ⟨i, _, rfl⟩ := hv
  have h3 : i % #[Value.int .i64 0, Value.int .i64 0, Value.int .i64 0].size < 3 := Nat.mod_lt _ (by decide)
  generalize i % #[Value.int .i64 0, Value.int .i64 0, Value.int .i64 0].size = q at h3 ⊢
  match q, h3 with
  | 0, _ => rfl
  | 1, _ => rfl
  | 2, _ => rfl
theorem flat_set {l : List Vt} {p : Nat} {x : Vt} (hp : p < l.length) : (((l.flatMap vtC).set (p * 3) (.int .i64 x.fr)).set (p * 3 + 1) (.int .i64 x.vw)).set (p * 3 + 2) (.int .i64 x.tm) = (l.set p x).flatMap vtC := by
  induction l generalizing p with
  | nil => cases hp
  | cons y r ih =>
    cases p with
    | zero => simp [vtC]
    | succ p =>
      have := ih (p := p) (by simpa using hp)
      rw [List.set_cons_succ, List.flatMap_cons, List.flatMap_cons, ← this]
      simp [vtC, show (p + 1) * 3 = p * 3 + 3 by omega]
/-- The list while elements are struck: what is kept of the first j, and what stood behind. -/
def midL (p : Vt → Bool) (l : List Vt) (j : Nat) : List Vt := (l.take j).filter (fun x => !p x) ++ l.drop ((l.take j).filter (fun x => !p x)).length
def keepN (p : Vt → Bool) (l : List Vt) (j : Nat) : Nat := ((l.take j).filter (fun x => !p x)).length
theorem keepN_le (p : Vt → Bool) (l : List Vt) (j : Nat) : keepN p l j ≤ j := by
  unfold keepN
  exact Nat.le_trans (List.length_filter_le _ _) (by rw [List.length_take]; omega)
theorem midL_len (p : Vt → Bool) (l : List Vt) (j : Nat) (hj : j ≤ l.length) : (midL p l j).length = l.length := by
  have := keepN_le p l j
  unfold keepN at this
  unfold midL
  rw [List.length_append, List.length_drop]; omega
theorem midL_at (p : Vt → Bool) (l : List Vt) (j i : Nat) (hi : keepN p l j ≤ i) (hl : i < l.length) (h' : i < (midL p l j).length) : (midL p l j)[i]'h' = l[i] := by
  unfold keepN at hi
  have e : (midL p l j)[i]? = l[i]? := by
    unfold midL
    rw [List.getElem?_append_right hi, List.getElem?_drop]
    congr 1
    omega
  rw [List.getElem?_eq_getElem h', List.getElem?_eq_getElem hl] at e
  exact Option.some.inj e
theorem keepN_no (p : Vt → Bool) (l : List Vt) (j : Nat) (hj : j < l.length) (h : p l[j] = true) : keepN p l (j + 1) = keepN p l j ∧ midL p l (j + 1) = midL p l j := by
  have e : (l.take (j + 1)).filter (fun x => !p x) = (l.take j).filter (fun x => !p x) := by
    rw [List.take_succ_eq_append_getElem hj, List.filter_append]; simp [h]
  unfold keepN midL
  rw [e]
  exact ⟨rfl, rfl⟩
theorem keepN_yes (p : Vt → Bool) (l : List Vt) (j : Nat) (hj : j < l.length) (h : p l[j] = false) : keepN p l (j + 1) = keepN p l j + 1 ∧ midL p l (j + 1) = (midL p l j).set (keepN p l j) l[j] := by
  have e : (l.take (j + 1)).filter (fun x => !p x) = (l.take j).filter (fun x => !p x) ++ [l[j]] := by
    rw [List.take_succ_eq_append_getElem hj, List.filter_append]; simp [h]
  have hk := keepN_le p l j
  unfold keepN at hk ⊢
  unfold midL
  rw [e]
  refine ⟨by simp, ?_⟩
  generalize (l.take j).filter (fun x => !p x) = K at hk ⊢
  rw [List.set_append_right _ _ (Nat.le_refl _), Nat.sub_self, List.append_assoc]
  congr 1
  have hd : l.drop K.length = l[K.length]'(by omega) :: l.drop (K.length + 1) := (List.drop_eq_getElem_cons (by omega))
  rw [hd, List.set_cons_zero]
  simp
theorem midL_take (p : Vt → Bool) (l : List Vt) (j : Nat) : (midL p l j).take (keepN p l j) = (l.take j).filter (fun x => !p x) := by
  unfold midL keepN
  rw [List.take_append_of_le_length (Nat.le_refl _), List.take_length]
theorem keepN_first (p : Vt → Bool) (l : List Vt) (k : Nat) (h : ∀ j (hj : j < l.length), j < k → p l[j] = false) (hk : k < l.length) (hp : p l[k] = true) : keepN p l (k + 1) = k ∧ midL p l (k + 1) = l := by
  have e : (l.take (k + 1)).filter (fun x => !p x) = l.take k := by
    rw [List.take_succ_eq_append_getElem hk, List.filter_append]
    simp only [hp, Bool.not_true, Bool.false_eq_true, not_false_eq_true, List.filter_cons_of_neg, List.filter_nil, List.append_nil]
    rw [List.filter_eq_self]
    intro x hx
    obtain ⟨i, hi, rfl⟩ := List.mem_iff_getElem.1 hx
    rw [List.length_take] at hi
    rw [List.getElem_take]
    simp [h i (by omega) (by omega)]
  unfold keepN midL
  rw [e, List.length_take]
  exact ⟨by omega, by rw [show min k l.length = k by omega, List.take_append_drop]⟩
theorem own_rdt {w : World} {base : Nat} {v : Value} {l : List Vt} (h : w.ownsRow base 30 3 v l.length (l.flatMap vtC)) : RdT w v l := own_rdk vtC_len h
set_option maxHeartbeats 1000000 in
theorem index_any (f : Nat) (lb : Array Value) (eg : ∀ args w, (callFunc f args).run Try.prog w = .ok (.enter f args) w) (v : Value) (l : List Vt) (p : Vt → Bool) (w : World) (h : RdT w v l)
    (hp : ∀ x ∈ l, ∀ W, Below w.heap.size w W → Calls Try.prog f (#[vtV x] ++ lb) W fun e w' => e = .returned (.bool (p x)) ∧ Below W.heap.size W w') :
    Calls Try.prog 61 #[v, .func (.func f) #[] lb] w fun e w' => ((∃ k : Nat, ∃ hk : k < l.length, e = .returned (.int .i64 (k : Int)) ∧ p l[k] = true ∧ ∀ j (hj : j < l.length), j < k → p l[j] = false) ∨ (e = .returned (.int .i64 (-1)) ∧ ∀ j (hj : j < l.length), p l[j] = false)) ∧ Below w.heap.size w w' := by
  obtain ⟨ao, cap, rfl, hc, hm, hr⟩ := RdK.open h
  have hr : RdT w (.slice ao l.length cap) l := hr
  have HRD := Lib.hid hr
  have HP := Lib.hid hp
  clear h hp hr
  go_enter Try.func61, Try.ntmps61
  go_wp2_with fail
  go_loopw [8] (fun i wr => ∃ k : Nat, k ≤ l.length ∧ i = .int .i64 (k : Int) ∧ Hid (∀ j (hj : j < l.length), j < k → p l[j] = false) ∧ Below w.heap.size w wr) (fun i _ => l.length - (intOf i).toNat)
  case atStart => exact ⟨0, Nat.zero_le _, rfl, Lib.hid (fun j _ h => absurd h (Nat.not_lt_zero _)), Below.refl _ _⟩
  case round =>
    obtain ⟨k, hk, rfl, HA, bel⟩ := hrel
    by_cases hlt : k < l.length
    · obtain ⟨pb, po, rfl, hpb, C0, C1, C2⟩ := rdt_cells HRD.out k hlt
      have c0 := (bel.cell (p := ⟨pb, po + k * 3, none⟩) hpb).trans C0
      have c1 := (bel.cell (p := ⟨pb, po + k * 3 + 1, none⟩) hpb).trans C1
      have c2 := (bel.cell (p := ⟨pb, po + k * 3 + 2, none⟩) hpb).trans C2
      have MA := HP.out l[k] (List.getElem_mem hlt) wr bel
      obtain ⟨R, hR⟩ : ∃ R, R = p l[k] := ⟨_, rfl⟩
      have HR := Lib.hid hR
      rw [← hR] at MA
      unfold vtV at MA
      obtain ⟨x, hx⟩ : ∃ x, x = l[k] := ⟨_, rfl⟩
      rw [← hx] at c0 c1 c2 MA
      obtain ⟨a, b, c⟩ := x
      simp only at c0 c1 c2 MA
      clear hx hR C0 C1 C2
      cases R with
      | true =>
        go_wp2_with fail
        refine MA.mono ?_
        rintro e w2 ⟨rfl, g⟩
        have b2 := chain bel g
        clear MA g
        go_wp2_with fail
        go_ret
        exact ⟨.inl ⟨k, hlt, rfl, HR.out.symm, HA.out⟩, b2⟩
      | false =>
        have HF := Lib.hid (show ∀ j (hj : j < l.length), j < k + 1 → p l[j] = false from fun j hj h1 => by
          by_cases e : j = k
          · subst e; exact HR.out.symm
          · exact HA.out j hj (by omega))
        go_wp2_with fail
        refine MA.mono ?_
        rintro e w2 ⟨rfl, g⟩
        have b2 := chain bel g
        clear MA g
        go_wp2_with fail
        exact ⟨⟨k + 1, by omega, by push_cast; rfl, HF, b2⟩, by simp [intOf]; omega⟩
    · obtain rfl : k = l.length := by omega
      go_wp2_with fail
      go_ret
      exact ⟨.inr ⟨rfl, fun j hj => HA.out j hj hj⟩, bel⟩
/-- What a call hands back: a row of one's own; but for the row at hand all is as it was. -/
def Own3 (w : World) (base : Nat) (r : Option Nat) (l : List Vt) (e : Ending) (w' : World) : Prop := ∃ v', e = .returned v' ∧ w'.ownsRow base 30 3 v' l.length (l.flatMap vtC) ∧ (∀ q, v'.ownBlock = some q → r = some q ∨ w.heap.size ≤ q) ∧ w.grownBy w' r
theorem mark_zero : ∀ w, (zeroValue 30).run Try.prog w = .ok (.agg #[.int .i64 0, .int .i64 0, .int .i64 0]) w := fun w => by kernel_rfl
set_option maxHeartbeats 2000000 in
theorem delete_any (f : Nat) (lb : Array Value) (eg : ∀ args w, (callFunc f args).run Try.prog w = .ok (.enter f args) w) (base : Nat) (v : Value) (l : List Vt) (p : Vt → Bool) (w : World) (hown : w.ownsRow base 30 3 v l.length (l.flatMap vtC)) (hl : l.length ≤ 1000)
    (hp : ∀ x W, w.grownBy W v.ownBlock → Calls Try.prog f (#[vtV x] ++ lb) W fun e w' => e = .returned (.bool (p x)) ∧ Below W.heap.size W w') :
    Calls Try.prog 46 #[v, .func (.func f) #[] lb] w (Own3 w base v.ownBlock (l.filter fun x => !p x)) := by
  have IX0 := index_any f lb eg v l p w (own_rdt hown) (fun x _ W g => hp x W (grown_none g))
  obtain ⟨Z, hZ⟩ : ∃ Z, Z = Own3 w base v.ownBlock (l.filter fun x => !p x) := ⟨_, rfl⟩
  rw [← hZ]
  have HZ := Lib.hid hZ
  have IX := Lib.hid IX0
  have HP := Lib.hid hp
  have HO := Lib.hid hown
  obtain ⟨ao, n, cap, rfl⟩ := rdt_val (own_rdt hown)
  clear IX0 hp hZ hown
  go_enter Try.func46, Try.ntmps46
  go_wp2_with fail
  refine IX.out.mono ?_
  rintro e w1 ⟨(⟨k, hk, rfl, hpk, hj⟩ | ⟨rfl, hall⟩), g1⟩
  · obtain ⟨gg, rfl, hgb⟩ : ∃ gg, ao = some ⟨gg, 0, none⟩ ∧ n = l.length := by
      rcases HO.out.2 with ⟨h1, h2⟩ | ⟨g', cap', cur, h2, h3⟩
      · omega
      · simp only [Value.slice.injEq] at h2
        exact ⟨g', h2.1, h2.2.1⟩
    subst hgb
    have hkm := keepN_first p l k hj hk hpk
    have HO1 := own_rows_below HO.out g1
    have hne : ((k : Int) == -1) = false := beq_eq_false_iff_ne.2 (by omega)
    go_wp2_with fail
    go_loopw [5, 6] (fun i5 j6 wr => ∃ j : Nat, j ≤ l.length ∧ k < j ∧ i5 = .int .i64 ((keepN p l j : Nat) : Int) ∧ j6 = .int .i64 (j : Int) ∧ keepN p l j < j ∧ wr.ownsRow base 30 3 (.slice (some ⟨gg, 0, none⟩) l.length cap) l.length ((midL p l j).flatMap vtC) ∧ w.grownBy wr (some gg)) (fun _ j6 _ => l.length - (intOf j6).toNat)
    case atStart => exact ⟨k + 1, by omega, by omega, by rw [hkm.1], rfl, by omega, by rw [hkm.2]; exact HO1, grown_none g1⟩
    case round =>
      obtain ⟨j, hjl, hkj, rfl, rfl, hij, hown, G⟩ := hrel
      by_cases hlt : j < l.length
      · have hml := midL_len p l j hjl
        have hrd := own_rdt (l := midL p l j) (by rw [hml]; exact hown)
        obtain ⟨pb, po, hao, hpb, C0, C1, C2⟩ := rdt_cells hrd j (by omega)
        cases hao
        rw [midL_at p l j j (by omega) hlt, Nat.zero_add] at C0 C1 C2
        have HKN := Lib.hid (keepN_no p l j hlt)
        have HKY := Lib.hid (keepN_yes p l j hlt)
        have HFS := Lib.hid (fun x => flat_set (l := midL p l j) (p := keepN p l j) (x := x) (by rw [hml]; omega))
        obtain ⟨q, hq⟩ : ∃ q, q = p l[j] := ⟨_, rfl⟩
        rw [← hq] at HKN HKY
        have HQ := Lib.hid hq
        obtain ⟨x, hx⟩ : ∃ x, x = l[j] := ⟨_, rfl⟩
        rw [← hx] at C0 C1 C2 HKY HQ
        have hjz : (j : Int) < (l.length : Int) := by omega
        clear hrd hq hx hml
        obtain ⟨i, hi⟩ : ∃ i, i = keepN p l j := ⟨_, rfl⟩
        rw [← hi] at HKN HKY HFS hij ⊢
        have HI := Lib.hid hi
        have hiz : (i : Int) < (l.length : Int) := by omega
        have DP0 := fun W g => HP.out x W g
        obtain ⟨a, b, c⟩ := x
        unfold vtV at DP0
        simp only at C0 C1 C2 DP0
        have DP := Lib.hid DP0
        clear hi DP0
        go_upto_region 8 with fail
        obtain ⟨W8, hW8⟩ : ∃ W, W = wr.alloc (.cells #[.int .i64 a, .int .i64 b, .int .i64 c] 30) := ⟨_, rfl⟩
        rw [← hW8]
        have q8 : W8.heap[wr.heap.size]? = some (.cells #[.int .i64 a, .int .i64 b, .int .i64 c] 30 (0, 0)) := by rw [hW8]; exact heap_alloc_new _ _
        have own8 := hown.alloc (.cells #[.int .i64 a, .int .i64 b, .int .i64 c] 30)
        have G8 : w.grownBy W8 (some gg) := by rw [hW8]; exact grown_belowB G ((Below.refl _ _).alloc (Nat.le_refl _) _)
        rw [← hW8] at own8
        obtain ⟨e0, e1, e2, ef⟩ := block_cells3 q8
        have hgw : gg < wr.heap.size := (hown.lt gg rfl).2
        clear C0 C1 C2 hW8 hown G
        rw [← HQ.out] at DP
        cases q with
        | true =>
          go_wp2_with fail
          refine (DP.out _ G8).mono ?_
          rintro e w2 ⟨rfl, g⟩
          have own2 := own_rows_below own8 g
          have G2 := grown_belowB G8 g
          clear own8 G8 g DP e0 e1 e2 ef q8
          have hkn := HKN.out (by first | rfl | trivial)
          have HKN1 := Lib.hid hkn.1
          have HKN2 := Lib.hid hkn.2
          clear hkn
          go_wp2_with fail
          exact ⟨⟨j + 1, by omega, by omega, by rw [HKN1.out], by push_cast; rfl, by rw [HKN1.out]; omega, by rw [HKN2.out]; exact own2, G2⟩, by simp [intOf]; omega⟩
        | false =>
          go_wp2_with fail
          refine (DP.out _ G8).mono ?_
          rintro e w2 ⟨rfl, g⟩
          have own2 := own_rows_below own8 g
          have G2 := grown_belowB G8 g
          have q2 := (g.block _ (lt_of_block q8)).trans q8
          have hky := HKY.out (by first | rfl | trivial)
          have HKY1 := Lib.hid hky.1
          have HKY2 := Lib.hid hky.2
          have hlen : ((midL p l j).flatMap vtC).length = l.length * 3 := own2.1
          have s0 := own2.cellAt (i * 3) (by omega)
          have s1 := own2.cellAt (i * 3 + 1) (by omega)
          have s2 := own2.cellAt (i * 3 + 2) (by omega)
          have sf := own2.frozenAt
          rw [List.getElem?_eq_getElem (by omega)] at s0 s1 s2
          obtain ⟨z0, hz0⟩ : ∃ z, z = ((midL p l j).flatMap vtC)[i * 3]'(by omega) := ⟨_, rfl⟩
          obtain ⟨z1, hz1⟩ : ∃ z, z = ((midL p l j).flatMap vtC)[i * 3 + 1]'(by omega) := ⟨_, rfl⟩
          obtain ⟨z2, hz2⟩ : ∃ z, z = ((midL p l j).flatMap vtC)[i * 3 + 2]'(by omega) := ⟨_, rfl⟩
          rw [← hz0] at s0
          rw [← hz1] at s1
          rw [← hz2] at s2
          have HO2 := Lib.hid own2
          have HG2 := Lib.hid G2
          clear own8 G8 g DP e0 e1 e2 ef q8 hky hz0 hz1 hz2 hlen own2 G2
          obtain ⟨e0, e1, e2, ef⟩ := block_cells3 q2
          go_wp2_with fail
          have t0 := (HO2.out.stored (i * 3) (.int .i64 a)).1
          have t1 := (t0.stored (i * 3 + 1) (.int .i64 b)).1
          have t2 := (t1.stored (i * 3 + 2) (.int .i64 c)).1
          rw [HFS.out ⟨a, b, c⟩, ← HKY2.out] at t2
          exact ⟨⟨j + 1, by omega, by omega, by rw [HKY1.out]; push_cast; rfl, by push_cast; rfl, by rw [HKY1.out]; omega, t2, grown_setB (grown_setB (grown_setB HG2.out))⟩, by simp [intOf]; omega⟩
      · obtain rfl : j = l.length := by omega
        have hmt := midL_take p l l.length
        rw [List.take_length] at hmt
        have hml := midL_len p l l.length (Nat.le_refl _)
        obtain ⟨i, hi⟩ : ∃ i, i = keepN p l l.length := ⟨_, rfl⟩
        have hfl : (l.filter fun x => !p x).length = i := by rw [hi]; unfold keepN; rw [List.take_length]
        rw [← hi] at hmt hij ⊢
        have OS := own_short hown i (by omega)
        rw [flat_take vtC_len, hmt] at OS
        have OB := own_beyond (Builtin.zeroCells #[Value.int .i64 0, Value.int .i64 0, Value.int .i64 0] (l.length - i)).toList (i * 3) wr OS (Nat.le_refl _)
        have HCL0 := fun ty c => run_clear_k (P := Try.prog) wr 22 30 ty (.agg #[.int .i64 0, .int .i64 0, .int .i64 0]) Try.underlying22 mark_zero gg (i * 3) (l.length - i) c (by omega) (zero_one _)
          (fun q hq => by
            have : q < (l.length - i) * 3 := hq
            rw [hown.cellAt (i * 3 + q) (by omega), List.getElem?_eq_getElem (by rw [hown.1]; omega)]; rfl)
          (fun q _ => hown.frozenAt _)
        have hcap : l.length ≤ cap := by
          rcases hown.2 with ⟨h1, _⟩ | ⟨g', cap', cur, h2, _, _, h3, _⟩
          · cases h1
          · simp only [Value.slice.injEq] at h2
            obtain ⟨_, _, rfl⟩ := h2
            exact h3
        have HCL := Lib.hid HCL0
        have HOB := Lib.hid OB
        have HG := Lib.hid G
        have HFL := Lib.hid hfl
        have hiz : (i : Int) ≤ (l.length : Int) := by omega
        clear OS OB HCL0 hmt hi hfl hown G
        go_wp2_with (simp only [HCL.out])
        show Z (.returned _) _
        rw [HZ.out]
        exact ⟨.slice (some ⟨gg, 0, none⟩) i cap, rfl, by rw [HFL.out]; exact HOB.out.1, fun q hq => .inl hq, grown_transB HG.out HOB.out.2⟩
  · go_wp2_with fail
    show Z (.returned _) _
    rw [HZ.out]
    have e : (l.filter fun x => !p x) = l := by
      rw [List.filter_eq_self]
      intro x hx
      obtain ⟨i, hi, rfl⟩ := List.mem_iff_getElem.1 hx
      simp [hall i hi]
    rw [e]
    exact ⟨_, rfl, own_rows_below HO.out g1, fun q hq => .inl hq, grown_none g1⟩
def OwnT (w : World) (l : List Vt) (e : Ending) (w' : World) : Prop := ∃ v', e = .returned v' ∧ w'.ownsRow w.heap.size 30 3 v' l.length (l.flatMap vtC) ∧ Below w.heap.size w w'
theorem clone_any (v : Value) (l : List Vt) (w : World) (h : RdT w v l) (h66 : l.length ≤ 1000) :
    Calls Try.prog 34 #[v] w (OwnT w l) := by
  obtain ⟨i0, hi, hz0, hz1, hz2⟩ := info_parts mark_info
  obtain ⟨ao, cap, rfl, hc, hm, hr⟩ := RdK.open h
  cases ao with
  | none =>
    have hcap : cap = 0 := by obtain ⟨_, _, he, _, _, h4, _⟩ := hr; cases he; exact h4 rfl
    obtain rfl : l = [] := List.eq_nil_of_length_eq_zero (by omega)
    subst hcap
    have hnil : ∀ W, (binOp .eql 22 (.slice none 0 0) (.slice none 0 0)).run Try.prog W = .ok (.bool true) W := fun W => Lib.run_eql_slice_nil_nil W 0 0 Try.underlying22
    clear h hr
    go_enter Try.func34, Try.ntmps34
    go_wp2_with fail
    go_ret
    exact ⟨_, rfl, World.ownsRow_nil _ _ _ _, Below.refl _ _⟩
  | some ad =>
    have hr : RdT w (.slice (some ad) l.length cap) l := hr
    have HSZ := Lib.hid (show (w.alloc (.cells #[] 30)).heap.size = w.heap.size + 1 from by simp)
    have HLIT := Lib.hid (World.ownsRow_lit (e := 30) (size := 3) w #[] 0 (Nat.le_refl _) (by decide) rfl)
    have HRD := Lib.hid hr
    have hsome := fun W => Lib.run_eql_slice_some_nil (P := Try.prog) W ad l.length cap Try.underlying22
    clear h hr
    go_enter Try.func34, Try.ntmps34
    go_wp2_with (at_builtin; refine wpList_app_rdk vtC_len (by decide) w rfl (.tmp 5) (.tmp 6) 22 rfl w.heap.size 30 i0 (.agg #[.int .i64 0, .int .i64 0, .int .i64 0]) 24 Try.underlying22 hi hz0 hz1 hz2 rfl (.slice (some ⟨w.heap.size, 0, none⟩) 0 0) [] rfl HLIT.out (.slice (some ad) l.length cap) l rfl (HRD.out.below ((Below.refl _ _).alloc (Nat.le_refl _) _) (Nat.le_refl _)) vtC_one (by unfold maxLen; simp; omega) (by simp; omega) (Nat.le_refl _) ((Below.refl _ _).alloc (Nat.le_refl _) _) ?_; intro v' w1 hown2 hb2 hq2; clear hq2)
    go_ret
    exact ⟨_, rfl, hown2, hb2⟩
end Go.Proofs.Ytgmblgpfgdfnaaa
