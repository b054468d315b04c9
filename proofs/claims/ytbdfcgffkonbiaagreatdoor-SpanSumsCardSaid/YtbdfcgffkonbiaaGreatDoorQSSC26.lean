/- Trunks: a trunk among the arguments. Written by wip/tools/gen10p.py. -/
/- Trunks: Weight; the document's All. Written by wip/tools/gen10t.py. -/
import Derived.Test.YtbdfcgffkonbiaaGreatDoorQSSC25
import Derived.Test.YtbdfcgffkonbiaaGreatDoorQSSC19
namespace Go.Proofs.YtbdfcgffkonbiaaGreatDoor
open Go Go.ChangeShapes Go.WideShapes Go.ChangeAt Go.RowKit Go.Joins
set_option linter.unusedVariables false
set_option linter.unusedSimpArgs false
set_option maxRecDepth 100000
theorem trunk_cells : Tryz.prog.cellsOf 26 = 32 := by kernel_rfl
theorem leaves_cells : Tryz.prog.cellsOf 23 = 16 := by kernel_rfl
theorem vers_cells : Tryz.prog.cellsOf 24 = 16 := by kernel_rfl
theorem items_cells : Tryz.prog.cellsOf 22 = 1 := by kernel_rfl
def WfT (lv : Nat → List It) : Prop := ∀ b, b < 16 → WfI (lv b)
theorem one_of {l : List Value} {i n : Nat} (hi : i < n) (hl : l.length = n) : ∃ v, l[i]? = some v ∧ (l.drop i).take 1 = [v] := by
  have h : i < l.length := by omega
  refine ⟨l[i], List.getElem?_eq_getElem h, ?_⟩
  rw [List.drop_eq_getElem_cons h]; rfl
section
variable {H : Type} {enc : TypeId × Value → H}
theorem open_trunk {W : World} {r : Reach} {base b0 : Nat} {hd : Bool} {v : Value} {d : DataW H} {p : List MemPlace}
    (hval : Value.okWide Tryz.prog W r b0 26 v) (h : DataW.Trod enc Tryz.prog W base (fun _ => true) hd 26 v d p) : ∃ (cs : Array Value) (lv : Nat → List It) (vs : Nat → Int), v = .agg cs ∧ RdT W cs lv vs ∧ SzT lv ∧ WfT lv := by
  obtain ⟨cs, rfl, hsz⟩ := okWide_struct Tryz.underlying26 hval
  rw [trunk_cells] at hsz
  obtain ⟨fuel, hf⟩ := h
  obtain ⟨xs, n, _, hx, _, hlen, hg⟩ := DataW.trod_struct Tryz.underlying26 hf
  match xs, hlen with
  | [y0, y1], _ =>
    have h0 := hg 0 _ rfl
    have h1 := hg 1 _ rfl
    simp only [leaves_cells, vers_cells, Value.cells] at h0 h1
    have hll : cs.toList.length = 32 := by rw [Array.length_toList]; exact hsz
    obtain ⟨A, hA⟩ : ∃ A, A = (cs.toList.drop 0).take 16 := ⟨_, rfl⟩
    obtain ⟨B, hB⟩ : ∃ B, B = (cs.toList.drop 16).take 16 := ⟨_, rfl⟩
    have lA : A.length = 16 := by rw [hA, List.length_take, List.length_drop]; omega
    have lB : B.length = 16 := by rw [hB, List.length_take, List.length_drop]; omega
    have h0' : DataW.trod enc Tryz.prog W base (fun _ => true) hd n 23 A = some y0 := by rw [hA]; exact h0
    have h1' : DataW.trod enc Tryz.prog W base (fun _ => true) hd n 24 B = some y1 := by rw [hB]; exact h1
    obtain ⟨ys, m, _, _, _, hly, hgy⟩ := DataW.trod_array Tryz.underlying23 h0'
    obtain ⟨zs, m2, _, _, _, hlz, hgz⟩ := DataW.trod_array Tryz.underlying24 h1'
    have each : ∀ b, b < 16 → ∃ l : List It, (∃ u, cs[b]? = some u ∧ RdI W u l) ∧ SzI l ∧ WfI l := by
      intro b hb
      have e1 := hgy b hb
      rw [items_cells, Nat.mul_one] at e1
      obtain ⟨u, hu, hu2⟩ := one_of hb lA
      rw [hu2, List.getElem?_eq_getElem (by omega : b < ys.length)] at e1
      obtain ⟨l, q1, q2, q3⟩ := open_items_at e1
      refine ⟨l, ⟨u, ?_, q1⟩, q2, q3⟩
      rw [hA, List.getElem?_take, if_pos hb, List.drop_zero, Array.getElem?_toList] at hu
      exact hu
    have eachV : ∀ b, b < 16 → ∃ x : Int, cs[16 + b]? = some (.int .i64 x) := by
      intro b hb
      have e1 := hgz b hb
      rw [int_cells9, Nat.mul_one] at e1
      obtain ⟨u, hu, hu2⟩ := one_of hb lB
      rw [hu2, List.getElem?_eq_getElem (by omega : b < zs.length)] at e1
      obtain ⟨a, ea, _, _⟩ := DataW.trod_int Tryz.underlying3 e1
      refine ⟨a, ?_⟩
      rw [hB, List.getElem?_take, if_pos hb, List.getElem?_drop, Array.getElem?_toList] at hu
      simp at ea
      rw [hu, ea]
    refine ⟨cs, fun b => if hb : b < 16 then (each b hb).choose else [], fun b => if hb : b < 16 then (eachV b hb).choose else 0, rfl, ⟨hsz, fun b hb => ?_, fun b hb => ?_⟩, fun b hb => ?_, fun b hb => ?_⟩
    · simp only [hb, dite_true]; exact (each b hb).choose_spec.1
    · simp only [hb, dite_true]; exact (eachV b hb).choose_spec
    · simp only [hb, dite_true]; exact (each b hb).choose_spec.2.1
    · simp only [hb, dite_true]; exact (each b hb).choose_spec.2.2
end
end Go.Proofs.YtbdfcgffkonbiaaGreatDoor
namespace Go.Proofs.YtbdfcgffkonbiaaGreatDoor
open Go Go.RowKit
set_option linter.unusedVariables false
set_option linter.unusedSimpArgs false
def allN (lv : Nat → List It) (n : Nat) : List It := (List.range n).flatMap lv
theorem allN_succ (lv : Nat → List It) (n : Nat) : allN lv (n + 1) = allN lv n ++ lv n := by
  unfold allN; rw [List.range_succ, List.flatMap_append]; simp
theorem allN_len {lv : Nat → List It} (n : Nat) (h : ∀ b, b < n → (lv b).length ≤ 100) : (allN lv n).length ≤ n * 100 := by
  induction n with
  | zero => simp [allN]
  | succ n ih => rw [allN_succ, List.length_append]; have := ih (fun b hb => h b (by omega)); have := h n (by omega); omega
theorem sum_len (lv : Nat → List It) (n : Nat) : sumN List.length lv n = (allN lv n).length := by
  induction n with
  | zero => rfl
  | succ n ih => rw [sumN_succ, allN_succ, List.length_append, ih]
theorem wtL_app (a b : List It) : wtL (a ++ b) = wtL a + wtL b := by unfold wtL; rw [List.map_append, List.sum_append]
theorem sum_wt {lv : Nat → List It} (n : Nat) (h : ∀ b, b < n → isL (lv b) = true) : sumN weightL lv n = wtL (allN lv n) := by
  induction n with
  | zero => rfl
  | succ n ih =>
    rw [sumN_succ, allN_succ, wtL_app, ih (fun b hb => h b (by omega))]
    congr 1
    unfold weightL; rw [if_pos (h n (by omega))]
theorem wtL_le : ∀ l : List It, (∀ x ∈ l, wtI x ≤ 99) → wtL l ≤ 99 * l.length
  | [], _ => by simp [wtL]
  | x :: r, h => by
    have h1 := h x (by simp)
    have h2 := wtL_le r (fun y hy => h y (by simp [hy]))
    have e : wtL (x :: r) = wtI x + wtL r := by simp [wtL]
    rw [e, List.length_cons]; omega
theorem wtI_le {x : It} (h : mayI x = true) : wtI x ≤ 99 := by
  have h1 := may_key h
  have h2 := encL_max x.v
  unfold wtI; omega
theorem weightL_le (l : List It) : weightL l ≤ 100000 := by
  unfold weightL
  split
  · rename_i h
    have h1 := isL_len h
    have h2 := wtL_le l (fun x hx => wtI_le (isL_may h x hx))
    omega
  · omega
theorem fewT_wf {lv : Nat → List It} (h : WfT lv) : WfT (fun b => fewL (lv b)) := by
  intro b hb x hx
  change x ∈ fewL (lv b) at hx
  unfold fewL at hx
  obtain ⟨y, hy, rfl⟩ := List.mem_map.1 hx
  exact h b hb y (List.mem_of_mem_take hy)
theorem mem_allN {lv : Nat → List It} {n : Nat} {x : It} (h : x ∈ allN lv n) : ∃ b, b < n ∧ x ∈ lv b := by
  unfold allN at h
  obtain ⟨b, hb, hx⟩ := List.mem_flatMap.1 h
  exact ⟨b, List.mem_range.1 hb, hx⟩
set_option maxRecDepth 100000 in
set_option maxHeartbeats 1000000 in
theorem all_any (cs : Array Value) (lv : Nat → List It) (vs : Nat → Int) (w : World) (h : RdT w cs lv vs) (h100 : ∀ b, b < 16 → (lv b).length ≤ 100) :
    Calls Tryz.prog 49 #[.agg cs] w (OwnI w (allN lv 16)) := by
  obtain ⟨i0, hi, hz0, hz1, hz2⟩ := info_parts item_info
  have HT := Lib.hid h
  have HL := Lib.hid h100
  obtain ⟨Z, hZ⟩ : ∃ Z, Z = OwnI w (allN lv 16) := ⟨_, rfl⟩
  rw [← hZ]
  have HZ := Lib.hid hZ
  have q1 := heap_alloc_new w (.cells cs 26)
  have bel := (Below.refl w.heap.size w).alloc (Nat.le_refl _) (.cells cs 26)
  clear h h100 hZ
  go_enter Tryz.func49, Tryz.ntmps49
  go_wp2_with fail
  obtain ⟨wl, hwl⟩ : ∃ wl, wl = w.alloc (.cells cs 26) := ⟨_, rfl⟩
  rw [← hwl] at q1 bel ⊢
  clear hwl
  have hl : w.heap.size + 1 ≤ wl.heap.size := lt_of_block q1
  have Q1 := Lib.hid q1
  have BELL := Lib.hid bel
  clear q1 bel
  go_loopw [4, 3] (fun i v wr => ∃ (b : Nat) (X : List It), b ≤ 16 ∧ i = .int .i64 (b : Int) ∧ Hid (X = allN lv b) ∧ X.length ≤ b * 100 ∧ wr.ownsRow (w.heap.size + 1) 48 5 v X.length (X.flatMap itC) ∧ Below (w.heap.size + 1) wl wr) (fun i _ _ => 20 - (intOf i).toNat)
  case atStart => exact ⟨0, [], by omega, rfl, Lib.hid rfl, Nat.le_refl _, World.ownsRow_nil _ _ _ _, Below.refl _ _⟩
  case round =>
    obtain ⟨b, X, hb, rfl, HX, hX, own, belL⟩ := hrel
    have bel := BELL.out.trans (belL.mono (Nat.le_add_right _ 1))
    have q1 := (belL.block _ (by omega)).trans Q1.out
    by_cases hlt : b < 16
    · have hlti : (b : Int) < 16 := by omega
      obtain ⟨u, hu, hru⟩ := HT.out.leaf b hlt
      have c1 := (block_cell q1 b).trans hu
      have l1 := HL.out b hlt
      have HN := Lib.hid (show X ++ lv b = allN lv (b + 1) by rw [allN_succ, ← HX.out])
      have HRD := Lib.hid (hru.below bel (Nat.le_refl _))
      clear hu hru
      go_wp2_with (at_builtin; refine wpList_app_rdk itC_len (by decide) wl rfl (.tmp 9) (.tmp 13) 22 rfl (w.heap.size + 1) 48 i0 (.agg #[.string ⟨#[]⟩, .int .i64 0, .int .i64 0, .string ⟨#[]⟩, .int .i64 0]) 56 Tryz.underlying22 hi hz0 hz1 hz2 rfl _ X rfl own u (lv b) rfl HRD.out itC_one (by unfold maxLen; omega) (by omega) hl belL ?_; intro v9 w9 own9 b9 hq9; clear hq9)
      exact ⟨⟨b + 1, X ++ lv b, by omega, by push_cast; rfl, HN, by rw [List.length_append]; omega, own9, b9⟩, by simp [intOf]; omega⟩
    · obtain rfl : b = 16 := by omega
      go_wp2_with fail
      show Z (.returned _) _
      rw [HZ.out, ← HX.out]
      exact ⟨_, rfl, own_base own (by omega), bel⟩
end Go.Proofs.YtbdfcgffkonbiaaGreatDoor
