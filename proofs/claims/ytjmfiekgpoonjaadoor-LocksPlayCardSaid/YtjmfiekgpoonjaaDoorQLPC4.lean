/- Clash: lists of texts as they lie in memory, and what is found in them. -/
import Derived.Test.YtjmfiekgpoonjaaDoorQLPC3
import Derived.Test.YtjmfiekgpoonjaaDoorProg
import Derived.Lib.Hide
namespace Go.Proofs.YtjmfiekgpoonjaaDoor
open Go Go.RowKit
set_option linter.unusedVariables false
set_option linter.unusedSimpArgs false
def sv (x : List UInt8) : Value := .string (str x)
def RdS (w : World) (v : Value) (l : List (List UInt8)) : Prop := RdV w v (l.map sv)
theorem RdS.below {w w' : World} {v : Value} {l : List (List UInt8)} (h : RdS w v l) {B : Nat} (hb : Below B w w') (hB : w.heap.size ≤ B) : RdS w' v l := RdV.below h hb hB
theorem RdS.open {w : World} {v : Value} {l : List (List UInt8)} (h : RdS w v l) : ∃ ao cap, v = .slice ao l.length cap ∧ l.length ≤ cap ∧ cap ≤ 9223372036854775807 ∧ RdS w (.slice ao l.length cap) l := by
  have h' := h
  obtain ⟨ao, cap, h1, h2, h3, -, -⟩ := h'
  rw [List.length_map] at h1 h2
  exact ⟨ao, cap, h1, h2, by unfold maxLen at h3; omega, h1 ▸ h⟩
theorem RdS.cell {w : World} {ao : Option Addr} {n cap : Nat} {l : List (List UInt8)} (h : RdS w (.slice ao n cap) l) (k : Nat) (hk : k < l.length) : ∃ b off, ao = some ⟨b, off, none⟩ ∧ b < w.heap.size ∧ w.cell? ⟨b, off + k, none⟩ = some (.string (str l[k])) := by
  obtain ⟨ao', cap', h1, h2, h3, h4, h5⟩ := h
  cases h1
  obtain ⟨b, off, h6, h7, h8⟩ := h5 (by rw [List.length_map]; omega)
  refine ⟨b, off, h6, h7, ?_⟩
  rw [h8 k (by rw [List.length_map]; exact hk), List.getElem?_map, List.getElem?_eq_getElem hk]; rfl
theorem any_snoc {α : Type} (p : α → Bool) (l : List α) (k : Nat) (hk : k < l.length) (h : (l.take k).any p = false) : (l.take (k + 1)).any p = p l[k] := by
  rw [List.take_succ_eq_append_getElem hk, List.any_append, h]; simp
set_option maxRecDepth 100000 in
set_option maxHeartbeats 1000000 in
theorem containsS (f : Nat) (lb : Array Value) (eg : ∀ args w, (callFunc f args).run Tryd.prog w = .ok (.enter f args) w) (v : Value) (l : List (List UInt8)) (p : List UInt8 → Bool) (w : World) (h : RdS w v l)
    (hp : ∀ s ∈ l, ∀ W, Below w.heap.size w W → Calls Tryd.prog f (#[.string (str s)] ++ lb) W fun e w' => e = .returned (.bool (p s)) ∧ Below W.heap.size W w') :
    Calls Tryd.prog 55 #[v, .func (.func f) #[] lb] w fun e w' => e = .returned (.bool (l.any p)) ∧ Below w.heap.size w w' := by
  obtain ⟨ao, cap, rfl, hc1, hc2, hr⟩ := h.open
  have HRD := Lib.hid hr
  have HP := Lib.hid hp
  have IX : Calls Tryd.prog 64 #[.slice ao l.length cap, .func (.func f) #[] lb] w fun e w' => ∃ r : Int, e = .returned (.int .i64 r) ∧ decide (0 ≤ r) = l.any p ∧ Below w.heap.size w w' := by
    clear hr h hp
    go_enter Tryd.func64, Tryd.ntmps64
    go_wp2_with fail
    go_loopw [8] (fun i wr => ∃ k : Nat, k ≤ l.length ∧ i = .int .i64 (k : Int) ∧ Hid ((l.take k).any p = false) ∧ Below w.heap.size w wr) (fun i _ => l.length - (intOf i).toNat)
    case atStart => exact ⟨0, Nat.zero_le _, rfl, Lib.hid (by simp), Below.refl _ _⟩
    case round =>
      obtain ⟨k, hk, rfl, HA, bel⟩ := hrel
      by_cases hlt : k < l.length
      · obtain ⟨bb, off, rfl, hb, c0⟩ := (HRD.out.below bel (Nat.le_refl _)).cell k hlt
        obtain ⟨x, hx⟩ : ∃ x, x = l[k] := ⟨_, rfl⟩
        rw [← hx] at c0
        have hmem : x ∈ l := by rw [hx]; exact List.getElem_mem _
        have MA := HP.out x hmem wr bel
        have HT := Lib.hid (show (l.take (k + 1)).any p = p x by rw [hx]; exact any_snoc p l k hlt HA.out)
        obtain ⟨R, hR⟩ : ∃ R, R = p x := ⟨_, rfl⟩
        have HR := Lib.hid hR
        rw [← hR] at MA
        clear hx hR
        cases R with
        | true =>
          have HF := Lib.hid (show l.any p = true by rw [List.any_eq_true]; exact ⟨x, hmem, HR.out.symm⟩)
          clear hmem
          go_wp2_with fail
          refine MA.mono ?_
          rintro e w2 ⟨rfl, g⟩
          have b2 := chain bel g
          clear MA g
          go_wp2_with fail
          go_ret
          exact ⟨(k : Int), rfl, by rw [HF.out]; simp, b2⟩
        | false =>
          have HF := Lib.hid (show (l.take (k + 1)).any p = false by rw [HT.out, ← HR.out])
          clear hmem
          go_wp2_with fail
          refine MA.mono ?_
          rintro e w2 ⟨rfl, g⟩
          have b2 := chain bel g
          clear MA g
          go_wp2_with fail
          exact ⟨⟨k + 1, by omega, by push_cast; rfl, HF, b2⟩, by simp [intOf]; omega⟩
      · obtain rfl : k = l.length := by omega
        have HF := Lib.hid (show l.any p = false by have h := HA.out; rwa [List.take_length] at h)
        go_wp2_with fail
        go_ret
        exact ⟨-1, rfl, by rw [HF.out]; rfl, bel⟩
  have IXH := Lib.hid IX
  clear IX hr h hp
  obtain ⟨R, hR⟩ : ∃ R, R = l.any p := ⟨_, rfl⟩
  rw [← hR]
  have HR := Lib.hid hR
  clear hR
  go_enter Tryd.func55, Tryd.ntmps55
  go_wp2_with fail
  refine IXH.out.mono ?_
  rintro e w1 ⟨r, rfl, hr, g⟩
  rw [← HR.out] at hr
  go_wp2_with fail
  go_ret
  exact ⟨rfl, g⟩
end Go.Proofs.YtjmfiekgpoonjaaDoor
