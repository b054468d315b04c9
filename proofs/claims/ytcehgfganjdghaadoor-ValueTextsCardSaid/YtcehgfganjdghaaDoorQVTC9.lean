/- Values: how two are to one another. -/
import Derived.Test.YtcehgfganjdghaaDoorQVTC8
namespace Go.Proofs.YtcehgfganjdghaaDoor.V7
open Go.RowKit
set_option linter.unusedVariables false
set_option linter.unusedSimpArgs false
def iz (n : Int) : Value := .int .i64 n
/-- The first that is not nothing. -/
def orL : List Int → Int
  | [] => 0
  | x :: l => if x ≠ 0 then x else orL l
set_option maxRecDepth 100000 in
theorem or_any (v : Value) (l : List Int) (w : World) (h : RdV w v (l.map iz)) :
    Calls Tryd.prog 112 #[v] w fun e w' => e = .returned (.int .i64 (orL l)) ∧ w = w' := by
  obtain ⟨ao, cap, ev, hlc, hcm, -, hx⟩ := h
  obtain ⟨n, en⟩ : ∃ n, n = l.length := ⟨_, rfl⟩
  rw [List.length_map, ← en] at ev hlc hx
  subst ev
  have EN := Lib.hid en
  have HX := Lib.hid hx
  clear hx en
  unfold maxLen at hcm
  obtain ⟨r, hr⟩ : ∃ r, r = orL l := ⟨_, rfl⟩
  rw [← hr]
  have HR := Lib.hid hr
  clear hr
  go_enter Tryd.func112, Tryd.ntmps112
  go_wp2_with fail
  go_loop [8] (fun i => ∃ k : Nat, k ≤ n ∧ i = .int .i64 (k : Int) ∧ Hid (r = orL (l.drop k))) (fun i => n - (intOf i).toNat)
  case atStart => exact ⟨0, Nat.zero_le _, rfl, by have := HR.out; simpa [Hid] using this⟩
  case round =>
    obtain ⟨k, hk, rfl, hs⟩ := hrel
    by_cases hlt : k < n
    · obtain ⟨b, off, rfl, hb, hcell⟩ := HX.out (by omega)
      have hkl : k < l.length := by have := EN.out; omega
      have hc2 : w.cell? ⟨b, off + k, none⟩ = some (.int .i64 l[k]) := by rw [hcell k hlt]; simp [hkl, iz]
      have hd : orL (l.drop k) = if l[k] ≠ 0 then l[k] else orL (l.drop (k + 1)) := by rw [List.drop_eq_getElem_cons hkl]; rfl
      rw [← hs.out] at hd
      generalize l[k] = z at hc2 hd
      clear hcell hs
      by_cases hz : z = 0
      · rw [if_neg (by simpa using hz)] at hd
        have HD := Lib.hid hd
        subst hz
        clear hd
        go_wp2_with fail
        exact ⟨⟨k + 1, by omega, by push_cast; rfl, HD⟩, by simp [intOf]; omega⟩
      · rw [if_pos hz] at hd
        have HD := Lib.hid hd
        have hz2 : (z != 0) = true := by simpa using hz
        clear hd
        go_wp2_with fail
        go_ret
        exact ⟨by rw [HD.out]; rfl, rfl⟩
    · obtain rfl : k = n := by omega
      have hd : r = 0 := by rw [hs.out, List.drop_of_length_le (by have := EN.out; omega)]; rfl
      have HD := Lib.hid hd
      clear hd hs
      go_wp2_with fail
      go_ret
      exact ⟨by rw [HD.out]; rfl, rfl⟩
theorem orL_three (a b c : Int) : orL [a, b, c] = if a ≠ 0 then a else if b ≠ 0 then b else c := by
  unfold orL orL orL orL
  by_cases ha : a = 0 <;> by_cases hb : b = 0 <;> by_cases hc : c = 0 <;> simp [ha, hb, hc]
theorem rdv_block {w : World} {g : Nat} {cs : Array Value} {t : TypeId} (h : w.heap[g]? = some (.cells cs t (0, 0))) (n : Nat) (hn : n = cs.size) (hm : n ≤ maxLen) : RdV w (.slice (some ⟨g, 0, none⟩) n n) cs.toList := by
  subst hn
  refine ⟨some ⟨g, 0, none⟩, cs.size, by simp, by simp, hm, by simp, ?_⟩
  intro _
  refine ⟨g, 0, rfl, lt_of_block h, ?_⟩
  intro i hi
  rw [Nat.zero_add, block_cell h]
  simp
set_option maxRecDepth 100000 in
theorem order_any (k i : Int) (s : List UInt8) (k' i' : Int) (s' : List UInt8) (w : World) :
    Calls Tryd.prog 101 #[.agg #[.int .i64 k, .int .i64 i, .string (str s)], .agg #[.int .i64 k', .int .i64 i', .string (str s')]] w fun e w' => e = .returned (.int .i64 (ordV ⟨k, i, s⟩ ⟨k', i', s'⟩)) ∧ Below w.heap.size w w' := by
  have C1 := fun w => (cmpInt_any k k' w).mono (R' := fun e w' => e = .returned (.int .i64 (sgn3 k k')) ∧ w' = w) fun e w' h => ⟨h.1, h.2.symm⟩
  have C2 := fun w => (cmpInt64_any i i' w).mono (R' := fun e w' => e = .returned (.int .i64 (sgn3 i i')) ∧ w' = w) fun e w' h => ⟨h.1, h.2.symm⟩
  have C3 := fun w => Tryd.strings_Compare (str s) (str s') w
  rw [str_toList, str_toList] at C3
  have eo : ordV ⟨k, i, s⟩ ⟨k', i', s'⟩ = orL [sgn3 k k', sgn3 i i', Lib.compareBytes s s'] := by rw [orL_three]; rfl
  rw [eo]
  clear eo
  generalize sgn3 k k' = a at C1 ⊢
  generalize sgn3 i i' = b at C2 ⊢
  generalize Lib.compareBytes s s' = c at C3 ⊢
  have H1 := Lib.hid C1
  have H2 := Lib.hid C2
  have H3 := Lib.hid C3
  clear C1 C2 C3
  go_enter Tryd.func101, Tryd.ntmps101
  go_wp2_with fail
  obtain ⟨W, hW⟩ : ∃ W, W = (w.alloc (.cells #[.int .i64 k, .int .i64 i, .string (str s)] 30)).alloc (.cells #[.int .i64 k', .int .i64 i', .string (str s')] 30) := ⟨_, rfl⟩
  obtain ⟨q1, q2, q3, -⟩ := two_allocs w (.cells #[.int .i64 k, .int .i64 i, .string (str s)] 30) (.cells #[.int .i64 k', .int .i64 i', .string (str s')] 30)
  have B : Below w.heap.size w W := by rw [hW]; exact ((Below.refl _ w).alloc (Nat.le_refl _) _).alloc (by simp) _
  rw [← hW] at q1 q2 q3 ⊢
  clear hW
  refine wp_region_still_tail 15 (by kernel_rfl) (by kernel_rfl) ?_
  obtain ⟨W2, hW2⟩ : ∃ W2, W2 = ({ W with drawn := W.drawn + 1 } : World) := ⟨_, rfl⟩
  have B2 : Below w.heap.size w W2 := by rw [hW2]; exact ⟨B.os, B.tape, B.output, B.size, B.block⟩
  have z2 : W2.heap = W.heap := by rw [hW2]
  rw [← z2] at q1 q2 q3
  rw [← hW2]
  have c1 : W2.cell? ⟨w.heap.size, 0, none⟩ = some (.int .i64 k) := by simpa using block_cell q1 0
  have c2 : W2.cell? ⟨w.heap.size, 1, none⟩ = some (.int .i64 i) := by simpa using block_cell q1 1
  have c3 : W2.cell? ⟨w.heap.size, 2, none⟩ = some (.string (str s)) := by simpa using block_cell q1 2
  have c4 : W2.cell? ⟨w.heap.size + 1, 0, none⟩ = some (.int .i64 k') := by simpa using block_cell q2 0
  have c5 : W2.cell? ⟨w.heap.size + 1, 1, none⟩ = some (.int .i64 i') := by simpa using block_cell q2 1
  have c6 : W2.cell? ⟨w.heap.size + 1, 2, none⟩ = some (.string (str s')) := by simpa using block_cell q2 2
  clear q1 q2 q3 hW2 z2 B
  simp only [List.take_succ_cons, List.take_zero, List.drop_succ_cons, List.drop_zero]
  repeat still_step
  still_call (H1.out _)
  repeat still_step
  still_call (H2.out _)
  repeat still_step
  still_call (H3.out _)
  try refine wpStill_nil ?_
  clear c1 c2 c3 c4 c5 c6
  go_wp2_with fail
  refine (or_any _ [a, b, c] _ (rdv_block (heap_alloc_new W2 (.cells #[iz a, iz b, iz c] 3)) 3 rfl (by decide))).mono ?_
  rintro e w3 ⟨rfl, rfl⟩
  go_wp2_with fail
  go_ret
  exact ⟨rfl, B2.alloc B2.size _⟩
end Go.Proofs.YtcehgfganjdghaaDoor.V7
