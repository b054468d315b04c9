/- Leaves: what the library makes of lists of items: Grow, Concat, Clone; cuts of a list. Written by wip/tools/gen9e.py. -/
/- Leaves: Get, Put, Delete. Written by wip/tools/gen9f.py. -/
import Derived.Test.YtbdfcgffkonbiaaDoorQST7
import Derived.Lib.AppendZeros
import Derived.Lib.BufferMore
import Derived.Test.YtbdfcgffkonbiaaDoorQST4
namespace Go.Proofs.YtbdfcgffkonbiaaDoor
open Go Go.RowKit
set_option linter.unusedVariables false
set_option linter.unusedSimpArgs false
/-- Each operation that cuts a list from i to j hands A back. -/
def CutOp (ao : Option Addr) (n cap i j : Nat) (A : Value) : Prop := ∀ (op : Oper) (a : Act) (s : Operand) (x y : Option Operand), op.op = .slice 22 s x y none → a.eval s = .slice ao n cap → ((x = none ∧ i = 0) ∨ ∃ u kx, x = some u ∧ a.eval u = .int kx (i : Int)) → ((y = none ∧ j = n) ∨ ∃ u ky, y = some u ∧ a.eval u = .int ky (j : Int)) → ∀ w', (execOp a.eval op).run Tryd.prog w' = .ok (.value A) w'
theorem CutOp.to {ao : Option Addr} {n cap j : Nat} {A : Value} (h : CutOp ao n cap 0 j A) (op : Oper) (a : Act) (s u : Operand) (ky : IntKind) (ho : op.op = .slice 22 s none (some u) none) (hs : a.eval s = .slice ao n cap) (hu : a.eval u = .int ky (j : Int)) (w' : World) : (execOp a.eval op).run Tryd.prog w' = .ok (.value A) w' :=
  h op a s _ _ ho hs (.inl ⟨rfl, rfl⟩) (.inr ⟨_, _, rfl, hu⟩) w'
theorem CutOp.from {ao : Option Addr} {n cap i : Nat} {A : Value} (h : CutOp ao n cap i n A) (op : Oper) (a : Act) (s u : Operand) (ky : IntKind) (ho : op.op = .slice 22 s (some u) none none) (hs : a.eval s = .slice ao n cap) (hu : a.eval u = .int ky (i : Int)) (w' : World) : (execOp a.eval op).run Tryd.prog w' = .ok (.value A) w' :=
  h op a s _ _ ho hs (.inr ⟨_, _, rfl, hu⟩) (.inl ⟨rfl, rfl⟩) w'
/-- A cut of a list that is read: what it reads as, and that each operation that cuts so hands it back. -/
theorem rdi_cut {W : World} {ao : Option Addr} {n cap : Nat} {l : List It} (h : RdI W (.slice ao n cap) l) (i j : Nat) (hij : i ≤ j) (hj : j ≤ n) : ∃ A, RdI W A ((l.drop i).take (j - i)) ∧
    CutOp ao n cap i j A := by
  obtain ⟨i0, hi, hz0, hz1, hz2⟩ := info_parts item_info
  refine ⟨_, RdK.sliced itC_len h i j hij hj, ?_⟩
  intro op a s x y ho hs hx hy w'
  have hnc : n ≤ cap := by obtain ⟨_, _, he, h3, _⟩ := h; cases he; exact h3
  have b0 : (0 : Int) ≤ (i : Int) := by omega
  have b1 : (0 : Int) ≤ (j : Int) := by omega
  have b2 : (j : Int) ≤ (cap : Int) := by omega
  have b3 : (i : Int) ≤ (j : Int) := by omega
  have b4 : j ≤ cap := by omega
  have ht : Tryd.prog.underlying 22 = some (.slice 53) := Tryd.underlying22
  rcases hx with ⟨rfl, rfl⟩ | ⟨u, kx, rfl, hx⟩ <;> rcases hy with ⟨rfl, rfl⟩ | ⟨u2, ky, rfl, hy⟩
  · simp [execOp, ho, hs, Instr.sliceAt, Instr.slice, run_underlying ht, Instr.sliceBounds, Instr.sliceBound, asIntOf, sizeOf, typeInfo, hi, hz1, Result.andThen, hnc]
  · simp [execOp, ho, hs, hy, Instr.sliceAt, Instr.slice, run_underlying ht, Instr.sliceBounds, Instr.sliceBound, asIntOf, b0, b1, b2, b4, sizeOf, typeInfo, hi, hz1, Result.andThen]
  · simp [execOp, ho, hs, hx, Instr.sliceAt, Instr.slice, run_underlying ht, Instr.sliceBounds, Instr.sliceBound, asIntOf, b0, b3, sizeOf, typeInfo, hi, hz1, Result.andThen, hnc, hj, hij]
  · simp [execOp, ho, hs, hx, hy, Instr.sliceAt, Instr.slice, run_underlying ht, Instr.sliceBounds, Instr.sliceBound, asIntOf, b0, b1, b2, b3, b4, hij, sizeOf, typeInfo, hi, hz1, Result.andThen]
set_option maxRecDepth 100000 in
theorem grow_any (n : Nat) (w : World) (hn : n ≤ 100000) :
    Calls Tryd.prog 143 #[.slice none 0 0, .int .i64 (n : Int)] w (OwnI w []) := by
  obtain ⟨i0, hi, hz0, hz1, hz2⟩ := info_parts item_info
  by_cases h0 : n = 0
  · subst h0
    go_enter Tryd.func143, Tryd.ntmps143
    go_wp2_with fail
    go_ret
    exact ⟨_, rfl, World.ownsRow_nil _ _ _ _, Below.refl _ _⟩
  · have happ := fun w => Lib.run_append_nil_zeros (P := Tryd.prog) w 22 3 22 53 i0 (.agg #[.string ⟨#[]⟩, .int .i64 0, .int .i64 0, .string ⟨#[]⟩, .int .i64 0]) .i64 .i64 Tryd.underlying22 Tryd.underlying3 hi hz0 n (by omega) (by omega) (by omega) (by rw [hz2]; omega)
    have HAPP := Lib.hid (happ w)
    clear happ
    have hpos : 0 < n := by omega
    clear h0
    obtain ⟨cap2, hcap⟩ : ∃ c, c = grownCap w n 0 53 := ⟨_, rfl⟩
    have hcapge : n ≤ cap2 := by rw [hcap]; exact grownCap_ge w _ 0 53
    have hcaple : cap2 ≤ maxLen := by rw [hcap]; exact grownCap_le_maxLen w _ 0 53 (by unfold maxLen; omega)
    obtain ⟨Z, hZ⟩ : ∃ Z, Z = Builtin.zeroCells (Value.cells (.agg #[.string ⟨#[]⟩, .int .i64 0, .int .i64 0, .string ⟨#[]⟩, .int .i64 0])) n ++ Builtin.zeroCells (Value.cells (.agg #[.string ⟨#[]⟩, .int .i64 0, .int .i64 0, .string ⟨#[]⟩, .int .i64 0])) (cap2 - n) := ⟨_, rfl⟩
    have hZs : Z.size = cap2 * 5 := by rw [hZ]; simp [size_zeroCells, Value.cells]; omega
    have happ := HAPP.out
    rw [← hcap, ← hZ] at happ
    have HAPP := Lib.hid happ
    clear hcap hZ happ
    have hc2 : cap2 ≤ 9223372036854775807 := by unfold maxLen at hcaple; omega
    go_enter Tryd.func143, Tryd.ntmps143
    go_wp2_with (at_builtin; refine Lib.wpList_append_run _ rfl _ _ _ _ rfl _ _ rfl rfl _ _ HAPP.out ?_)
    go_ret
    exact ⟨_, rfl, ⟨by simp, .inr ⟨w.heap.size, cap2, Z, rfl, Nat.le_refl _, heap_alloc_new _ _, Nat.zero_le _, hcaple, hZs, by simp⟩⟩, ⟨rfl, rfl, rfl, by simp, fun k hk => Below.heap_alloc w _ k hk⟩⟩
/-- Lists of items, as a slice of slices. -/
def RdLs (w : World) (v : Value) (ls : List (List It)) : Prop := ∃ ao cap, v = .slice ao ls.length cap ∧ ls.length ≤ cap ∧ cap ≤ maxLen ∧ Hid (∀ j (h : j < ls.length), ∃ b off a2 c2, ao = some ⟨b, off, none⟩ ∧ b < w.heap.size ∧ w.cell? ⟨b, off + j, none⟩ = some (.slice a2 ls[j].length c2) ∧ ls[j].length ≤ c2 ∧ c2 ≤ 9223372036854775807 ∧ RdI w (.slice a2 ls[j].length c2) ls[j])
theorem flat_succ {ls : List (List It)} {j : Nat} (h : j < ls.length) : (ls.take (j + 1)).flatten = (ls.take j).flatten ++ ls[j] := by
  rw [List.take_add_one, List.getElem?_eq_getElem h, List.flatten_append]; simp
theorem flat_le {ls : List (List It)} (j : Nat) : (ls.take j).flatten.length ≤ ls.flatten.length := by
  conv => rhs; rw [← List.take_append_drop j ls, List.flatten_append, List.length_append]
  omega
set_option maxRecDepth 100000 in
set_option maxHeartbeats 1000000 in
theorem concat_any (v : Value) (ls : List (List It)) (w : World) (h : RdLs w v ls) (hn : ls.length ≤ 10) (ht : ls.flatten.length ≤ 1000) :
    Calls Tryd.prog 138 #[v] w (OwnI w ls.flatten) := by
  obtain ⟨i0, hi, hz0, hz1, hz2⟩ := info_parts item_info
  obtain ⟨ao, cap, rfl, hc, hm, HC⟩ := h
  unfold maxLen at hm
  obtain ⟨R, hR⟩ : ∃ R, R = ls.flatten := ⟨_, rfl⟩
  have HR := Lib.hid hR
  rw [← hR]
  have HT := Lib.hid ht
  clear hR ht
  go_enter Tryd.func138, Tryd.ntmps138
  go_wp2_with fail
  go_loop [3, 11] (fun z i => ∃ j s : Nat, j ≤ ls.length ∧ i = .int .i64 (j : Int) ∧ z = .int .i64 (s : Int) ∧ s ≤ 1000 ∧ Hid (s = (ls.take j).flatten.length)) (fun _ i => 20 - (intOf i).toNat)
  case atStart => exact ⟨0, 0, Nat.zero_le _, rfl, rfl, by omega, rfl⟩
  case round =>
    obtain ⟨j, s, hj, rfl, rfl, hs, HS⟩ := hrel
    by_cases hlt : j < ls.length
    · obtain ⟨b, off, a2, c2, rfl, hb, c0, hc2, hm2, -⟩ := HC.out j hlt
      obtain ⟨n, hnn⟩ : ∃ n, n = (ls[j]'hlt).length := ⟨_, rfl⟩
      rw [← hnn] at c0 hc2
      have h1 := flat_succ hlt
      have h2 := flat_le (ls := ls) (j + 1)
      rw [h1, List.length_append, ← hnn, ← HS.out] at h2
      have h3 := HT.out
      have HS2 : Hid (s + n = (ls.take (j + 1)).flatten.length) := Lib.hid (by rw [h1, List.length_append, ← hnn, ← HS.out])
      have h4 : s + n ≤ 1000 := by omega
      clear h1 h2 h3 hnn
      go_wp2_with fail
      exact ⟨⟨j + 1, s + n, by omega, by push_cast; rfl, by push_cast; rfl, h4, HS2⟩, by simp [intOf]; omega⟩
    · obtain rfl : j = ls.length := by omega
      have GR := grow_any s w (by omega)
      go_wp2_with fail
      refine GR.mono ?_
      rintro e w1 ⟨v0, rfl, own0, bel0⟩
      clear GR
      go_wp2_with fail
      go_loopw [6, 27] (fun out i wr => ∃ (j : Nat) (acc : List It), j ≤ ls.length ∧ i = .int .i64 (j : Int) ∧ acc.length ≤ 1000 ∧ Hid (acc = (ls.take j).flatten) ∧ wr.ownsRow w.heap.size 53 5 out acc.length (acc.flatMap itC) ∧ Below w.heap.size w wr) (fun _ i _ => 20 - (intOf i).toNat)
      case atStart => exact ⟨0, [], Nat.zero_le _, rfl, Nat.zero_le _, rfl, own0, bel0⟩
      case round =>
        obtain ⟨j, acc, hj, rfl, hacc, HA, hown, bel⟩ := hrel
        by_cases hlt : j < ls.length
        · obtain ⟨b, off, a2, c2, rfl, hb, c0, hc2, hm2, hrd⟩ := HC.out j hlt
          obtain ⟨l2, hl2⟩ : ∃ l2, l2 = ls[j]'hlt := ⟨_, rfl⟩
          rw [← hl2] at c0 hc2 hrd
          have c0 := (bel.cell (p := ⟨b, off + j, none⟩) hb).trans c0
          have hrd := hrd.below bel (Nat.le_refl _)
          have h1 := flat_succ hlt
          have h2 := flat_le (ls := ls) (j + 1)
          rw [h1, List.length_append, ← hl2, ← HA.out] at h2
          have h3 := HT.out
          have HA2 : Hid (acc ++ l2 = (ls.take (j + 1)).flatten) := Lib.hid (by rw [h1, ← hl2, ← HA.out])
          have h4 : acc.length + l2.length ≤ 1000 := by omega
          have HRD2 := Lib.hid hrd
          clear h1 h2 h3 hl2 hrd
          go_wp2_with (at_builtin; refine wpList_app_rdk itC_len (by decide) w rfl (.tmp 31) (.tmp 32) 22 rfl w.heap.size 53 i0 (.agg #[.string ⟨#[]⟩, .int .i64 0, .int .i64 0, .string ⟨#[]⟩, .int .i64 0]) 56 Tryd.underlying22 hi hz0 hz1 hz2 rfl _ _ rfl hown _ l2 rfl HRD2.out itC_one (by unfold maxLen; omega) (by omega) (Nat.le_refl _) bel ?_; intro v' w2 hown2 hb2 hq2; clear hq2)
          exact ⟨⟨j + 1, acc ++ l2, by omega, by push_cast; rfl, by simp; omega, HA2, hown2, hb2⟩, by simp [intOf]; omega⟩
        · obtain rfl : j = ls.length := by omega
          have E := Lib.hid (show R = acc by rw [HR.out, HA.out, List.take_length])
          go_wp2_with fail
          go_ret
          have e := E.out
          subst e
          exact ⟨_, rfl, hown, bel⟩
set_option maxRecDepth 100000 in
theorem clone_any (v : Value) (l : List It) (w : World) (h : RdI w v l) (h66 : l.length ≤ 1000) :
    Calls Tryd.prog 139 #[v] w (OwnI w l) := by
  obtain ⟨i0, hi, hz0, hz1, hz2⟩ := info_parts item_info
  obtain ⟨ao, cap, rfl, hc, hm, hr⟩ := RdK.open h
  cases ao with
  | none =>
    have hcap : cap = 0 := by obtain ⟨_, _, he, _, _, h4, _⟩ := hr; cases he; exact h4 rfl
    obtain rfl : l = [] := List.eq_nil_of_length_eq_zero (by omega)
    subst hcap
    have hnil : ∀ W, (binOp .eql 22 (.slice none 0 0) (.slice none 0 0)).run Tryd.prog W = .ok (.bool true) W := fun W => Lib.run_eql_slice_nil_nil W 0 0 Tryd.underlying22
    clear h hr
    go_enter Tryd.func139, Tryd.ntmps139
    go_wp2_with fail
    go_ret
    exact ⟨_, rfl, World.ownsRow_nil _ _ _ _, Below.refl _ _⟩
  | some ad =>
    have hr : RdI w (.slice (some ad) l.length cap) l := hr
    have HSZ := Lib.hid (show (w.alloc (.cells #[] 53)).heap.size = w.heap.size + 1 from by simp)
    have HLIT := Lib.hid (World.ownsRow_lit (e := 53) (size := 5) w #[] 0 (Nat.le_refl _) (by decide) rfl)
    have HRD := Lib.hid hr
    have hsome := fun W => Lib.run_eql_slice_some_nil (P := Tryd.prog) W ad l.length cap Tryd.underlying22
    clear h hr
    go_enter Tryd.func139, Tryd.ntmps139
    go_wp2_with (at_builtin; refine wpList_app_rdk itC_len (by decide) w rfl (.tmp 5) (.tmp 6) 22 rfl w.heap.size 53 i0 (.agg #[.string ⟨#[]⟩, .int .i64 0, .int .i64 0, .string ⟨#[]⟩, .int .i64 0]) 56 Tryd.underlying22 hi hz0 hz1 hz2 rfl (.slice (some ⟨w.heap.size, 0, none⟩) 0 0) [] rfl HLIT.out (.slice (some ad) l.length cap) l rfl (HRD.out.below ((Below.refl _ _).alloc (Nat.le_refl _) _) (Nat.le_refl _)) itC_one (by unfold maxLen; simp; omega) (by simp; omega) (Nat.le_refl _) ((Below.refl _ _).alloc (Nat.le_refl _) _) ?_; intro v' w1 hown2 hb2 hq2; clear hq2)
    go_ret
    exact ⟨_, rfl, hown2, hb2⟩
end Go.Proofs.YtbdfcgffkonbiaaDoor
namespace Go.Proofs.YtbdfcgffkonbiaaDoor
open Go Go.RowKit
set_option linter.unusedVariables false
set_option linter.unusedSimpArgs false
theorem it_eq_no (x y : It) (h : x ≠ y) (w : World) : (binOp .eql 53 (itV x) (itV y)).run Tryd.prog w = .ok (.bool false) w := by
  obtain ⟨a, ⟨b, c, d⟩, e⟩ := x
  obtain ⟨a', ⟨b', c', d'⟩, e'⟩ := y
  unfold itV
  go_simp
  by_cases h1 : a = a'
  · by_cases h2 : b = b'
    · by_cases h3 : c = c'
      · by_cases h4 : d = d'
        · by_cases h5 : e = e'
          · exact absurd (by rw [h1, h2, h3, h4, h5]) h
          · simp [h1, h2, h3, h4, h5, str_tl]
        · simp [h1, h2, h3, h4, str_tl]
      · simp [h1, h2, h3, str_tl]
    · simp [h1, h2, str_tl]
  · simp [h1, str_tl]
theorem put5 {w : World} {B : Nat} {a0 a1 a2 a3 a4 : Value} (u0 u1 u2 u3 u4 : Value) {t : TypeId} (h : w.heap[B]? = some (.cells #[a0, a1, a2, a3, a4] t (0, 0))) :
    (((((w.setCell ⟨B, 0, none⟩ u0).setCell ⟨B, 1, none⟩ u1).setCell ⟨B, 2, none⟩ u2).setCell ⟨B, 3, none⟩ u3).setCell ⟨B, 4, none⟩ u4).heap[B]? = some (.cells #[u0, u1, u2, u3, u4] t (0, 0)) := by
  simpa using set_at (i := 4) (u := u4) (set_at (i := 3) (u := u3) (set_at (i := 2) (u := u2) (set_at (i := 1) (u := u1) (set_at (i := 0) (u := u0) h))))
theorem put5_below {n : Nat} {w0 w : World} {B : Nat} (u0 u1 u2 u3 u4 : Value) (h : Below n w0 w) (hB : n ≤ B) : Below n w0 (((((w.setCell ⟨B, 0, none⟩ u0).setCell ⟨B, 1, none⟩ u1).setCell ⟨B, 2, none⟩ u2).setCell ⟨B, 3, none⟩ u3).setCell ⟨B, 4, none⟩ u4) :=
  ((((h.setCell (p := ⟨B, 0, none⟩) hB _).setCell (p := ⟨B, 1, none⟩) hB _).setCell (p := ⟨B, 2, none⟩) hB _).setCell (p := ⟨B, 3, none⟩) hB _).setCell (p := ⟨B, 4, none⟩) hB _
theorem set5 {w : World} {B n : Nat} {v : World} {a0 a1 a2 a3 a4 : Value} (u0 u1 u2 u3 u4 : Value) {t : TypeId} (h : w.heap[B]? = some (.cells #[a0, a1, a2, a3, a4] t (0, 0))) (hb : Below n v w) (hn : n ≤ B) :
    (((((w.setCell ⟨B, 0, none⟩ u0).setCell ⟨B, 1, none⟩ u1).setCell ⟨B, 2, none⟩ u2).setCell ⟨B, 3, none⟩ u3).setCell ⟨B, 4, none⟩ u4).cell? ⟨B, 0, none⟩ = some u0 ∧ (((((w.setCell ⟨B, 0, none⟩ u0).setCell ⟨B, 1, none⟩ u1).setCell ⟨B, 2, none⟩ u2).setCell ⟨B, 3, none⟩ u3).setCell ⟨B, 4, none⟩ u4).cell? ⟨B, 1, none⟩ = some u1 ∧ (((((w.setCell ⟨B, 0, none⟩ u0).setCell ⟨B, 1, none⟩ u1).setCell ⟨B, 2, none⟩ u2).setCell ⟨B, 3, none⟩ u3).setCell ⟨B, 4, none⟩ u4).cell? ⟨B, 2, none⟩ = some u2 ∧ (((((w.setCell ⟨B, 0, none⟩ u0).setCell ⟨B, 1, none⟩ u1).setCell ⟨B, 2, none⟩ u2).setCell ⟨B, 3, none⟩ u3).setCell ⟨B, 4, none⟩ u4).cell? ⟨B, 3, none⟩ = some u3 ∧ (((((w.setCell ⟨B, 0, none⟩ u0).setCell ⟨B, 1, none⟩ u1).setCell ⟨B, 2, none⟩ u2).setCell ⟨B, 3, none⟩ u3).setCell ⟨B, 4, none⟩ u4).cell? ⟨B, 4, none⟩ = some u4 ∧ Below n v (((((w.setCell ⟨B, 0, none⟩ u0).setCell ⟨B, 1, none⟩ u1).setCell ⟨B, 2, none⟩ u2).setCell ⟨B, 3, none⟩ u3).setCell ⟨B, 4, none⟩ u4) := by
  obtain ⟨c0, c1, c2, c3, c4, -⟩ := block_cells5 (put5 u0 u1 u2 u3 u4 h)
  exact ⟨c0, c1, c2, c3, c4, put5_below u0 u1 u2 u3 u4 hb hn⟩
theorem atL_found {l : List It} {k : List UInt8} (h : isL l = true) : (foundL l k = true ∧ ∃ hp : posL l k < l.length, l[posL l k].key = k ∧ atL l k = some l[posL l k]) ∨ (foundL l k = false ∧ (∀ hp : posL l k < l.length, l[posL l k].key ≠ k) ∧ atL l k = none) := by
  have hs := isL_sorted h
  cases hf : foundL l k with
  | true =>
    obtain ⟨hp, hk⟩ := found_yes hf
    exact .inl ⟨rfl, hp, hk, pos_at hs hp hk⟩
  | false =>
    have hk := found_no hf
    exact .inr ⟨rfl, hk, at_none hs hk⟩
/-- Slices of items in a block of their own, as lists. -/
theorem rdls_mk {W : World} {g n : Nat} {cs : Array Value} {T : TypeId} {ls : List (List It)} (hq : W.heap[g]? = some (.cells cs T (0, 0))) (hn : ls.length = n) (h10 : n ≤ 10) (h : ∀ j (hj : j < ls.length), ∃ A, cs[j]? = some A ∧ RdI W A ls[j]) : RdLs W (.slice (some ⟨g, 0, none⟩) n n) ls := by
  subst hn
  refine ⟨_, _, rfl, Nat.le_refl _, by unfold maxLen; omega, Lib.hid fun j hj => ?_⟩
  obtain ⟨A, h1, h2⟩ := h j hj
  obtain ⟨a2, c2, rfl, h3, h4, h5⟩ := RdK.open h2
  exact ⟨g, 0, a2, c2, rfl, lt_of_block hq, by rw [Nat.zero_add, block_cell hq j]; exact h1, h3, h4, h5⟩
theorem rdi_one {W : World} {g : Nat} {x : It} {cs : List Value} {T : TypeId} (hq : W.heap[g]? = some (.cells cs.toArray T (0, 0))) (hcs : cs = itC x) : RdI W (.slice (some ⟨g, 0, none⟩) 1 1) [x] := by
  subst hcs
  refine ⟨_, 1, rfl, by simp, by unfold maxLen; omega, by simp, fun _ => ⟨g, 0, rfl, lt_of_block hq, fun t ht => ?_⟩⟩
  rw [Nat.zero_add, block_cell hq t]
  simp
def itZ : Value := .agg #[.string (str []), .int .i64 0, .int .i64 0, .string (str []), .int .i64 0]
/-- What Get hands back. -/
def getT (l : List It) (k : List UInt8) : Value := if isL l = true then (match atL l k with | some x => .tuple #[itV x, .bool true] | none => .tuple #[itZ, .bool false]) else .tuple #[itZ, .bool false]
theorem getT_no {l : List It} {k : List UInt8} (h : isL l = false) : getT l k = .tuple #[itZ, .bool false] := by unfold getT; rw [h]; rfl
theorem getT_none {l : List It} {k : List UInt8} (h1 : isL l = true) (h : atL l k = none) : getT l k = .tuple #[itZ, .bool false] := by unfold getT; rw [if_pos h1, h]
theorem getT_some {l : List It} {k : List UInt8} {x : It} (h1 : isL l = true) (h : atL l k = some x) : getT l k = .tuple #[itV x, .bool true] := by unfold getT; rw [if_pos h1, h]
set_option maxRecDepth 100000 in
set_option maxHeartbeats 1000000 in
theorem lget_any (v : Value) (l : List It) (k : List UInt8) (w : World) (tab : TabAt w) (h : RdI w v l) (hsz : SzI l) :
    Calls Tryd.prog 98 #[v, .string (str k)] w fun e w' => e = .returned (getT l k) ∧ Below w.heap.size w w' := by
  obtain ⟨ao, cap, rfl, hc, hm, hr⟩ := RdK.open h
  have HRD := Lib.hid (show RdI w (.slice ao l.length cap) l from hr)
  have q0 := heap_alloc_new w (.cells #[.string (str []), .int .i64 0, .int .i64 0, .string (str []), .int .i64 0] 53)
  have B0 := (Below.refl w.heap.size w).alloc (Nat.le_refl _) (.cells #[.string (str []), .int .i64 0, .int .i64 0, .string (str []), .int .i64 0] 53)
  have T0 := tab.below B0
  have IS0 := fun W (t : TabAt W) (h : RdI W (.slice ao l.length cap) l) => is9_any _ l W t h hsz
  obtain ⟨R, hR⟩ : ∃ R, R = getT l k := ⟨_, rfl⟩
  rw [← hR]
  clear h hr
  cases hl : isL l with
  | false =>
    simp only [hl] at IS0
    have IS := Lib.hid IS0
    have HG := Lib.hid (hR.trans (getT_no hl))
    clear hR hl IS0
    go_enter Tryd.func98, Tryd.ntmps98
    go_wp2_with fail
    refine (IS.out _ T0 (HRD.out.below B0 (Nat.le_refl _))).mono ?_
    rintro e w2 ⟨rfl, g2⟩
    have q2 := (g2.block _ (lt_of_block q0)).trans q0
    obtain ⟨d0, d1, d2, d3, d4, dz⟩ := block_cells5 q2
    have B2 := chain B0 g2
    clear g2
    clear q0
    go_wp2_with fail
    obtain ⟨r0, r1, r2, r3, r4, bel9⟩ := set5 (.string (str [])) (.int .i64 0) (.int .i64 0) (.string (str [])) (.int .i64 0) q2 B2 (Nat.le_refl _)
    refine bodyPost_ret (v := .tuple #[.agg #[.string (str []), .int .i64 0, .int .i64 0, .string (str []), .int .i64 0], .bool false]) (by simp [results, Tryd.results98, go_sem, r0, r1, r2, r3, r4, str_e]) rfl ⟨by rw [HG.out]; rfl, bel9⟩
  | true =>
    simp only [hl] at IS0
    have IS := Lib.hid IS0
    have h64 := isL_len hl
    have hso := Lib.hid (isL_sorted hl)
    rcases atL_found (k := k) hl with ⟨hf, hp, hk, hat⟩ | ⟨hf, hk, hat⟩
    · have FD0 := fun W (h : RdI W (.slice ao l.length cap) l) => find_any _ l k W h h64 hso.out
      simp only [hf] at FD0
      have HG := Lib.hid (hR.trans (getT_some hl hat))
      obtain ⟨p, hpp⟩ : ∃ p, p = posL l k := ⟨_, rfl⟩
      obtain ⟨x, hx⟩ : ∃ x, x = l[posL l k]'hp := ⟨_, rfl⟩
      have HX := Lib.hid (show ∀ h : p < l.length, l[p] = x by intro h; rw [hx]; congr 1)
      have hpl : p < l.length := by rw [hpp]; exact hp
      simp only [← hpp] at FD0
      rw [← hx] at HG
      have FD := Lib.hid FD0
      clear hR hl IS0 hf hk hat FD0 hx hpp hp
      go_enter Tryd.func98, Tryd.ntmps98
      go_wp2_with fail
      refine (IS.out _ T0 (HRD.out.below B0 (Nat.le_refl _))).mono ?_
      rintro e w2 ⟨rfl, g2⟩
      have q2 := (g2.block _ (lt_of_block q0)).trans q0
      obtain ⟨d0, d1, d2, d3, d4, dz⟩ := block_cells5 q2
      have B2 := chain B0 g2
      clear g2
      go_wp2_with fail
      refine (FD.out _ (HRD.out.below B2 (Nat.le_refl _))).mono ?_
      rintro e w3 ⟨rfl, n3, hw3⟩
      have g3 : Below w2.heap.size w2 w3 := by rw [hw3]; exact below_drewN (Below.refl _ _)
      have q3 := (g3.block _ (lt_of_block q2)).trans q2
      obtain ⟨d0, d1, d2, d3, d4, dz⟩ := block_cells5 q3
      have B3 := chain B2 g3
      have hrd := HRD.out.below B3 (Nat.le_refl _)
      obtain ⟨b, off, rfl, hb, c0, c1, c2, c3, c4⟩ := rdi_cells hrd p hpl
      rw [HX.out hpl] at c0 c1 c2 c3 c4
      clear q0 q2 g3 hw3 hrd
      go_wp2_with fail
      obtain ⟨r0, r1, r2, r3, r4, bel9⟩ := set5 (.string (str x.key)) (.int .i64 x.v.k) (.int .i64 x.v.i) (.string (str x.v.s)) (.int .i64 x.ver) q3 B3 (Nat.le_refl _)
      refine bodyPost_ret (v := .tuple #[.agg #[.string (str x.key), .int .i64 x.v.k, .int .i64 x.v.i, .string (str x.v.s), .int .i64 x.ver], .bool true]) (by simp [results, Tryd.results98, go_sem, r0, r1, r2, r3, r4, str_e]) rfl ⟨by rw [HG.out]; rfl, bel9⟩
    · have FD0 := fun W (h : RdI W (.slice ao l.length cap) l) => find_any _ l k W h h64 hso.out
      simp only [hf] at FD0
      have HG := Lib.hid (hR.trans (getT_none hl hat))
      obtain ⟨p, hpp⟩ : ∃ p, p = posL l k := ⟨_, rfl⟩
      simp only [← hpp] at FD0
      have FD := Lib.hid FD0
      clear hR hl IS0 hf hk hat FD0 hpp
      go_enter Tryd.func98, Tryd.ntmps98
      go_wp2_with fail
      refine (IS.out _ T0 (HRD.out.below B0 (Nat.le_refl _))).mono ?_
      rintro e w2 ⟨rfl, g2⟩
      have q2 := (g2.block _ (lt_of_block q0)).trans q0
      obtain ⟨d0, d1, d2, d3, d4, dz⟩ := block_cells5 q2
      have B2 := chain B0 g2
      clear g2
      go_wp2_with fail
      refine (FD.out _ (HRD.out.below B2 (Nat.le_refl _))).mono ?_
      rintro e w3 ⟨rfl, n3, hw3⟩
      have g3 : Below w2.heap.size w2 w3 := by rw [hw3]; exact below_drewN (Below.refl _ _)
      have q3 := (g3.block _ (lt_of_block q2)).trans q2
      obtain ⟨d0, d1, d2, d3, d4, dz⟩ := block_cells5 q3
      have B3 := chain B2 g3
      clear q0 q2 g3 hw3
      go_wp2_with fail
      obtain ⟨r0, r1, r2, r3, r4, bel9⟩ := set5 (.string (str [])) (.int .i64 0) (.int .i64 0) (.string (str [])) (.int .i64 0) q3 B3 (Nat.le_refl _)
      refine bodyPost_ret (v := .tuple #[.agg #[.string (str []), .int .i64 0, .int .i64 0, .string (str []), .int .i64 0], .bool false]) (by simp [results, Tryd.results98, go_sem, r0, r1, r2, r3, r4, str_e]) rfl ⟨by rw [HG.out]; rfl, bel9⟩
end Go.Proofs.YtbdfcgffkonbiaaDoor
