/- Leaves: is it one, where a key stands; the law's shorter lists. Written by wip/tools/gen9c.py. -/
/- Leaves: the law's one and few, the document's At, Without, With, Same. Written by wip/tools/gen9d.py. -/
/- Leaves: what the library makes of lists of items: Grow, Concat, Clone; cuts of a list. Written by wip/tools/gen9e.py. -/
import Derived.Test.YtbdfcgffkonbiaaGreatDoorQSSC12
import Derived.Lib.AppendZeros
import Derived.Lib.BufferMore
namespace Go.Proofs.YtbdfcgffkonbiaaGreatDoor
open Go Go.RowKit
set_option linter.unusedVariables false
set_option linter.unusedSimpArgs false
theorem isL_cases (l : List It) : (isL l = true ∧ (chkL l).1 = 0) ∨ (isL l = false ∧ 1 ≤ (chkL l).1) := by
  unfold isL
  cases h : (chkL l).1 with
  | zero => exact .inl ⟨rfl, rfl⟩
  | succ n => exact .inr ⟨rfl, by omega⟩
theorem cast_eq0 {n : Nat} (h : n = 0) : ((n : Int) == 0) = true := by simp [h]
theorem cast_ne0 {n : Nat} (h : 1 ≤ n) : ((n : Int) == 0) = false := by simp; omega
set_option maxRecDepth 100000 in
theorem refIs9_any (v : Value) (l : List It) (w : World) (tab : TabAt w) (h : RdI w v l) (hsz : SzI l) :
    Calls Tryz.prog 57 #[v] w fun e w' => e = .returned (.bool (isL l)) ∧ Below w.heap.size w w' := by
  have C := refCheck_any v l w tab h hsz
  obtain ⟨a, ha⟩ : ∃ a : Nat, a = (chkL l).1 := ⟨_, rfl⟩
  obtain ⟨b, hb⟩ : ∃ b : Nat, b = (chkL l).2 := ⟨_, rfl⟩
  rw [← ha, ← hb] at C
  rcases isL_cases l with ⟨h1, h2⟩ | ⟨h1, h2⟩
  · rw [h1]
    rw [← ha] at h2
    have e0 := cast_eq0 h2
    clear ha hb h1 h2
    go_enter Tryz.func57, Tryz.ntmps57
    go_wp2_with fail
    refine C.mono ?_
    rintro e w1 ⟨rfl, g⟩
    go_wp2_with fail
    go_ret
    exact ⟨rfl, g⟩
  · rw [h1]
    rw [← ha] at h2
    have e0 := cast_ne0 h2
    clear ha hb h1 h2
    go_enter Tryz.func57, Tryz.ntmps57
    go_wp2_with fail
    refine C.mono ?_
    rintro e w1 ⟨rfl, g⟩
    go_wp2_with fail
    go_ret
    exact ⟨rfl, g⟩
/-- Does the key stand there? -/
def foundL (l : List It) (k : List UInt8) : Bool := match l[posL l k]? with | some x => decide (x.key = k) | none => false
theorem found_yes {l : List It} {k : List UInt8} (h : foundL l k = true) : ∃ h : posL l k < l.length, l[posL l k].key = k := by
  unfold foundL at h
  by_cases hp : posL l k < l.length
  · rw [List.getElem?_eq_getElem hp] at h
    exact ⟨hp, by simpa using h⟩
  · rw [List.getElem?_eq_none (by omega)] at h; cases h
theorem found_no {l : List It} {k : List UInt8} (h : foundL l k = false) : ∀ h : posL l k < l.length, l[posL l k].key ≠ k := by
  intro hp
  unfold foundL at h
  rw [List.getElem?_eq_getElem hp] at h
  simpa using h
end Go.Proofs.YtbdfcgffkonbiaaGreatDoor
namespace Go.Proofs.YtbdfcgffkonbiaaGreatDoor
open Go Go.RowKit
set_option linter.unusedVariables false
set_option linter.unusedSimpArgs false
theorem item_info : (Tryz.prog.info? 48).map (fun i => (i.zero, i.size, i.bytes)) = some (some (.agg #[.string ⟨#[]⟩, .int .i64 0, .int .i64 0, .string ⟨#[]⟩, .int .i64 0]), 5, 56) := by kernel_rfl
theorem own_keep {w w' : World} {b : Nat} {e : TypeId} {size : Nat} {v : Value} {n : Nat} {xs : List Value} (h : w.ownsRow b e size v n xs) (hb : Below w.heap.size w w') : w'.ownsRow b e size v n xs := by
  refine ⟨h.1, ?_⟩
  rcases h.2 with h1 | ⟨g, cap, cur, rfl, h2, h3, h4⟩
  · exact .inl h1
  · exact .inr ⟨g, cap, cur, rfl, h2, (hb.block g (lt_of_block h3)).trans h3, h4⟩
theorem own_draw {w : World} {b : Nat} {e : TypeId} {size : Nat} {v : Value} {n : Nat} {xs : List Value} (h : w.ownsRow b e size v n xs) (k : Nat) : (w.drewN k).ownsRow b e size v n xs := own_keep h (below_drewN (Below.refl _ _))
/-- A call hands back a list of items of its own. -/
def OwnI (w : World) (l : List It) (e : Ending) (w' : World) : Prop := ∃ v', e = .returned v' ∧ w'.ownsRow w.heap.size 48 5 v' l.length (l.flatMap itC) ∧ Below w.heap.size w w'
theorem OwnI.rd {w w' : World} {v : Value} {b : Nat} {l : List It} (h : w'.ownsRow b 48 5 v l.length (l.flatMap itC)) : RdI w' v l := own_rdk itC_len h
def oneI (x : It) : It := ⟨x.key.take 60, ⟨x.v.k, x.v.i, x.v.s.take 200⟩, x.ver⟩
def fewL (l : List It) : List It := (l.take 66).map oneI
theorem take_map9 {f : It → It} {l : List It} {j : Nat} (h : j < l.length) : (l.take j).map f ++ [f l[j]] = (l.take (j + 1)).map f := by
  rw [List.take_add_one, List.getElem?_eq_getElem h, List.map_append]; rfl
theorem it_eq_same (x : It) (w : World) : (binOp .eql 48 (itV x) (itV x)).run Tryz.prog w = .ok (.bool true) w := by
  unfold itV; go_simp
theorem it_ne_same (x : It) (w : World) : (binOp .neq 48 (itV x) (itV x)).run Tryz.prog w = .ok (.bool false) w := by
  unfold itV; go_simp
/-- Where the document finds a key. -/
def AtR (l : List It) (k : List UInt8) (w : World) (e : Ending) (w' : World) : Prop := w = w' ∧ ∃ i : Int, e = .returned (.int .i64 i) ∧ ((i = -1 ∧ ∀ x ∈ l, x.key ≠ k) ∨ ∃ j, ∃ h : j < l.length, i = (j : Int) ∧ l[j].key = k)
set_option maxRecDepth 100000 in
theorem refAt_any (v : Value) (l : List It) (k : List UInt8) (w : World) (h : RdI w v l) :
    Calls Tryz.prog 73 #[v, .string (str k)] w (AtR l k w) := by
  obtain ⟨ao, cap, rfl, hc, hm, hr⟩ := RdK.open h
  have hr : RdI w (.slice ao l.length cap) l := hr
  have HRD := Lib.hid hr
  clear h hr
  go_enter Tryz.func73, Tryz.ntmps73
  go_wp2_with fail
  go_loop [5] (fun i => ∃ j : Nat, j ≤ l.length ∧ i = .int .i64 (j : Int) ∧ Hid (∀ x ∈ l.take j, x.key ≠ k)) (fun i => l.length - (intOf i).toNat)
  case atStart => exact ⟨0, Nat.zero_le _, rfl, fun x hx => by simp at hx⟩
  case round =>
    obtain ⟨j, hj, rfl, H0⟩ := hrel
    by_cases hlt : j < l.length
    · have hr := HRD.out
      obtain ⟨b, off, rfl, hb, c0, -⟩ := rdi_cells hr j hlt
      obtain ⟨x, hx⟩ : ∃ x, x = l[j]'hlt := ⟨_, rfl⟩
      rw [← hx] at c0
      have HX := Lib.hid hx
      clear hx hr
      by_cases he : x.key = k
      · have q1 : ((str x.key).toList == (str k).toList) = true := by rw [eq_str]; simp [he]
        have HE := Lib.hid he
        clear he
        go_wp2_with fail
        go_ret
        exact ⟨rfl, (j : Int), rfl, .inr ⟨j, hlt, rfl, by rw [← HX.out]; exact HE.out⟩⟩
      · have q1 : ((str x.key).toList == (str k).toList) = false := by rw [eq_str]; simp [he]
        have H1 : Hid (∀ x ∈ l.take (j + 1), x.key ≠ k) := Lib.hid (fun y hy => by
          rw [List.take_add_one, List.getElem?_eq_getElem hlt] at hy
          rcases List.mem_append.1 hy with h1 | h1
          · exact H0.out y h1
          · simp at h1; rw [h1, ← HX.out]; exact he)
        clear he
        go_wp2_with fail
        exact ⟨⟨j + 1, by omega, by push_cast; rfl, H1⟩, by simp [intOf]; omega⟩
    · obtain rfl : j = l.length := by omega
      go_wp2_with fail
      go_ret
      exact ⟨rfl, -1, rfl, .inl ⟨rfl, by have := H0.out; rwa [List.take_length] at this⟩⟩
theorem filter_succ {f : It → Bool} {l : List It} {j : Nat} (h : j < l.length) : (l.take (j + 1)).filter f = (l.take j).filter f ++ (if f l[j] then [l[j]] else []) := by
  rw [List.take_add_one, List.getElem?_eq_getElem h, List.filter_append]
  by_cases hf : f l[j] = true <;> simp [hf]
theorem ne_str (a b : List UInt8) : ((str a).toList != (str b).toList) = !decide (a = b) := by
  show (!((str a).toList == (str b).toList)) = _
  rw [eq_str]
end Go.Proofs.YtbdfcgffkonbiaaGreatDoor
namespace Go.Proofs.YtbdfcgffkonbiaaGreatDoor
open Go Go.RowKit
set_option linter.unusedVariables false
set_option linter.unusedSimpArgs false
/-- Each operation that cuts a list from i to j hands A back. -/
def CutOp (ao : Option Addr) (n cap i j : Nat) (A : Value) : Prop := ∀ (op : Oper) (a : Act) (s : Operand) (x y : Option Operand), op.op = .slice 22 s x y none → a.eval s = .slice ao n cap → ((x = none ∧ i = 0) ∨ ∃ u kx, x = some u ∧ a.eval u = .int kx (i : Int)) → ((y = none ∧ j = n) ∨ ∃ u ky, y = some u ∧ a.eval u = .int ky (j : Int)) → ∀ w', (execOp a.eval op).run Tryz.prog w' = .ok (.value A) w'
theorem CutOp.to {ao : Option Addr} {n cap j : Nat} {A : Value} (h : CutOp ao n cap 0 j A) (op : Oper) (a : Act) (s u : Operand) (ky : IntKind) (ho : op.op = .slice 22 s none (some u) none) (hs : a.eval s = .slice ao n cap) (hu : a.eval u = .int ky (j : Int)) (w' : World) : (execOp a.eval op).run Tryz.prog w' = .ok (.value A) w' :=
  h op a s _ _ ho hs (.inl ⟨rfl, rfl⟩) (.inr ⟨_, _, rfl, hu⟩) w'
theorem CutOp.from {ao : Option Addr} {n cap i : Nat} {A : Value} (h : CutOp ao n cap i n A) (op : Oper) (a : Act) (s u : Operand) (ky : IntKind) (ho : op.op = .slice 22 s (some u) none none) (hs : a.eval s = .slice ao n cap) (hu : a.eval u = .int ky (i : Int)) (w' : World) : (execOp a.eval op).run Tryz.prog w' = .ok (.value A) w' :=
  h op a s _ _ ho hs (.inr ⟨_, _, rfl, hu⟩) (.inl ⟨rfl, rfl⟩) w'
/-- A cut of a list that is read: what it reads as, and that each operation that cuts so hands it back. -/
theorem rdi_cut {W : World} {ao : Option Addr} {n cap : Nat} {l : List It} (h : RdI W (.slice ao n cap) l) (i j : Nat) (hij : i ≤ j) (hj : j ≤ n) : ∃ A, RdI W A ((l.drop i).take (j - i)) ∧
    CutOp ao n cap i j A := by
  obtain ⟨i0, hi, hz0, hz1, hz2⟩ := info_parts item_info
  refine ⟨_, RdK.sliced itC_len h i j hij hj, ?_⟩
  intro op a s x y ho hs hx hy w'
  have hnc : n ≤ cap := by obtain ⟨_, _, he, h3, _⟩ := h; cases he; exact h3
  have b0 : (0 : Int) ≤ (i : Int) := by omega
  have b1 : (0 : Int) ≤ (j : Int) := by omega
  have b2 : (j : Int) ≤ (cap : Int) := by omega
  have b3 : (i : Int) ≤ (j : Int) := by omega
  have b4 : j ≤ cap := by omega
  have ht : Tryz.prog.underlying 22 = some (.slice 48) := Tryz.underlying22
  rcases hx with ⟨rfl, rfl⟩ | ⟨u, kx, rfl, hx⟩ <;> rcases hy with ⟨rfl, rfl⟩ | ⟨u2, ky, rfl, hy⟩
  · simp [execOp, ho, hs, Instr.sliceAt, Instr.slice, run_underlying ht, Instr.sliceBounds, Instr.sliceBound, asIntOf, sizeOf, typeInfo, hi, hz1, Result.andThen, hnc]
  · simp [execOp, ho, hs, hy, Instr.sliceAt, Instr.slice, run_underlying ht, Instr.sliceBounds, Instr.sliceBound, asIntOf, b0, b1, b2, b4, sizeOf, typeInfo, hi, hz1, Result.andThen]
  · simp [execOp, ho, hs, hx, Instr.sliceAt, Instr.slice, run_underlying ht, Instr.sliceBounds, Instr.sliceBound, asIntOf, b0, b3, sizeOf, typeInfo, hi, hz1, Result.andThen, hnc, hj, hij]
  · simp [execOp, ho, hs, hx, hy, Instr.sliceAt, Instr.slice, run_underlying ht, Instr.sliceBounds, Instr.sliceBound, asIntOf, b0, b1, b2, b3, b4, hij, sizeOf, typeInfo, hi, hz1, Result.andThen]
/-- Lists of items, as a slice of slices. -/
def RdLs (w : World) (v : Value) (ls : List (List It)) : Prop := ∃ ao cap, v = .slice ao ls.length cap ∧ ls.length ≤ cap ∧ cap ≤ maxLen ∧ Hid (∀ j (h : j < ls.length), ∃ b off a2 c2, ao = some ⟨b, off, none⟩ ∧ b < w.heap.size ∧ w.cell? ⟨b, off + j, none⟩ = some (.slice a2 ls[j].length c2) ∧ ls[j].length ≤ c2 ∧ c2 ≤ 9223372036854775807 ∧ RdI w (.slice a2 ls[j].length c2) ls[j])
theorem flat_succ {ls : List (List It)} {j : Nat} (h : j < ls.length) : (ls.take (j + 1)).flatten = (ls.take j).flatten ++ ls[j] := by
  rw [List.take_add_one, List.getElem?_eq_getElem h, List.flatten_append]; simp
theorem flat_le {ls : List (List It)} (j : Nat) : (ls.take j).flatten.length ≤ ls.flatten.length := by
  conv => rhs; rw [← List.take_append_drop j ls, List.flatten_append, List.length_append]
  omega
set_option maxRecDepth 100000 in
theorem clone_any (v : Value) (l : List It) (w : World) (h : RdI w v l) (h66 : l.length ≤ 1000) :
    Calls Tryz.prog 38 #[v] w (OwnI w l) := by
  obtain ⟨i0, hi, hz0, hz1, hz2⟩ := info_parts item_info
  obtain ⟨ao, cap, rfl, hc, hm, hr⟩ := RdK.open h
  cases ao with
  | none =>
    have hcap : cap = 0 := by obtain ⟨_, _, he, _, _, h4, _⟩ := hr; cases he; exact h4 rfl
    obtain rfl : l = [] := List.eq_nil_of_length_eq_zero (by omega)
    subst hcap
    have hnil : ∀ W, (binOp .eql 22 (.slice none 0 0) (.slice none 0 0)).run Tryz.prog W = .ok (.bool true) W := fun W => Lib.run_eql_slice_nil_nil W 0 0 Tryz.underlying22
    clear h hr
    go_enter Tryz.func38, Tryz.ntmps38
    go_wp2_with fail
    go_ret
    exact ⟨_, rfl, World.ownsRow_nil _ _ _ _, Below.refl _ _⟩
  | some ad =>
    have hr : RdI w (.slice (some ad) l.length cap) l := hr
    have HSZ := Lib.hid (show (w.alloc (.cells #[] 48)).heap.size = w.heap.size + 1 from by simp)
    have HLIT := Lib.hid (World.ownsRow_lit (e := 48) (size := 5) w #[] 0 (Nat.le_refl _) (by decide) rfl)
    have HRD := Lib.hid hr
    have hsome := fun W => Lib.run_eql_slice_some_nil (P := Tryz.prog) W ad l.length cap Tryz.underlying22
    clear h hr
    go_enter Tryz.func38, Tryz.ntmps38
    go_wp2_with (at_builtin; refine wpList_app_rdk itC_len (by decide) w rfl (.tmp 5) (.tmp 6) 22 rfl w.heap.size 48 i0 (.agg #[.string ⟨#[]⟩, .int .i64 0, .int .i64 0, .string ⟨#[]⟩, .int .i64 0]) 56 Tryz.underlying22 hi hz0 hz1 hz2 rfl (.slice (some ⟨w.heap.size, 0, none⟩) 0 0) [] rfl HLIT.out (.slice (some ad) l.length cap) l rfl (HRD.out.below ((Below.refl _ _).alloc (Nat.le_refl _) _) (Nat.le_refl _)) itC_one (by unfold maxLen; simp; omega) (by simp; omega) (Nat.le_refl _) ((Below.refl _ _).alloc (Nat.le_refl _) _) ?_; intro v' w1 hown2 hb2 hq2; clear hq2)
    go_ret
    exact ⟨_, rfl, hown2, hb2⟩
end Go.Proofs.YtbdfcgffkonbiaaGreatDoor
