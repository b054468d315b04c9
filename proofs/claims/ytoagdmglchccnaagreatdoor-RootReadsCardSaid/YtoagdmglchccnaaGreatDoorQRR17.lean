/- Leaves: is it one, where a key stands; the law's shorter lists. Written by wip/tools/gen9c.py. -/
/- Leaves: the law's one and few, the document's At, Without, With, Same. Written by wip/tools/gen9d.py. -/
/- Leaves: what the library makes of lists of items: Grow, Concat, Clone; cuts of a list. Written by wip/tools/gen9e.py. -/
/- Leaves: Get, Put, Delete. Written by wip/tools/gen9f.py. -/
/- Values: how two are to one another. -/
/- Values: which is ahead. Written by wip/tools/gen7e.py. -/
import Derived.Test.YtoagdmglchccnaaGreatDoorQRR16
import Derived.Lib.AppendZeros
import Derived.Lib.BufferMore
import Derived.Test.YtoagdmglchccnaaGreatDoorQRR7
import Derived.Test.YtoagdmglchccnaaGreatDoorQRR14
namespace Go.Proofs.YtoagdmglchccnaaGreatDoor
open Go Go.RowKit
set_option linter.unusedVariables false
set_option linter.unusedSimpArgs false
theorem isL_cases (l : List It) : (isL l = true ∧ (chkL l).1 = 0) ∨ (isL l = false ∧ 1 ≤ (chkL l).1) := by
  unfold isL
  cases h : (chkL l).1 with
  | zero => exact .inl ⟨rfl, rfl⟩
  | succ n => exact .inr ⟨rfl, by omega⟩
theorem cast_eq0 {n : Nat} (h : n = 0) : ((n : Int) == 0) = true := by simp [h]
theorem cast_ne0 {n : Nat} (h : 1 ≤ n) : ((n : Int) == 0) = false := by simp; omega
set_option maxRecDepth 100000 in
theorem is9_any (v : Value) (l : List It) (w : World) (tab : TabAt w) (h : RdI w v l) (hsz : SzI l) :
    Calls Tryz.prog 82 #[v] w fun e w' => e = .returned (.bool (isL l)) ∧ Below w.heap.size w w' := by
  have C := check_any v l w tab h hsz
  obtain ⟨a, ha⟩ : ∃ a : Nat, a = (chkL l).1 := ⟨_, rfl⟩
  obtain ⟨b, hb⟩ : ∃ b : Nat, b = (chkL l).2 := ⟨_, rfl⟩
  rw [← ha, ← hb] at C
  rcases isL_cases l with ⟨h1, h2⟩ | ⟨h1, h2⟩
  · rw [h1]
    rw [← ha] at h2
    have e0 := cast_eq0 h2
    clear ha hb h1 h2
    go_enter Tryz.func82, Tryz.ntmps82
    go_wp2_with fail
    refine C.mono ?_
    rintro e w1 ⟨rfl, g⟩
    go_wp2_with fail
    go_ret
    exact ⟨rfl, g⟩
  · rw [h1]
    rw [← ha] at h2
    have e0 := cast_ne0 h2
    clear ha hb h1 h2
    go_enter Tryz.func82, Tryz.ntmps82
    go_wp2_with fail
    refine C.mono ?_
    rintro e w1 ⟨rfl, g⟩
    go_wp2_with fail
    go_ret
    exact ⟨rfl, g⟩
set_option maxRecDepth 100000 in
theorem refIs9_any (v : Value) (l : List It) (w : World) (tab : TabAt w) (h : RdI w v l) (hsz : SzI l) :
    Calls Tryz.prog 11 #[v] w fun e w' => e = .returned (.bool (isL l)) ∧ Below w.heap.size w w' := by
  have C := refCheck_any v l w tab h hsz
  obtain ⟨a, ha⟩ : ∃ a : Nat, a = (chkL l).1 := ⟨_, rfl⟩
  obtain ⟨b, hb⟩ : ∃ b : Nat, b = (chkL l).2 := ⟨_, rfl⟩
  rw [← ha, ← hb] at C
  rcases isL_cases l with ⟨h1, h2⟩ | ⟨h1, h2⟩
  · rw [h1]
    rw [← ha] at h2
    have e0 := cast_eq0 h2
    clear ha hb h1 h2
    go_enter Tryz.func11, Tryz.ntmps11
    go_wp2_with fail
    refine C.mono ?_
    rintro e w1 ⟨rfl, g⟩
    go_wp2_with fail
    go_ret
    exact ⟨rfl, g⟩
  · rw [h1]
    rw [← ha] at h2
    have e0 := cast_ne0 h2
    clear ha hb h1 h2
    go_enter Tryz.func11, Tryz.ntmps11
    go_wp2_with fail
    refine C.mono ?_
    rintro e w1 ⟨rfl, g⟩
    go_wp2_with fail
    go_ret
    exact ⟨rfl, g⟩
/-- Does the key stand there? -/
def foundL (l : List It) (k : List UInt8) : Bool := match l[posL l k]? with | some x => decide (x.key = k) | none => false
theorem found_yes {l : List It} {k : List UInt8} (h : foundL l k = true) : ∃ h : posL l k < l.length, l[posL l k].key = k := by
  unfold foundL at h
  by_cases hp : posL l k < l.length
  · rw [List.getElem?_eq_getElem hp] at h
    exact ⟨hp, by simpa using h⟩
  · rw [List.getElem?_eq_none (by omega)] at h; cases h
theorem found_no {l : List It} {k : List UInt8} (h : foundL l k = false) : ∀ h : posL l k < l.length, l[posL l k].key ≠ k := by
  intro hp
  unfold foundL at h
  rw [List.getElem?_eq_getElem hp] at h
  simpa using h
end Go.Proofs.YtoagdmglchccnaaGreatDoor
namespace Go.Proofs.YtoagdmglchccnaaGreatDoor
open Go Go.RowKit
set_option linter.unusedVariables false
set_option linter.unusedSimpArgs false
theorem item_info : (Tryz.prog.info? 154).map (fun i => (i.zero, i.size, i.bytes)) = some (some (.agg #[.string ⟨#[]⟩, .int .i64 0, .int .i64 0, .string ⟨#[]⟩, .int .i64 0]), 5, 56) := by kernel_rfl
theorem own_keep {w w' : World} {b : Nat} {e : TypeId} {size : Nat} {v : Value} {n : Nat} {xs : List Value} (h : w.ownsRow b e size v n xs) (hb : Below w.heap.size w w') : w'.ownsRow b e size v n xs := by
  refine ⟨h.1, ?_⟩
  rcases h.2 with h1 | ⟨g, cap, cur, rfl, h2, h3, h4⟩
  · exact .inl h1
  · exact .inr ⟨g, cap, cur, rfl, h2, (hb.block g (lt_of_block h3)).trans h3, h4⟩
theorem own_draw {w : World} {b : Nat} {e : TypeId} {size : Nat} {v : Value} {n : Nat} {xs : List Value} (h : w.ownsRow b e size v n xs) (k : Nat) : (w.drewN k).ownsRow b e size v n xs := own_keep h (below_drewN (Below.refl _ _))
/-- A call hands back a list of items of its own. -/
def OwnI (w : World) (l : List It) (e : Ending) (w' : World) : Prop := ∃ v', e = .returned v' ∧ w'.ownsRow w.heap.size 154 5 v' l.length (l.flatMap itC) ∧ Below w.heap.size w w'
theorem OwnI.rd {w w' : World} {v : Value} {b : Nat} {l : List It} (h : w'.ownsRow b 154 5 v l.length (l.flatMap itC)) : RdI w' v l := own_rdk itC_len h
def oneI (x : It) : It := ⟨x.key.take 60, ⟨x.v.k, x.v.i, x.v.s.take 200⟩, x.ver⟩
def fewL (l : List It) : List It := (l.take 66).map oneI
theorem it_ne_same (x : It) (w : World) : (binOp .neq 154 (itV x) (itV x)).run Tryz.prog w = .ok (.bool false) w := by
  unfold itV; go_simp
/-- Where the document finds a key. -/
def AtR (l : List It) (k : List UInt8) (w : World) (e : Ending) (w' : World) : Prop := w = w' ∧ ∃ i : Int, e = .returned (.int .i64 i) ∧ ((i = -1 ∧ ∀ x ∈ l, x.key ≠ k) ∨ ∃ j, ∃ h : j < l.length, i = (j : Int) ∧ l[j].key = k)
set_option maxRecDepth 100000 in
set_option maxHeartbeats 1000000 in
theorem refSame_yes (v u : Value) (l : List It) (w : World) (h : RdI w v l) (hu : RdI w u l) (h66 : l.length ≤ 100) :
    Calls Tryz.prog 67 #[v, u] w fun e w' => e = .returned (.bool true) ∧ ∃ n, w' = w.drewN n := by
  obtain ⟨ao, cap, rfl, hc, hm, hr⟩ := RdK.open h
  obtain ⟨ao2, cap2, rfl, hc2, hm2, hr2⟩ := RdK.open hu
  have hr : RdI w (.slice ao l.length cap) l := hr
  have hr2 : RdI w (.slice ao2 l.length cap2) l := hr2
  have HRD := Lib.hid hr
  have HRD2 := Lib.hid hr2
  clear h hr hu hr2
  go_enter Tryz.func67, Tryz.ntmps67
  go_wp2_with fail
  go_loopw [5] (fun i wr => ∃ (j n0 : Nat), j ≤ l.length ∧ i = .int .i64 (j : Int) ∧ Hid (wr = w.drewN n0)) (fun i _ => 200 - (intOf i).toNat)
  case atStart => exact ⟨0, 0, Nat.zero_le _, rfl, (rfl : w = w.drewN 0)⟩
  case round =>
    obtain ⟨j, n0, hj, rfl, HW⟩ := hrel
    by_cases hlt : j < l.length
    · have bel : Below w.heap.size w wr := by rw [HW.out]; exact below_drewN (Below.refl _ _)
      have hr := HRD.out
      have R1 := hr.below bel (Nat.le_refl _)
      obtain ⟨b, off, rfl, hb, c0, c1, c2, c3, c4⟩ := rdi_cells R1 j hlt
      have hr2 := HRD2.out
      have R2 := hr2.below bel (Nat.le_refl _)
      obtain ⟨b2, off2, rfl, hb2, d0, d1, d2, d3, d4⟩ := rdi_cells R2 j hlt
      obtain ⟨x, hx⟩ : ∃ x, x = l[j]'hlt := ⟨_, rfl⟩
      rw [← hx] at c0 c1 c2 c3 c4 d0 d1 d2 d3 d4
      have NE := fun W => it_ne_same x W
      unfold itV at NE
      clear hx hr hr2 R1 R2
      go_wp2_with fail
      go_quiet (fail)
      have bel2 : Hid (wr.drewN nq = w.drewN (n0 + nq)) := by have h := HW.out; exact Lib.hid (by rw [h, World.drewN_drewN])
      go_wp2_with fail
      exact ⟨⟨j + 1, n0 + nq, by omega, by push_cast; rfl, bel2⟩, by simp [intOf]; omega⟩
    · obtain rfl : j = l.length := by omega
      go_wp2_with fail
      go_ret
      exact ⟨rfl, _, HW.out⟩
end Go.Proofs.YtoagdmglchccnaaGreatDoor
namespace Go.Proofs.YtoagdmglchccnaaGreatDoor
open Go Go.RowKit
set_option linter.unusedVariables false
set_option linter.unusedSimpArgs false
/-- Each operation that cuts a list from i to j hands A back. -/
def CutOp (ao : Option Addr) (n cap i j : Nat) (A : Value) : Prop := ∀ (op : Oper) (a : Act) (s : Operand) (x y : Option Operand), op.op = .slice 23 s x y none → a.eval s = .slice ao n cap → ((x = none ∧ i = 0) ∨ ∃ u kx, x = some u ∧ a.eval u = .int kx (i : Int)) → ((y = none ∧ j = n) ∨ ∃ u ky, y = some u ∧ a.eval u = .int ky (j : Int)) → ∀ w', (execOp a.eval op).run Tryz.prog w' = .ok (.value A) w'
theorem CutOp.to {ao : Option Addr} {n cap j : Nat} {A : Value} (h : CutOp ao n cap 0 j A) (op : Oper) (a : Act) (s u : Operand) (ky : IntKind) (ho : op.op = .slice 23 s none (some u) none) (hs : a.eval s = .slice ao n cap) (hu : a.eval u = .int ky (j : Int)) (w' : World) : (execOp a.eval op).run Tryz.prog w' = .ok (.value A) w' :=
  h op a s _ _ ho hs (.inl ⟨rfl, rfl⟩) (.inr ⟨_, _, rfl, hu⟩) w'
theorem CutOp.from {ao : Option Addr} {n cap i : Nat} {A : Value} (h : CutOp ao n cap i n A) (op : Oper) (a : Act) (s u : Operand) (ky : IntKind) (ho : op.op = .slice 23 s (some u) none none) (hs : a.eval s = .slice ao n cap) (hu : a.eval u = .int ky (i : Int)) (w' : World) : (execOp a.eval op).run Tryz.prog w' = .ok (.value A) w' :=
  h op a s _ _ ho hs (.inr ⟨_, _, rfl, hu⟩) (.inl ⟨rfl, rfl⟩) w'
/-- Lists of items, as a slice of slices. -/
def RdLs (w : World) (v : Value) (ls : List (List It)) : Prop := ∃ ao cap, v = .slice ao ls.length cap ∧ ls.length ≤ cap ∧ cap ≤ maxLen ∧ Hid (∀ j (h : j < ls.length), ∃ b off a2 c2, ao = some ⟨b, off, none⟩ ∧ b < w.heap.size ∧ w.cell? ⟨b, off + j, none⟩ = some (.slice a2 ls[j].length c2) ∧ ls[j].length ≤ c2 ∧ c2 ≤ 9223372036854775807 ∧ RdI w (.slice a2 ls[j].length c2) ls[j])
end Go.Proofs.YtoagdmglchccnaaGreatDoor
namespace Go.Proofs.YtoagdmglchccnaaGreatDoor
open Go Go.RowKit
set_option linter.unusedVariables false
set_option linter.unusedSimpArgs false
theorem put5 {w : World} {B : Nat} {a0 a1 a2 a3 a4 : Value} (u0 u1 u2 u3 u4 : Value) {t : TypeId} (h : w.heap[B]? = some (.cells #[a0, a1, a2, a3, a4] t (0, 0))) :
    (((((w.setCell ⟨B, 0, none⟩ u0).setCell ⟨B, 1, none⟩ u1).setCell ⟨B, 2, none⟩ u2).setCell ⟨B, 3, none⟩ u3).setCell ⟨B, 4, none⟩ u4).heap[B]? = some (.cells #[u0, u1, u2, u3, u4] t (0, 0)) := by
  simpa using set_at (i := 4) (u := u4) (set_at (i := 3) (u := u3) (set_at (i := 2) (u := u2) (set_at (i := 1) (u := u1) (set_at (i := 0) (u := u0) h))))
theorem put5_below {n : Nat} {w0 w : World} {B : Nat} (u0 u1 u2 u3 u4 : Value) (h : Below n w0 w) (hB : n ≤ B) : Below n w0 (((((w.setCell ⟨B, 0, none⟩ u0).setCell ⟨B, 1, none⟩ u1).setCell ⟨B, 2, none⟩ u2).setCell ⟨B, 3, none⟩ u3).setCell ⟨B, 4, none⟩ u4) :=
  ((((h.setCell (p := ⟨B, 0, none⟩) hB _).setCell (p := ⟨B, 1, none⟩) hB _).setCell (p := ⟨B, 2, none⟩) hB _).setCell (p := ⟨B, 3, none⟩) hB _).setCell (p := ⟨B, 4, none⟩) hB _
theorem set5 {w : World} {B n : Nat} {v : World} {a0 a1 a2 a3 a4 : Value} (u0 u1 u2 u3 u4 : Value) {t : TypeId} (h : w.heap[B]? = some (.cells #[a0, a1, a2, a3, a4] t (0, 0))) (hb : Below n v w) (hn : n ≤ B) :
    (((((w.setCell ⟨B, 0, none⟩ u0).setCell ⟨B, 1, none⟩ u1).setCell ⟨B, 2, none⟩ u2).setCell ⟨B, 3, none⟩ u3).setCell ⟨B, 4, none⟩ u4).cell? ⟨B, 0, none⟩ = some u0 ∧ (((((w.setCell ⟨B, 0, none⟩ u0).setCell ⟨B, 1, none⟩ u1).setCell ⟨B, 2, none⟩ u2).setCell ⟨B, 3, none⟩ u3).setCell ⟨B, 4, none⟩ u4).cell? ⟨B, 1, none⟩ = some u1 ∧ (((((w.setCell ⟨B, 0, none⟩ u0).setCell ⟨B, 1, none⟩ u1).setCell ⟨B, 2, none⟩ u2).setCell ⟨B, 3, none⟩ u3).setCell ⟨B, 4, none⟩ u4).cell? ⟨B, 2, none⟩ = some u2 ∧ (((((w.setCell ⟨B, 0, none⟩ u0).setCell ⟨B, 1, none⟩ u1).setCell ⟨B, 2, none⟩ u2).setCell ⟨B, 3, none⟩ u3).setCell ⟨B, 4, none⟩ u4).cell? ⟨B, 3, none⟩ = some u3 ∧ (((((w.setCell ⟨B, 0, none⟩ u0).setCell ⟨B, 1, none⟩ u1).setCell ⟨B, 2, none⟩ u2).setCell ⟨B, 3, none⟩ u3).setCell ⟨B, 4, none⟩ u4).cell? ⟨B, 4, none⟩ = some u4 ∧ Below n v (((((w.setCell ⟨B, 0, none⟩ u0).setCell ⟨B, 1, none⟩ u1).setCell ⟨B, 2, none⟩ u2).setCell ⟨B, 3, none⟩ u3).setCell ⟨B, 4, none⟩ u4) := by
  obtain ⟨c0, c1, c2, c3, c4, -⟩ := block_cells5 (put5 u0 u1 u2 u3 u4 h)
  exact ⟨c0, c1, c2, c3, c4, put5_below u0 u1 u2 u3 u4 hb hn⟩
def itZ : Value := .agg #[.string (str []), .int .i64 0, .int .i64 0, .string (str []), .int .i64 0]
/-- What Get hands back. -/
def getT (l : List It) (k : List UInt8) : Value := if isL l = true then (match atL l k with | some x => .tuple #[itV x, .bool true] | none => .tuple #[itZ, .bool false]) else .tuple #[itZ, .bool false]
end Go.Proofs.YtoagdmglchccnaaGreatDoor
namespace Go.Proofs.YtoagdmglchccnaaGreatDoor.V7
open Go.RowKit
set_option linter.unusedVariables false
set_option linter.unusedSimpArgs false
def iz (n : Int) : Value := .int .i64 n
/-- The first that is not nothing. -/
def orL : List Int → Int
  | [] => 0
  | x :: l => if x ≠ 0 then x else orL l
end Go.Proofs.YtoagdmglchccnaaGreatDoor.V7
namespace Go.Proofs.YtoagdmglchccnaaGreatDoor.V7
open Go.RowKit
set_option linter.unusedVariables false
set_option linter.unusedSimpArgs false
theorem cells3 {w : World} {B : Nat} {a0 a1 a2 : Value} {t : TypeId} (h : w.heap[B]? = some (.cells #[a0, a1, a2] t (0, 0))) :
    w.cell? ⟨B, 0, none⟩ = some a0 ∧ w.cell? ⟨B, 1, none⟩ = some a1 ∧ w.cell? ⟨B, 2, none⟩ = some a2 := by
  refine ⟨?_, ?_, ?_⟩
  all_goals simp [World.cell?, h]
def lessB (a b : V) : Bool := mayB a && mayB b && decide (ordV a b < 0)
end Go.Proofs.YtoagdmglchccnaaGreatDoor.V7
