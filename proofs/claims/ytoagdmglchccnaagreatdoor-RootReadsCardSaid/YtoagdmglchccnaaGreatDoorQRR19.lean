/- Values: their bytes, by the document. -/
/- Values: the program's sums, differences, products and quotients of two numbers. -/
/- Values: quotients of two numbers; what is expected of two values. Written by wip/tools/gen7g.py. -/
/- Values: what do makes of two numbers; sum, difference, product, quotient, what is left. Written by wip/tools/gen7h.py. -/
/- Values: sum, difference, product, quotient, what is left. Written by wip/tools/gen7i.py. -/
/- Values: sums, differences, sizes, products, as the document reckons them. -/
/- Values: how any two are to one another. Written by wip/tools/gen7j.py. -/
/- Values: how two are to one another, by the document. -/
/- Values: how any two are to one another, by the document. Written by wip/tools/gen7s.py. -/
/- Values: what bytes are read as, by the program and by the document. -/
import Derived.Test.YtoagdmglchccnaaGreatDoorQRR18
import Derived.Test.YtoagdmglchccnaaGreatDoorQRR14
import Derived.Test.YtoagdmglchccnaaGreatDoorQRR17
import Derived.Deep.QuietTactic
import Derived.BigQuiet
import Derived.RangeFuncWrites
import Derived.Test.YtoagdmglchccnaaGreatDoorQRR10
namespace Go.Proofs.YtoagdmglchccnaaGreatDoor.V7
open Go Go.RowKit
set_option linter.unusedVariables false
set_option linter.unusedSimpArgs false
end Go.Proofs.YtoagdmglchccnaaGreatDoor.V7
namespace Go.Proofs.YtoagdmglchccnaaGreatDoor.V7
open Go.RowKit
set_option linter.unusedVariables false
set_option linter.unusedSimpArgs false
def overE (n : Int) : Int := if fits n then 0 else 8
end Go.Proofs.YtoagdmglchccnaaGreatDoor.V7
namespace Go.Proofs.YtoagdmglchccnaaGreatDoor.V7
open Go.RowKit
set_option linter.unusedVariables false
set_option linter.unusedSimpArgs false
def divE (x y : Int) : Int := if y = 0 then 9 else if y = -1 ∧ x = -9223372036854775808 then 8 else 0
def divN (x y : Int) : Int := if y = 0 then 0 else wrap64 (x.tdiv y)
def modE (y : Int) : Int := if y = 0 then 9 else 0
def modN (x y : Int) : Int := if y = 0 then 0 else x.tmod y
def expE (K : Int) (a b : V) : Int := if mayB a = false then 1 else if mayB b = false then 1 else if a.k ≠ K ∨ b.k ≠ K then 10 else 0
end Go.Proofs.YtoagdmglchccnaaGreatDoor.V7
namespace Go.Proofs.YtoagdmglchccnaaGreatDoor.V7
open Go.RowKit
set_option linter.unusedVariables false
set_option linter.unusedSimpArgs false
theorem three_allocs (w : World) (a b c : Obj) :
    (((w.alloc a).alloc b).alloc c).heap[w.heap.size]? = some a ∧ (((w.alloc a).alloc b).alloc c).heap[w.heap.size + 1]? = some b ∧ (((w.alloc a).alloc b).alloc c).heap[w.heap.size + 2]? = some c := by
  have z2 : ((w.alloc a).alloc b).heap.size = w.heap.size + 2 := by simp
  obtain ⟨h1, h2, -, -⟩ := two_allocs w a b
  refine ⟨?_, ?_, ?_⟩
  · rw [heap_alloc_old _ _ (by omega), h1]
  · rw [heap_alloc_old _ _ (by omega), h2]
  · rw [← z2, heap_alloc_new]
theorem frozen3 {w : World} {B : Nat} {cs : Array Value} {t : TypeId} (h : w.heap[B]? = some (.cells cs t (0, 0))) : ∀ i, w.frozen? ⟨B, i, none⟩ = false := fun i => block_frozen h i
theorem set3 {w : World} {B n : Nat} {v : World} {a0 a1 a2 : Value} (u0 u1 u2 : Value) {t : TypeId} (h : w.heap[B]? = some (.cells #[a0, a1, a2] t (0, 0))) (hb : Below n v w) (hn : n ≤ B) :
    (((w.setCell ⟨B, 0, none⟩ u0).setCell ⟨B, 1, none⟩ u1).setCell ⟨B, 2, none⟩ u2).cell? ⟨B, 0, none⟩ = some u0 ∧ (((w.setCell ⟨B, 0, none⟩ u0).setCell ⟨B, 1, none⟩ u1).setCell ⟨B, 2, none⟩ u2).cell? ⟨B, 1, none⟩ = some u1 ∧ (((w.setCell ⟨B, 0, none⟩ u0).setCell ⟨B, 1, none⟩ u1).setCell ⟨B, 2, none⟩ u2).cell? ⟨B, 2, none⟩ = some u2 ∧
      Below n v (((w.setCell ⟨B, 0, none⟩ u0).setCell ⟨B, 1, none⟩ u1).setCell ⟨B, 2, none⟩ u2) := by
  have h3 : (((w.setCell ⟨B, 0, none⟩ u0).setCell ⟨B, 1, none⟩ u1).setCell ⟨B, 2, none⟩ u2).heap[B]? = some (.cells #[u0, u1, u2] t (0, 0)) := by
    simpa using set_at (i := 2) (u := u2) (set_at (i := 1) (u := u1) (set_at (i := 0) (u := u0) h))
  obtain ⟨c0, c1, c2⟩ := cells3 h3
  exact ⟨c0, c1, c2, ((hb.setCell (p := ⟨B, 0, none⟩) hn u0).setCell (p := ⟨B, 1, none⟩) hn u1).setCell (p := ⟨B, 2, none⟩) hn u2⟩
/-- What compute comes to, E what is expected, z and er what do hands back. -/
def cmpK (E er : Int) : Int := if E ≠ 0 then 0 else if er ≠ 0 then 0 else 2
def cmpI (E er z : Int) : Int := if E ≠ 0 then 0 else if er ≠ 0 then 0 else z
def cmpE (E er : Int) : Int := if E ≠ 0 then E else er
end Go.Proofs.YtoagdmglchccnaaGreatDoor.V7
namespace Go.Proofs.YtoagdmglchccnaaGreatDoor.V7
open Go Go.RowKit
set_option linter.unusedVariables false
set_option linter.unusedSimpArgs false
/-- What an operation comes to, as the program has it. -/
def opV (E er z : Int) : Value := .tuple #[.agg #[.int .i64 (cmpK E er), .int .i64 (cmpI E er z), .string (str [])], .int .i64 (cmpE E er)]
end Go.Proofs.YtoagdmglchccnaaGreatDoor.V7
namespace Go.Proofs.YtoagdmglchccnaaGreatDoor.V7
open Go Go.RowKit
set_option linter.unusedVariables false
set_option linter.unusedSimpArgs false
/-- A size with a sign. -/
def signN (n : Nat) (g : Bool) : Int := if n = 9223372036854775808 then -9223372036854775808 else if g = true then -(n : Int) else n
def signB (n : Nat) (g : Bool) : Bool := if n = 9223372036854775808 then g else true
end Go.Proofs.YtoagdmglchccnaaGreatDoor.V7
namespace Go.Proofs.YtoagdmglchccnaaGreatDoor.V7
open Go Go.RowKit
set_option linter.unusedVariables false
set_option linter.unusedSimpArgs false
def cmpB (op o : Int) : Bool := if op = 0 then o == 0 else if op = 1 then o != 0 else if op = 2 then decide (o < 0) else if op = 3 then decide (o ≤ 0) else if op = 4 then decide (0 < o) else decide (0 ≤ o)
def nilT (e : Int) : Value := .tuple #[.agg #[.int .i64 0, .int .i64 0, .string (str [])], .int .i64 e]
def n01 (b : Bool) : Int := if b then 1 else 0
def boolT (b : Bool) : Value := .tuple #[.agg #[.int .i64 1, .int .i64 (n01 b), .string (str [])], .int .i64 0]
/-- What a comparison comes to. -/
def cmpV (op : Int) (a b : V) : Value := if mayB a = false then nilT 1 else if mayB b = false then nilT 1 else if op < 0 ∨ 5 < op then nilT 4 else if 1 < op ∧ a.k ≠ b.k then nilT 10 else boolT (cmpB op (ordV a b))
end Go.Proofs.YtoagdmglchccnaaGreatDoor.V7
namespace Go.Proofs.YtoagdmglchccnaaGreatDoor.V7
open Go Go.RowKit
set_option linter.unusedVariables false
set_option linter.unusedSimpArgs false
theorem less_cmp : ∀ a b : List UInt8, Op.bytesLess a b = decide (Lib.compareBytes a b < 0)
  | [], [] => by simp [Op.bytesLess, Lib.compareBytes]
  | [], _ :: _ => by simp [Op.bytesLess, Lib.compareBytes]
  | _ :: _, [] => by simp [Op.bytesLess, Lib.compareBytes]
  | a :: x, b :: y => by
    have ih := less_cmp x y
    unfold Op.bytesLess Lib.compareBytes
    by_cases h : a < b
    · simp [h]
    · by_cases h2 : b < a
      · have ne : (a == b) = false := by
          rw [beq_eq_false_iff_ne]
          rintro rfl
          exact h h2
        simp [h, h2, ne]
      · have e : a = b := UInt8.le_antisymm (UInt8.not_lt.1 h2) (UInt8.not_lt.1 h)
        subst e
        simp [h, ih]
end Go.Proofs.YtoagdmglchccnaaGreatDoor.V7
namespace Go.Proofs.YtoagdmglchccnaaGreatDoor.V7
open Go Go.RowKit
set_option linter.unusedVariables false
set_option linter.unusedSimpArgs false
theorem refBool_n (b : Bool) (w : World) :
    Calls Tryz.prog 151 #[.bool b] w fun e w' => e = .returned (.agg #[.int .i64 1, .int .i64 (n01 b), .string (str [])]) ∧ Below w.heap.size w w' := by
  unfold n01
  cases b
  all_goals
    go_enter Tryz.func151, Tryz.ntmps151
    go_wp2_with fail
    refine bodyPost_ret (v := .agg #[.int .i64 1, .int .i64 _, .string (str [])]) (by simp [results, Tryz.results151, go_sem, str_e]) rfl ⟨rfl, ?_⟩
    exact ((Below.refl _ _).alloc (Nat.le_refl _) _).alloc (by simp) _
end Go.Proofs.YtoagdmglchccnaaGreatDoor.V7
namespace Go.Proofs.YtoagdmglchccnaaGreatDoor.V7
open Go Go.RowKit
set_option linter.unusedVariables false
set_option linter.unusedSimpArgs false
/-- 'b[i:]' of bytes that are read. -/
theorem wpList_slice_from {P : Program} {ops : Array Oper} {rest : List Oper} {o : Oper} {a : Act} {Q : Exit → Act → World → Prop} {w : World} (hgd : o.guard = none) (T e : TypeId) (s x : Operand)
    (ho : o.op = .slice T s (some x) none none) (ti : TypeInfo) (ht : P.underlying T = some (.slice e)) (hi : P.info? e = some ti) (hz : ti.size = 1)
    (ao : Option Addr) (n cap : Nat) (l : List UInt8) (hs : a.eval s = .slice ao n cap) (hr : Rd w (.slice ao n cap) l) (kx : IntKind) (X : Int) (hx : a.eval x = .int kx X)
    (i : Nat) (h0 : X = (i : Int)) (h2 : i ≤ n)
    (hK : ∀ ao' cap', Rd w (.slice ao' (n - i) cap') (l.drop i) → wpList P ops Q rest (a.put o.dst (.slice ao' (n - i) cap')) w) :
    wpList P ops Q (o :: rest) a w := by
  have h0' : 0 ≤ X := by omega
  have e1 : X.toNat = i := by omega
  have hl : n = l.length := by obtain ⟨_, _, he, _⟩ := hr; cases he; rfl
  rw [← e1] at hK
  refine wpList_plain hgd fun K hK' => ?_
  have hnc : n ≤ cap := by obtain ⟨_, _, he, h3, _⟩ := hr; cases he; exact h3
  have hrs := rd_sliced hr X.toNat n (by omega) (by omega)
  rw [List.take_of_length_le (by simp; omega)] at hrs
  unfold Oper.wp
  simp [execOp, ho, hs, hx, Instr.sliceAt, Instr.slice, run_underlying ht, Instr.sliceBounds, Instr.sliceBound, asIntOf, h0', (by omega : X ≤ (n : Int)), (by omega : (n : Int) ≤ cap), (by omega : X ≤ max (n : Int) 0), sizeOf, typeInfo, hi, hz, Result.andThen]
  rw [Nat.mul_one] at hrs
  exact hK' _ _ (hK _ _ hrs)
/-- What bytes are read as: a value, how many of them, an error's number. -/
def cutVL : List UInt8 → (Int × Int × List UInt8) × Nat × Nat
  | [] => ((0, 0, []), 0, 2)
  | c :: r => if c = 0 then ((0, 0, []), 1, 0)
    else if c = 1 then (match r with | [] => ((0, 0, []), 0, 2) | d :: _ => if 1 < d.toNat then ((0, 0, []), 0, 3) else ((1, d.toNat, []), 2, 0))
    else if c = 2 then (match cutL r with | (x, n, e) => if e ≠ 0 then ((0, 0, []), 0, e) else ((2, unzig x, []), n + 1, 0))
    else if c = 3 then (match cutTextL r with | (s, n, e) => if e ≠ 0 then ((0, 0, []), 0, e) else if 64 < s.length then ((0, 0, []), 0, 5) else ((3, 0, s), n + 1, 0))
    else ((0, 0, []), 0, 3)
def cutT (r : (Int × Int × List UInt8) × Nat × Nat) : Value := .tuple #[.agg #[.int .i64 r.1.1, .int .i64 r.1.2.1, .string (str r.1.2.2)], .int .i64 (r.2.1 : Int), .int .i64 (r.2.2 : Int)]
theorem cutTextL_err {l : List UInt8} {s : List UInt8} {n e : Nat} (h : cutTextL l = (s, n, e)) (he : e ≠ 0) : s = [] ∧ n = 0 := by
  obtain ⟨x, m, c, hc⟩ : ∃ x m c, cutL l = (x, m, c) := ⟨_, _, _, rfl⟩
  rw [cutTextL_eq hc] at h
  split at h
  · cases h; exact ⟨rfl, rfl⟩
  · split at h
    · cases h; exact ⟨rfl, rfl⟩
    · split at h
      · cases h; exact ⟨rfl, rfl⟩
      · cases h; exact absurd rfl he
theorem cutTextL_len {l : List UInt8} {s : List UInt8} {n e : Nat} (h : cutTextL l = (s, n, e)) : s.length ≤ 255 ∧ n ≤ 265 ∧ n ≤ l.length ∧ s.length ≤ n := by
  obtain ⟨x, m, c, hc⟩ : ∃ x m c, cutL l = (x, m, c) := ⟨_, _, _, rfl⟩
  have hf := cutL_facts hc
  rw [cutTextL_eq hc] at h
  split at h
  · cases h; exact ⟨by simp, by omega, by omega, by simp⟩
  · split at h
    · cases h; exact ⟨by simp, by omega, by omega, by simp⟩
    · split at h
      · cases h; exact ⟨by simp, by omega, by omega, by simp⟩
      · cases h
        have : ((l.drop m).take x).length ≤ x := List.length_take_le _ _
        exact ⟨by omega, by omega, by omega, by omega⟩
set_option maxRecDepth 100000 in
theorem cutText_max (v : Value) (l : List UInt8) (x n c : Nat) (hr : Hid (cutL l = (x, n, c))) (w : World) (h : Rd w v l) :
    Calls Tryz.prog 148 #[v] w fun e w' => e = .returned (.tuple #[.string (str (cutTextL l).1), .int .i64 (cutTextL l).2.1, .int .i64 (cutTextL l).2.2]) ∧ w = w' := by
  have hf := cutL_facts hr.out
  obtain ⟨f1, f2, f3, f4, f5, f6⟩ := hf
  have hv := Lib.hid f1
  have h4 := Lib.hid f4
  clear f1 f4 f5 f6
  have h0 := h
  obtain ⟨ao, cap, rfl, hl, hm, hn, hx⟩ := h0
  have HX := Lib.hid hx
  have HN := Lib.hid hn
  clear hx hn
  go_enter Tryz.func148, Tryz.ntmps148
  have K := Lib.hid (cutTextL_eq hr.out)
  obtain ⟨i0, hi, hz0, hz1, hz2⟩ := info_parts u8info
  unfold maxLen at hm
  have hc : 0 < c ∨ c ≤ 0 := by omega
  rcases hc with hc | hc
  all_goals
   go_wp2_with (first
    | (go_at_call 150; refine (cut_at _ _ x n c hr _ h).mono ?_; rintro e w' ⟨rfl, rfl⟩)
    | (with_reducible refine wpList_slice_rd rfl 115 5 _ _ _ rfl i0 Tryz.underlying115 hi hz1 _ _ _ l rfl h _ _ _ _ rfl rfl n x (by omega) (by omega) (by omega) ?_; intro ao' cap' hr'; have k1 := conv_rd (P := Tryz.prog) hr' 115 5 9 Tryz.underlying115 Tryz.underlying5 Tryz.underlying9))
  all_goals
    go_ret3
    refine ⟨?_, rfl⟩
    rw [K.out]
  · rw [if_pos (by omega)]; rfl
  · rw [if_neg (by omega), if_pos (by omega)]; rfl
  · rw [if_neg (by omega), if_neg (by omega), if_pos (by omega)]; rfl
  · rw [if_neg (by omega), if_neg (by omega), if_neg (by omega)]; rfl
/-- cutText. -/
theorem cutText8 (v : Value) (l : List UInt8) (s : List UInt8) (n e : Nat) (hr : Hid (cutTextL l = (s, n, e))) (w : World) (h : Rd w v l) :
    Calls Tryz.prog 171 #[v] w fun x w' => x = .returned (if 64 < s.length then .tuple #[.string (str []), .int .i64 0, .int .i64 5] else .tuple #[.string (str s), .int .i64 (n : Int), .int .i64 (e : Int)]) ∧ w = w' := by
  obtain ⟨x, m, c, hc⟩ : ∃ x m c, cutL l = (x, m, c) := ⟨_, _, _, rfl⟩
  have X := fun w h => cutText_max v l x m c hc w h
  rw [hr.out] at X
  simp only at X
  have hl := (cutTextL_len hr.out).1
  have hz : (str s).size = s.length := str_size s
  clear hc
  by_cases h64 : 64 < s.length
  · rw [if_pos h64]
    have h1 : 64 < (str s).size := by omega
    have h2 : (str s).size ≤ 255 := by omega
    clear hz hl h64
    go_enter Tryz.func171, Tryz.ntmps171
    go_wp2_with fail
    refine (X _ h).mono ?_
    rintro e w' ⟨rfl, rfl⟩
    go_wp2_with fail
    go_ret3
    exact ⟨rfl, rfl⟩
  · rw [if_neg h64]
    have h1 : (str s).size ≤ 64 := by omega
    clear hz hl h64
    go_enter Tryz.func171, Tryz.ntmps171
    go_wp2_with fail
    refine (X _ h).mono ?_
    rintro e w' ⟨rfl, rfl⟩
    go_wp2_with fail
    go_ret3
    exact ⟨rfl, rfl⟩
def cutBoolV : List UInt8 → Value
  | [] => .tuple #[.int .i64 0, .int .i64 0, .int .i64 2]
  | d :: _ => if 1 < d.toNat then .tuple #[.int .i64 0, .int .i64 0, .int .i64 3] else .tuple #[.int .i64 (d.toNat : Int), .int .i64 1, .int .i64 0]
theorem cutBool_at (v : Value) (l : List UInt8) (w : World) (h : Rd w v l) :
    Calls Tryz.prog 169 #[v] w fun x w' => x = .returned (cutBoolV l) ∧ w = w' := by
  obtain ⟨ao, cap, rfl, hl, hm, hn, hx⟩ := h
  unfold maxLen at hm
  cases l with
  | nil =>
    clear hn hx
    go_enter Tryz.func169, Tryz.ntmps169
    go_wp2_with fail
    go_ret3
    exact ⟨rfl, rfl⟩
  | cons d r =>
    obtain ⟨b, off, rfl, hb, hcell⟩ := hx (by simp)
    have h0 := hcell 0 (by simp)
    rw [Nat.add_zero] at h0
    simp only [List.getD_cons_zero, bv] at h0
    obtain ⟨c, hc⟩ : ∃ c, d.toNat = c := ⟨_, rfl⟩
    have hc256 : c < 256 := by rw [← hc]; exact d.toNat_lt
    unfold cutBoolV
    simp only [hc] at h0 ⊢
    simp only [List.length_cons] at hl hm ⊢
    generalize r.length = rl at hl hm
    clear hcell hx hc hn
    by_cases h1 : 1 < c
    · rw [if_pos h1]
      go_enter Tryz.func169, Tryz.ntmps169
      go_wp2_with fail
      go_ret3
      exact ⟨rfl, rfl⟩
    · rw [if_neg h1]
      go_enter Tryz.func169, Tryz.ntmps169
      go_wp2_with fail
      go_ret3
      exact ⟨rfl, rfl⟩
/-- What is known of bytes that begin with c, behind two blocks that were laid. -/
theorem rd_cons {w : World} {v : Value} {c : UInt8} {r : List UInt8} (h : Rd w v (c :: r)) : ∃ b off cap : Nat, v = .slice (some ⟨b, off, none⟩) (r.length + 1) cap ∧ r.length + 1 ≤ cap ∧ cap ≤ maxLen ∧ b < w.heap.size ∧ w.cell? ⟨b, off, none⟩ = some (.int .u8 (c.toNat : Int)) := by
  obtain ⟨ao, cap, rfl, hl, hm, hn, hx⟩ := h
  obtain ⟨b, off, rfl, hb, hcell⟩ := hx (by simp)
  have h0 := hcell 0 (by simp)
  rw [Nat.add_zero] at h0
  exact ⟨b, off, cap, rfl, by simpa using hl, hm, hb, h0⟩
theorem cutV_nil (v : Value) (w : World) (h : Rd w v []) :
    Calls Tryz.prog 149 #[v] w fun e w' => e = .returned (cutT ((0, 0, []), 0, 2)) ∧ Below w.heap.size w w' := by
  obtain ⟨ao, cap, rfl, hl, hm, hn, hx⟩ := h
  unfold maxLen at hm
  clear hn hx
  go_enter Tryz.func149, Tryz.ntmps149
  go_wp2_with fail
  refine bodyPost_ret (v := cutT ((0, 0, []), 0, 2)) (by simp [results, Tryz.results149, go_sem, str_e, cutT]) rfl ⟨rfl, ?_⟩
  repeat (first | exact Below.refl _ _ | refine Below.setCell ?_ (by simp) _ | refine Below.alloc ?_ (by simp) _)
theorem cutV_big (v : Value) (c : UInt8) (r : List UInt8) (w : World) (h : Rd w v (c :: r)) (hc : 3 < c.toNat) :
    Calls Tryz.prog 149 #[v] w fun e w' => e = .returned (cutT ((0, 0, []), 0, 3)) ∧ Below w.heap.size w w' := by
  obtain ⟨b, off, cap, rfl, hl, hm, hb, h0⟩ := rd_cons h
  unfold maxLen at hm
  have hc256 := c.toNat_lt
  clear h
  generalize c.toNat = m at h0 hc hc256
  generalize r.length = n at hl
  go_enter Tryz.func149, Tryz.ntmps149
  go_wp2_with fail
  refine bodyPost_ret (v := cutT ((0, 0, []), 0, 3)) (by simp [results, Tryz.results149, go_sem, str_e, cutT]) rfl ⟨rfl, ?_⟩
  repeat (first | exact Below.refl _ _ | refine Below.setCell ?_ (by simp) _ | refine Below.alloc ?_ (by simp; try omega) _)
end Go.Proofs.YtoagdmglchccnaaGreatDoor.V7
