/- Values: how two are to one another, by the document. -/
/- Values: how any two are to one another, by the document. Written by wip/tools/gen7s.py. -/
/- Values: what bytes are read as, by the program and by the document. -/
import Derived.Test.YtcehgfganjdghaaDoorQLCC25
import Derived.Test.YtcehgfganjdghaaDoorQLCC10
import Derived.Test.YtcehgfganjdghaaDoorQLCC24
import Derived.Test.YtcehgfganjdghaaDoorQLCC19
namespace Go.Proofs.YtcehgfganjdghaaDoor.V7
open Go Go.RowKit
set_option linter.unusedVariables false
set_option linter.unusedSimpArgs false
theorem less_cmp : ∀ a b : List UInt8, Op.bytesLess a b = decide (Lib.compareBytes a b < 0)
  | [], [] => by simp [Op.bytesLess, Lib.compareBytes]
  | [], _ :: _ => by simp [Op.bytesLess, Lib.compareBytes]
  | _ :: _, [] => by simp [Op.bytesLess, Lib.compareBytes]
  | a :: x, b :: y => by
    have ih := less_cmp x y
    unfold Op.bytesLess Lib.compareBytes
    by_cases h : a < b
    · simp [h]
    · by_cases h2 : b < a
      · have ne : (a == b) = false := by
          rw [beq_eq_false_iff_ne]
          rintro rfl
          exact h h2
        simp [h, h2, ne]
      · have e : a = b := UInt8.le_antisymm (UInt8.not_lt.1 h2) (UInt8.not_lt.1 h)
        subst e
        simp [h, ih]
theorem ret_int {a b : Int} (h : a = b) : Ending.returned (.int .i64 a) = Ending.returned (.int .i64 b) := by rw [h]
end Go.Proofs.YtcehgfganjdghaaDoor.V7
namespace Go.Proofs.YtcehgfganjdghaaDoor.V7
open Go Go.RowKit
set_option linter.unusedVariables false
set_option linter.unusedSimpArgs false
theorem refBool_n (b : Bool) (w : World) :
    Calls Tryd.prog 45 #[.bool b] w fun e w' => e = .returned (.agg #[.int .i64 1, .int .i64 (n01 b), .string (str [])]) ∧ Below w.heap.size w w' := by
  unfold n01
  cases b
  all_goals
    go_enter Tryd.func45, Tryd.ntmps45
    go_wp2_with fail
    refine bodyPost_ret (v := .agg #[.int .i64 1, .int .i64 _, .string (str [])]) (by simp [results, Tryd.results45, go_sem, str_e]) rfl ⟨rfl, ?_⟩
    exact ((Below.refl _ _).alloc (Nat.le_refl _) _).alloc (by simp) _
theorem is_same (k i : Int) (s : List UInt8) (x : Int) (w : World) :
    Calls Tryd.prog 46 #[.agg #[.int .i64 k, .int .i64 i, .string (str s)], .int .i64 x, .agg #[.int .i64 k, .int .i64 i, .string (str s)], .int .i64 x] w fun e w' => e = .returned (.bool true) ∧ Below w.heap.size w w' := by
  have bel : ∀ o o', Below w.heap.size w ((w.alloc o).alloc o') := fun o o' => ((Below.refl _ _).alloc (Nat.le_refl _) o).alloc (by simp) o'
  have BEL := Lib.hid bel
  clear bel
  go_enter Tryd.func46, Tryd.ntmps46
  go_wp2_with fail
  all_goals
    go_ret
    exact ⟨rfl, BEL.out _ _⟩
theorem cmpV_form (op : Int) (a b : V) : ∃ k i e : Int, cmpV op a b = .tuple #[.agg #[.int .i64 k, .int .i64 i, .string (str [])], .int .i64 e] := by
  unfold cmpV
  split
  · exact ⟨_, _, _, rfl⟩
  · split
    · exact ⟨_, _, _, rfl⟩
    · split
      · exact ⟨_, _, _, rfl⟩
      · split
        · exact ⟨_, _, _, rfl⟩
        · exact ⟨_, _, _, rfl⟩
end Go.Proofs.YtcehgfganjdghaaDoor.V7
namespace Go.Proofs.YtcehgfganjdghaaDoor.V7
open Go Go.RowKit
set_option linter.unusedVariables false
set_option linter.unusedSimpArgs false
/-- 'b[i:]' of bytes that are read. -/
theorem wpList_slice_from {P : Program} {ops : Array Oper} {rest : List Oper} {o : Oper} {a : Act} {Q : Exit → Act → World → Prop} {w : World} (hgd : o.guard = none) (T e : TypeId) (s x : Operand)
    (ho : o.op = .slice T s (some x) none none) (ti : TypeInfo) (ht : P.underlying T = some (.slice e)) (hi : P.info? e = some ti) (hz : ti.size = 1)
    (ao : Option Addr) (n cap : Nat) (l : List UInt8) (hs : a.eval s = .slice ao n cap) (hr : Rd w (.slice ao n cap) l) (kx : IntKind) (X : Int) (hx : a.eval x = .int kx X)
    (i : Nat) (h0 : X = (i : Int)) (h2 : i ≤ n)
    (hK : ∀ ao' cap', Rd w (.slice ao' (n - i) cap') (l.drop i) → wpList P ops Q rest (a.put o.dst (.slice ao' (n - i) cap')) w) :
    wpList P ops Q (o :: rest) a w := by
  have h0' : 0 ≤ X := by omega
  have e1 : X.toNat = i := by omega
  have hl : n = l.length := by obtain ⟨_, _, he, _⟩ := hr; cases he; rfl
  rw [← e1] at hK
  refine wpList_plain hgd fun K hK' => ?_
  have hnc : n ≤ cap := by obtain ⟨_, _, he, h3, _⟩ := hr; cases he; exact h3
  have hrs := rd_sliced hr X.toNat n (by omega) (by omega)
  rw [List.take_of_length_le (by simp; omega)] at hrs
  unfold Oper.wp
  simp [execOp, ho, hs, hx, Instr.sliceAt, Instr.slice, run_underlying ht, Instr.sliceBounds, Instr.sliceBound, asIntOf, h0', (by omega : X ≤ (n : Int)), (by omega : (n : Int) ≤ cap), (by omega : X ≤ max (n : Int) 0), sizeOf, typeInfo, hi, hz, Result.andThen]
  rw [Nat.mul_one] at hrs
  exact hK' _ _ (hK _ _ hrs)
/-- What bytes are read as: a value, how many of them, an error's number. -/
def cutVL : List UInt8 → (Int × Int × List UInt8) × Nat × Nat
  | [] => ((0, 0, []), 0, 2)
  | c :: r => if c = 0 then ((0, 0, []), 1, 0)
    else if c = 1 then (match r with | [] => ((0, 0, []), 0, 2) | d :: _ => if 1 < d.toNat then ((0, 0, []), 0, 3) else ((1, d.toNat, []), 2, 0))
    else if c = 2 then (match cutL r with | (x, n, e) => if e ≠ 0 then ((0, 0, []), 0, e) else ((2, unzig x, []), n + 1, 0))
    else if c = 3 then (match cutTextL r with | (s, n, e) => if e ≠ 0 then ((0, 0, []), 0, e) else if 64 < s.length then ((0, 0, []), 0, 5) else ((3, 0, s), n + 1, 0))
    else ((0, 0, []), 0, 3)
def cutT (r : (Int × Int × List UInt8) × Nat × Nat) : Value := .tuple #[.agg #[.int .i64 r.1.1, .int .i64 r.1.2.1, .string (str r.1.2.2)], .int .i64 (r.2.1 : Int), .int .i64 (r.2.2 : Int)]
theorem cutTextL_err {l : List UInt8} {s : List UInt8} {n e : Nat} (h : cutTextL l = (s, n, e)) (he : e ≠ 0) : s = [] ∧ n = 0 := by
  obtain ⟨x, m, c, hc⟩ : ∃ x m c, cutL l = (x, m, c) := ⟨_, _, _, rfl⟩
  rw [cutTextL_eq hc] at h
  split at h
  · cases h; exact ⟨rfl, rfl⟩
  · split at h
    · cases h; exact ⟨rfl, rfl⟩
    · split at h
      · cases h; exact ⟨rfl, rfl⟩
      · cases h; exact absurd rfl he
theorem cutTextL_len {l : List UInt8} {s : List UInt8} {n e : Nat} (h : cutTextL l = (s, n, e)) : s.length ≤ 255 ∧ n ≤ 265 ∧ n ≤ l.length ∧ s.length ≤ n := by
  obtain ⟨x, m, c, hc⟩ : ∃ x m c, cutL l = (x, m, c) := ⟨_, _, _, rfl⟩
  have hf := cutL_facts hc
  rw [cutTextL_eq hc] at h
  split at h
  · cases h; exact ⟨by simp, by omega, by omega, by simp⟩
  · split at h
    · cases h; exact ⟨by simp, by omega, by omega, by simp⟩
    · split at h
      · cases h; exact ⟨by simp, by omega, by omega, by simp⟩
      · cases h
        have : ((l.drop m).take x).length ≤ x := List.length_take_le _ _
        exact ⟨by omega, by omega, by omega, by omega⟩
theorem below_box {w w' : World} (h : Below w.heap.size w w') (o : Obj) : Below w.heap.size w (w'.alloc o) := h.alloc h.size o
set_option maxRecDepth 100000 in
theorem cutText_max (v : Value) (l : List UInt8) (x n c : Nat) (hr : Hid (cutL l = (x, n, c))) (w : World) (h : Rd w v l) :
    Calls Tryd.prog 90 #[v] w fun e w' => e = .returned (.tuple #[.string (str (cutTextL l).1), .int .i64 (cutTextL l).2.1, .int .i64 (cutTextL l).2.2]) ∧ w = w' := by
  have hf := cutL_facts hr.out
  obtain ⟨f1, f2, f3, f4, f5, f6⟩ := hf
  have hv := Lib.hid f1
  have h4 := Lib.hid f4
  clear f1 f4 f5 f6
  have h0 := h
  obtain ⟨ao, cap, rfl, hl, hm, hn, hx⟩ := h0
  have HX := Lib.hid hx
  have HN := Lib.hid hn
  clear hx hn
  go_enter Tryd.func90, Tryd.ntmps90
  have K := Lib.hid (cutTextL_eq hr.out)
  obtain ⟨i0, hi, hz0, hz1, hz2⟩ := info_parts u8info
  unfold maxLen at hm
  have hc : 0 < c ∨ c ≤ 0 := by omega
  rcases hc with hc | hc
  all_goals
   go_wp2_with (first
    | (go_at_call 92; refine (cut_at _ _ x n c hr _ h).mono ?_; rintro e w' ⟨rfl, rfl⟩)
    | (with_reducible refine wpList_slice_rd rfl 58 5 _ _ _ rfl i0 Tryd.underlying58 hi hz1 _ _ _ l rfl h _ _ _ _ rfl rfl n x (by omega) (by omega) (by omega) ?_; intro ao' cap' hr'; have k1 := conv_rd (P := Tryd.prog) hr' 58 5 9 Tryd.underlying58 Tryd.underlying5 Tryd.underlying9))
  all_goals
    go_ret3
    refine ⟨?_, rfl⟩
    rw [K.out]
  · rw [if_pos (by omega)]; rfl
  · rw [if_neg (by omega), if_pos (by omega)]; rfl
  · rw [if_neg (by omega), if_neg (by omega), if_pos (by omega)]; rfl
  · rw [if_neg (by omega), if_neg (by omega), if_neg (by omega)]; rfl
/-- cutText. -/
theorem cutText8 (v : Value) (l : List UInt8) (s : List UInt8) (n e : Nat) (hr : Hid (cutTextL l = (s, n, e))) (w : World) (h : Rd w v l) :
    Calls Tryd.prog 107 #[v] w fun x w' => x = .returned (if 64 < s.length then .tuple #[.string (str []), .int .i64 0, .int .i64 5] else .tuple #[.string (str s), .int .i64 (n : Int), .int .i64 (e : Int)]) ∧ w = w' := by
  obtain ⟨x, m, c, hc⟩ : ∃ x m c, cutL l = (x, m, c) := ⟨_, _, _, rfl⟩
  have X := fun w h => cutText_max v l x m c hc w h
  rw [hr.out] at X
  simp only at X
  have hl := (cutTextL_len hr.out).1
  have hz : (str s).size = s.length := str_size s
  clear hc
  by_cases h64 : 64 < s.length
  · rw [if_pos h64]
    have h1 : 64 < (str s).size := by omega
    have h2 : (str s).size ≤ 255 := by omega
    clear hz hl h64
    go_enter Tryd.func107, Tryd.ntmps107
    go_wp2_with fail
    refine (X _ h).mono ?_
    rintro e w' ⟨rfl, rfl⟩
    go_wp2_with fail
    go_ret3
    exact ⟨rfl, rfl⟩
  · rw [if_neg h64]
    have h1 : (str s).size ≤ 64 := by omega
    clear hz hl h64
    go_enter Tryd.func107, Tryd.ntmps107
    go_wp2_with fail
    refine (X _ h).mono ?_
    rintro e w' ⟨rfl, rfl⟩
    go_wp2_with fail
    go_ret3
    exact ⟨rfl, rfl⟩
def cutBoolV : List UInt8 → Value
  | [] => .tuple #[.int .i64 0, .int .i64 0, .int .i64 2]
  | d :: _ => if 1 < d.toNat then .tuple #[.int .i64 0, .int .i64 0, .int .i64 3] else .tuple #[.int .i64 (d.toNat : Int), .int .i64 1, .int .i64 0]
theorem cutBool_at (v : Value) (l : List UInt8) (w : World) (h : Rd w v l) :
    Calls Tryd.prog 105 #[v] w fun x w' => x = .returned (cutBoolV l) ∧ w = w' := by
  obtain ⟨ao, cap, rfl, hl, hm, hn, hx⟩ := h
  unfold maxLen at hm
  cases l with
  | nil =>
    clear hn hx
    go_enter Tryd.func105, Tryd.ntmps105
    go_wp2_with fail
    go_ret3
    exact ⟨rfl, rfl⟩
  | cons d r =>
    obtain ⟨b, off, rfl, hb, hcell⟩ := hx (by simp)
    have h0 := hcell 0 (by simp)
    rw [Nat.add_zero] at h0
    simp only [List.getD_cons_zero, bv] at h0
    obtain ⟨c, hc⟩ : ∃ c, d.toNat = c := ⟨_, rfl⟩
    have hc256 : c < 256 := by rw [← hc]; exact d.toNat_lt
    unfold cutBoolV
    simp only [hc] at h0 ⊢
    simp only [List.length_cons] at hl hm ⊢
    generalize r.length = rl at hl hm
    clear hcell hx hc hn
    by_cases h1 : 1 < c
    · rw [if_pos h1]
      go_enter Tryd.func105, Tryd.ntmps105
      go_wp2_with fail
      go_ret3
      exact ⟨rfl, rfl⟩
    · rw [if_neg h1]
      go_enter Tryd.func105, Tryd.ntmps105
      go_wp2_with fail
      go_ret3
      exact ⟨rfl, rfl⟩
/-- What is known of bytes that begin with c, behind two blocks that were laid. -/
theorem rd_cons {w : World} {v : Value} {c : UInt8} {r : List UInt8} (h : Rd w v (c :: r)) : ∃ b off cap : Nat, v = .slice (some ⟨b, off, none⟩) (r.length + 1) cap ∧ r.length + 1 ≤ cap ∧ cap ≤ maxLen ∧ b < w.heap.size ∧ w.cell? ⟨b, off, none⟩ = some (.int .u8 (c.toNat : Int)) := by
  obtain ⟨ao, cap, rfl, hl, hm, hn, hx⟩ := h
  obtain ⟨b, off, rfl, hb, hcell⟩ := hx (by simp)
  have h0 := hcell 0 (by simp)
  rw [Nat.add_zero] at h0
  exact ⟨b, off, cap, rfl, by simpa using hl, hm, hb, h0⟩
theorem cutV_nil (v : Value) (w : World) (h : Rd w v []) :
    Calls Tryd.prog 91 #[v] w fun e w' => e = .returned (cutT ((0, 0, []), 0, 2)) ∧ Below w.heap.size w w' := by
  obtain ⟨ao, cap, rfl, hl, hm, hn, hx⟩ := h
  unfold maxLen at hm
  clear hn hx
  go_enter Tryd.func91, Tryd.ntmps91
  go_wp2_with fail
  refine bodyPost_ret (v := cutT ((0, 0, []), 0, 2)) (by simp [results, Tryd.results91, go_sem, str_e, cutT]) rfl ⟨rfl, ?_⟩
  repeat (first | exact Below.refl _ _ | refine Below.setCell ?_ (by simp) _ | refine Below.alloc ?_ (by simp) _)
theorem cutV_big (v : Value) (c : UInt8) (r : List UInt8) (w : World) (h : Rd w v (c :: r)) (hc : 3 < c.toNat) :
    Calls Tryd.prog 91 #[v] w fun e w' => e = .returned (cutT ((0, 0, []), 0, 3)) ∧ Below w.heap.size w w' := by
  obtain ⟨b, off, cap, rfl, hl, hm, hb, h0⟩ := rd_cons h
  unfold maxLen at hm
  have hc256 := c.toNat_lt
  clear h
  generalize c.toNat = m at h0 hc hc256
  generalize r.length = n at hl
  go_enter Tryd.func91, Tryd.ntmps91
  go_wp2_with fail
  refine bodyPost_ret (v := cutT ((0, 0, []), 0, 3)) (by simp [results, Tryd.results91, go_sem, str_e, cutT]) rfl ⟨rfl, ?_⟩
  repeat (first | exact Below.refl _ _ | refine Below.setCell ?_ (by simp) _ | refine Below.alloc ?_ (by simp; try omega) _)
end Go.Proofs.YtcehgfganjdghaaDoor.V7
