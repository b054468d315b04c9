/- Values: the law ValueBytes. Written by wip/tools/gen7b.py. -/
import Derived.Test.YthakimgpaemfeaaV07Z4
import Derived.Test.YthakimgpaemfeaaV07Z5
import Derived.Test.YthakimgpaemfeaaV07O
import Derived.Test.YthakimgpaemfeaaV07P
namespace Go.Proofs.Ythakimgpaemfeaa
open Go Go.RowKit
set_option linter.unusedVariables false
set_option linter.unusedSimpArgs false
/-- 'b[:j]' of bytes that are read. -/
theorem wpList_slice_to {P : Program} {ops : Array Oper} {rest : List Oper} {o : Oper} {a : Act} {Q : Exit → Act → World → Prop} {w : World} (hgd : o.guard = none) (T e : TypeId) (s y : Operand)
    (ho : o.op = .slice T s none (some y) none) (ti : TypeInfo) (ht : P.underlying T = some (.slice e)) (hi : P.info? e = some ti) (hz : ti.size = 1)
    (ao : Option Addr) (n cap : Nat) (l : List UInt8) (hs : a.eval s = .slice ao n cap) (hr : Rd w (.slice ao n cap) l) (ky : IntKind) (Y : Int) (hy : a.eval y = .int ky Y)
    (j : Nat) (h1 : Y = (j : Int)) (h2 : j ≤ n)
    (hK : ∀ ao' cap', (∀ w', Rd w' (.slice ao n cap) l → Rd w' (.slice ao' j cap') (l.take j)) → wpList P ops Q rest (a.put o.dst (.slice ao' j cap')) w) :
    wpList P ops Q (o :: rest) a w := by
  have h1' : 0 ≤ Y := by omega
  have e2 : Y.toNat = j := by omega
  refine wpList_plain hgd fun K hK' => ?_
  have hnc : n ≤ cap := by obtain ⟨_, _, he, h3, _⟩ := hr; cases he; exact h3
  have hrs := fun w' (h : Rd w' (.slice ao n cap) l) => rd_sliced h 0 j (by omega) (by omega)
  simp only [List.drop_zero, Nat.sub_zero] at hrs
  unfold Oper.wp
  simp [execOp, ho, hs, hy, Instr.sliceAt, Instr.slice, run_underlying ht, Instr.sliceBounds, Instr.sliceBound, asIntOf, h1', (by omega : Y ≤ (cap : Int)), (by omega : (0 : Int) ≤ Y), sizeOf, typeInfo, hi, hz, Result.andThen]
  rw [Nat.zero_mul] at hrs
  subst h1
  exact hK' _ _ (hK _ _ hrs)
set_option maxRecDepth 100000 in
set_option maxHeartbeats 400000 in
theorem bytes_ts (ka ia : Int) (sa la : List UInt8) (k i : Int) (s : List UInt8) (n x : Int) (v : Value) (l lb : List UInt8) (L : List UInt8) (w : World) (hR : Rd w v l)
    (FA : ∀ w, Calls Try.prog 10 #[.agg #[.int .i64 ka, .int .i64 ia, .string (str sa)]] w fun e w' => e = .returned (.agg #[.int .i64 ka, .int .i64 ia, .string (str la)]) ∧ Below w.heap.size w w')
    (RMA : ∀ w, Calls Try.prog 11 #[.agg #[.int .i64 ka, .int .i64 ia, .string (str la)]] w fun e w' => e = .returned (.bool true) ∧ Below w.heap.size w w')
    (RE : ∀ w, Calls Try.prog 32 #[.agg #[.int .i64 ka, .int .i64 ia, .string (str la)]] w fun e w' => e = .returned (.string (str L)) ∧ Below w.heap.size w w')
    (VE : ∀ w, Calls Try.prog 35 #[.agg #[.int .i64 ka, .int .i64 ia, .string (str la)]] w (EncR w L))
    (VC : ∀ v w, Rd w v lb → Calls Try.prog 33 #[v] w fun e w' => e = .returned (.tuple #[.agg #[.int .i64 k, .int .i64 i, .string (str s)], .int .i64 n, .int .i64 x]) ∧ Below w.heap.size w w')
    (RC : ∀ w, Calls Try.prog 34 #[.string (str lb)] w fun e w' => e = .returned (.tuple #[.agg #[.int .i64 k, .int .i64 i, .string (str s)], .int .i64 n, .int .i64 x]) ∧ Below w.heap.size w w')
    (hlb : lb = l) (hlen : l.length ≤ 400) :
    Calls Try.prog 6 #[.agg #[.int .i64 ka, .int .i64 ia, .string (str sa)], v] w fun e w' => e = .returned (.bool true) ∧ Below w.heap.size w w' := by
  have AW := awake_any
  obtain ⟨i0, hi, hz0, hz1, hz2⟩ := info_parts u8info
  have RB : Hid (∀ w', Below w.heap.size w w' → Rd w' v l) := Lib.hid (fun w' h => hR.below h (Nat.le_refl _))
  obtain ⟨ao, cap, rfl, hl, hm, hn, hx⟩ := hR
  unfold maxLen at hm
  clear hn hx
  subst hlb
  have qa := heap_alloc_new w (.cells #[.int .i64 ka, .int .i64 ia, .string (str sa)] 23)
  have bel : Below w.heap.size w (w.alloc (.cells #[.int .i64 ka, .int .i64 ia, .string (str sa)] 23)) := (Below.refl _ _).alloc (Nat.le_refl _) _
  go_enter Try.func6, Try.ntmps6
  obtain ⟨qac0, qac1, qac2⟩ := cells3 qa
  have qal := lt_of_block qa
  go_wp2_with fail
  refine (FA _).mono ?_
  rintro e w1 ⟨rfl, g⟩
  clear qac0 qac1 qac2 qal
  replace qa := (g.block _ (lt_of_block qa)).trans qa
  replace bel := chain bel g
  clear g
  obtain ⟨qac0, qac1, qac2⟩ := cells3 qa
  have qal := lt_of_block qa
  have fz := frozen3 qa
  go_wp2_with fail
  clear fz
  clear qac0 qac1 qac2 qal
  replace qa := put3 (.int .i64 ka) (.int .i64 ia) (.string (str la)) qa
  replace bel := put3_below (B := w.heap.size) (u0 := .int .i64 ka) (u1 := .int .i64 ia) (u2 := .string (str la)) bel (by omega)
  obtain ⟨qac0, qac1, qac2⟩ := cells3 qa
  have qal := lt_of_block qa
  refine (RMA _).mono ?_
  rintro e w2 ⟨rfl, g⟩
  clear qac0 qac1 qac2 qal
  replace qa := (g.block _ (lt_of_block qa)).trans qa
  replace bel := chain bel g
  clear g
  obtain ⟨qac0, qac1, qac2⟩ := cells3 qa
  have qal := lt_of_block qa
  go_wp2_with fail
  refine (RE _).mono ?_
  rintro e w3 ⟨rfl, g⟩
  clear qac0 qac1 qac2 qal
  replace qa := (g.block _ (lt_of_block qa)).trans qa
  replace bel := chain bel g
  clear g
  obtain ⟨qac0, qac1, qac2⟩ := cells3 qa
  have qal := lt_of_block qa
  go_wp2_with fail
  refine (VC _ _ (RB.out _ bel)).mono ?_
  rintro e w4 ⟨rfl, g⟩
  clear qac0 qac1 qac2 qal
  replace qa := (g.block _ (lt_of_block qa)).trans qa
  replace bel := chain bel g
  clear g
  obtain ⟨qac0, qac1, qac2⟩ := cells3 qa
  have qal := lt_of_block qa
  clear qac0 qac1 qac2 qal
  replace qa := (heap_alloc_old w4 (.cells #[.int .i64 k, .int .i64 i, .string (str s)] 23) (lt_of_block qa)).trans qa
  have qv := heap_alloc_new w4 (.cells #[.int .i64 k, .int .i64 i, .string (str s)] 23)
  replace bel := bel.alloc bel.size (.cells #[.int .i64 k, .int .i64 i, .string (str s)] 23)
  obtain ⟨qac0, qac1, qac2⟩ := cells3 qa
  have qal := lt_of_block qa
  obtain ⟨qvc0, qvc1, qvc2⟩ := cells3 qv
  have qvl := lt_of_block qv
  have k1 := cv (RB.out _ bel)
  go_wp2_with fail
  refine (RC _).mono ?_
  rintro e w5 ⟨rfl, g⟩
  clear qac0 qac1 qac2 qal
  replace qa := (g.block _ (lt_of_block qa)).trans qa
  clear qvc0 qvc1 qvc2 qvl
  replace qv := (g.block _ (lt_of_block qv)).trans qv
  replace bel := chain bel g
  clear g
  obtain ⟨qac0, qac1, qac2⟩ := cells3 qa
  have qal := lt_of_block qa
  obtain ⟨qvc0, qvc1, qvc2⟩ := cells3 qv
  have qvl := lt_of_block qv
  clear k1
  clear qac0 qac1 qac2 qal
  replace qa := (heap_alloc_old w5 (.cells #[.int .i64 k, .int .i64 i, .string (str s)] 23) (lt_of_block qa)).trans qa
  clear qvc0 qvc1 qvc2 qvl
  replace qv := (heap_alloc_old w5 (.cells #[.int .i64 k, .int .i64 i, .string (str s)] 23) (lt_of_block qv)).trans qv
  have qw := heap_alloc_new w5 (.cells #[.int .i64 k, .int .i64 i, .string (str s)] 23)
  replace bel := bel.alloc bel.size (.cells #[.int .i64 k, .int .i64 i, .string (str s)] 23)
  obtain ⟨qac0, qac1, qac2⟩ := cells3 qa
  have qal := lt_of_block qa
  obtain ⟨qvc0, qvc1, qvc2⟩ := cells3 qv
  have qvl := lt_of_block qv
  obtain ⟨qwc0, qwc1, qwc2⟩ := cells3 qw
  have qwl := lt_of_block qw
  go_wp2_with fail
  refine (VE _).mono ?_
  rintro e w6 ⟨vE, rfl, hE, -, g⟩
  clear qac0 qac1 qac2 qal
  replace qa := (g.block _ (lt_of_block qa)).trans qa
  clear qvc0 qvc1 qvc2 qvl
  replace qv := (g.block _ (lt_of_block qv)).trans qv
  clear qwc0 qwc1 qwc2 qwl
  replace qw := (g.block _ (lt_of_block qw)).trans qw
  replace bel := chain bel g
  clear g
  obtain ⟨qac0, qac1, qac2⟩ := cells3 qa
  have qal := lt_of_block qa
  obtain ⟨qvc0, qvc1, qvc2⟩ := cells3 qv
  have qvl := lt_of_block qv
  obtain ⟨qwc0, qwc1, qwc2⟩ := cells3 qw
  have qwl := lt_of_block qw
  have k1 := cv hE
  go_wp2_with fail
  refine (AW _).mono ?_
  rintro e w7 ⟨rfl, g⟩
  clear qac0 qac1 qac2 qal
  replace qa := (g.block _ (lt_of_block qa)).trans qa
  clear qvc0 qvc1 qvc2 qvl
  replace qv := (g.block _ (lt_of_block qv)).trans qv
  clear qwc0 qwc1 qwc2 qwl
  replace qw := (g.block _ (lt_of_block qw)).trans qw
  replace bel := chain bel g
  clear g
  obtain ⟨qac0, qac1, qac2⟩ := cells3 qa
  have qal := lt_of_block qa
  obtain ⟨qvc0, qvc1, qvc2⟩ := cells3 qv
  have qvl := lt_of_block qv
  obtain ⟨qwc0, qwc1, qwc2⟩ := cells3 qw
  have qwl := lt_of_block qw
  clear k1
  go_wp2_with fail
  go_ret
  exact ⟨rfl, bel⟩
set_option maxRecDepth 100000 in
set_option maxHeartbeats 400000 in
theorem bytes_tl (ka ia : Int) (sa la : List UInt8) (k i : Int) (s : List UInt8) (n x : Int) (v : Value) (l lb : List UInt8) (L : List UInt8) (w : World) (hR : Rd w v l)
    (FA : ∀ w, Calls Try.prog 10 #[.agg #[.int .i64 ka, .int .i64 ia, .string (str sa)]] w fun e w' => e = .returned (.agg #[.int .i64 ka, .int .i64 ia, .string (str la)]) ∧ Below w.heap.size w w')
    (RMA : ∀ w, Calls Try.prog 11 #[.agg #[.int .i64 ka, .int .i64 ia, .string (str la)]] w fun e w' => e = .returned (.bool true) ∧ Below w.heap.size w w')
    (RE : ∀ w, Calls Try.prog 32 #[.agg #[.int .i64 ka, .int .i64 ia, .string (str la)]] w fun e w' => e = .returned (.string (str L)) ∧ Below w.heap.size w w')
    (VE : ∀ w, Calls Try.prog 35 #[.agg #[.int .i64 ka, .int .i64 ia, .string (str la)]] w (EncR w L))
    (VC : ∀ v w, Rd w v lb → Calls Try.prog 33 #[v] w fun e w' => e = .returned (.tuple #[.agg #[.int .i64 k, .int .i64 i, .string (str s)], .int .i64 n, .int .i64 x]) ∧ Below w.heap.size w w')
    (RC : ∀ w, Calls Try.prog 34 #[.string (str lb)] w fun e w' => e = .returned (.tuple #[.agg #[.int .i64 k, .int .i64 i, .string (str s)], .int .i64 n, .int .i64 x]) ∧ Below w.heap.size w w')
    (hlb : lb = l.take 400) (hlen : 400 < l.length) :
    Calls Try.prog 6 #[.agg #[.int .i64 ka, .int .i64 ia, .string (str sa)], v] w fun e w' => e = .returned (.bool true) ∧ Below w.heap.size w w' := by
  have AW := awake_any
  obtain ⟨i0, hi, hz0, hz1, hz2⟩ := info_parts u8info
  have RB : Hid (∀ w', Below w.heap.size w w' → Rd w' v l) := Lib.hid (fun w' h => hR.below h (Nat.le_refl _))
  obtain ⟨ao, cap, rfl, hl, hm, hn, hx⟩ := hR
  unfold maxLen at hm
  clear hn hx
  have hlb2 := Lib.hid hlb
  clear hlb
  have qa := heap_alloc_new w (.cells #[.int .i64 ka, .int .i64 ia, .string (str sa)] 23)
  have bel : Below w.heap.size w (w.alloc (.cells #[.int .i64 ka, .int .i64 ia, .string (str sa)] 23)) := (Below.refl _ _).alloc (Nat.le_refl _) _
  go_enter Try.func6, Try.ntmps6
  obtain ⟨qac0, qac1, qac2⟩ := cells3 qa
  have qal := lt_of_block qa
  go_wp2_with fail
  refine (FA _).mono ?_
  rintro e w1 ⟨rfl, g⟩
  clear qac0 qac1 qac2 qal
  replace qa := (g.block _ (lt_of_block qa)).trans qa
  replace bel := chain bel g
  clear g
  obtain ⟨qac0, qac1, qac2⟩ := cells3 qa
  have qal := lt_of_block qa
  have fz := frozen3 qa
  go_wp2_with (with_reducible refine wpList_slice_to rfl 43 5 _ _ rfl i0 Try.underlying43 hi hz1 _ _ _ l rfl (RB.out _ (put3_below bel (Nat.le_refl _))) _ _ rfl 400 rfl (by omega) ?_; intro ao' cap' hT0; have hT := Lib.hid hT0; clear hT0)
  have RB2 := fun w' h => hT.out w' (RB.out w' h)
  rw [← hlb2.out] at RB2
  clear hT hlb2 RB
  have RB := Lib.hid RB2
  clear RB2
  clear fz
  clear qac0 qac1 qac2 qal
  replace qa := put3 (.int .i64 ka) (.int .i64 ia) (.string (str la)) qa
  replace bel := put3_below (B := w.heap.size) (u0 := .int .i64 ka) (u1 := .int .i64 ia) (u2 := .string (str la)) bel (by omega)
  obtain ⟨qac0, qac1, qac2⟩ := cells3 qa
  have qal := lt_of_block qa
  refine (RMA _).mono ?_
  rintro e w2 ⟨rfl, g⟩
  clear qac0 qac1 qac2 qal
  replace qa := (g.block _ (lt_of_block qa)).trans qa
  replace bel := chain bel g
  clear g
  obtain ⟨qac0, qac1, qac2⟩ := cells3 qa
  have qal := lt_of_block qa
  go_wp2_with fail
  refine (RE _).mono ?_
  rintro e w3 ⟨rfl, g⟩
  clear qac0 qac1 qac2 qal
  replace qa := (g.block _ (lt_of_block qa)).trans qa
  replace bel := chain bel g
  clear g
  obtain ⟨qac0, qac1, qac2⟩ := cells3 qa
  have qal := lt_of_block qa
  go_wp2_with fail
  refine (VC _ _ (RB.out _ bel)).mono ?_
  rintro e w4 ⟨rfl, g⟩
  clear qac0 qac1 qac2 qal
  replace qa := (g.block _ (lt_of_block qa)).trans qa
  replace bel := chain bel g
  clear g
  obtain ⟨qac0, qac1, qac2⟩ := cells3 qa
  have qal := lt_of_block qa
  clear qac0 qac1 qac2 qal
  replace qa := (heap_alloc_old w4 (.cells #[.int .i64 k, .int .i64 i, .string (str s)] 23) (lt_of_block qa)).trans qa
  have qv := heap_alloc_new w4 (.cells #[.int .i64 k, .int .i64 i, .string (str s)] 23)
  replace bel := bel.alloc bel.size (.cells #[.int .i64 k, .int .i64 i, .string (str s)] 23)
  obtain ⟨qac0, qac1, qac2⟩ := cells3 qa
  have qal := lt_of_block qa
  obtain ⟨qvc0, qvc1, qvc2⟩ := cells3 qv
  have qvl := lt_of_block qv
  have k1 := cv (RB.out _ bel)
  go_wp2_with fail
  refine (RC _).mono ?_
  rintro e w5 ⟨rfl, g⟩
  clear qac0 qac1 qac2 qal
  replace qa := (g.block _ (lt_of_block qa)).trans qa
  clear qvc0 qvc1 qvc2 qvl
  replace qv := (g.block _ (lt_of_block qv)).trans qv
  replace bel := chain bel g
  clear g
  obtain ⟨qac0, qac1, qac2⟩ := cells3 qa
  have qal := lt_of_block qa
  obtain ⟨qvc0, qvc1, qvc2⟩ := cells3 qv
  have qvl := lt_of_block qv
  clear k1
  clear qac0 qac1 qac2 qal
  replace qa := (heap_alloc_old w5 (.cells #[.int .i64 k, .int .i64 i, .string (str s)] 23) (lt_of_block qa)).trans qa
  clear qvc0 qvc1 qvc2 qvl
  replace qv := (heap_alloc_old w5 (.cells #[.int .i64 k, .int .i64 i, .string (str s)] 23) (lt_of_block qv)).trans qv
  have qw := heap_alloc_new w5 (.cells #[.int .i64 k, .int .i64 i, .string (str s)] 23)
  replace bel := bel.alloc bel.size (.cells #[.int .i64 k, .int .i64 i, .string (str s)] 23)
  obtain ⟨qac0, qac1, qac2⟩ := cells3 qa
  have qal := lt_of_block qa
  obtain ⟨qvc0, qvc1, qvc2⟩ := cells3 qv
  have qvl := lt_of_block qv
  obtain ⟨qwc0, qwc1, qwc2⟩ := cells3 qw
  have qwl := lt_of_block qw
  go_wp2_with fail
  refine (VE _).mono ?_
  rintro e w6 ⟨vE, rfl, hE, -, g⟩
  clear qac0 qac1 qac2 qal
  replace qa := (g.block _ (lt_of_block qa)).trans qa
  clear qvc0 qvc1 qvc2 qvl
  replace qv := (g.block _ (lt_of_block qv)).trans qv
  clear qwc0 qwc1 qwc2 qwl
  replace qw := (g.block _ (lt_of_block qw)).trans qw
  replace bel := chain bel g
  clear g
  obtain ⟨qac0, qac1, qac2⟩ := cells3 qa
  have qal := lt_of_block qa
  obtain ⟨qvc0, qvc1, qvc2⟩ := cells3 qv
  have qvl := lt_of_block qv
  obtain ⟨qwc0, qwc1, qwc2⟩ := cells3 qw
  have qwl := lt_of_block qw
  have k1 := cv hE
  go_wp2_with fail
  refine (AW _).mono ?_
  rintro e w7 ⟨rfl, g⟩
  clear qac0 qac1 qac2 qal
  replace qa := (g.block _ (lt_of_block qa)).trans qa
  clear qvc0 qvc1 qvc2 qvl
  replace qv := (g.block _ (lt_of_block qv)).trans qv
  clear qwc0 qwc1 qwc2 qwl
  replace qw := (g.block _ (lt_of_block qw)).trans qw
  replace bel := chain bel g
  clear g
  obtain ⟨qac0, qac1, qac2⟩ := cells3 qa
  have qal := lt_of_block qa
  obtain ⟨qvc0, qvc1, qvc2⟩ := cells3 qv
  have qvl := lt_of_block qv
  obtain ⟨qwc0, qwc1, qwc2⟩ := cells3 qw
  have qwl := lt_of_block qw
  clear k1
  go_wp2_with fail
  go_ret
  exact ⟨rfl, bel⟩
set_option maxRecDepth 100000 in
set_option maxHeartbeats 400000 in
theorem bytes_fs (ka ia : Int) (sa la : List UInt8) (k i : Int) (s : List UInt8) (n x : Int) (v : Value) (l lb : List UInt8) (w : World) (hR : Rd w v l)
    (FA : ∀ w, Calls Try.prog 10 #[.agg #[.int .i64 ka, .int .i64 ia, .string (str sa)]] w fun e w' => e = .returned (.agg #[.int .i64 ka, .int .i64 ia, .string (str la)]) ∧ Below w.heap.size w w')
    (RMA : ∀ w, Calls Try.prog 11 #[.agg #[.int .i64 ka, .int .i64 ia, .string (str la)]] w fun e w' => e = .returned (.bool false) ∧ Below w.heap.size w w')
    (VE : ∀ w, Calls Try.prog 35 #[.agg #[.int .i64 ka, .int .i64 ia, .string (str la)]] w (EncR w []))
    (VC : ∀ v w, Rd w v lb → Calls Try.prog 33 #[v] w fun e w' => e = .returned (.tuple #[.agg #[.int .i64 k, .int .i64 i, .string (str s)], .int .i64 n, .int .i64 x]) ∧ Below w.heap.size w w')
    (RC : ∀ w, Calls Try.prog 34 #[.string (str lb)] w fun e w' => e = .returned (.tuple #[.agg #[.int .i64 k, .int .i64 i, .string (str s)], .int .i64 n, .int .i64 x]) ∧ Below w.heap.size w w')
    (hlb : lb = l) (hlen : l.length ≤ 400) :
    Calls Try.prog 6 #[.agg #[.int .i64 ka, .int .i64 ia, .string (str sa)], v] w fun e w' => e = .returned (.bool true) ∧ Below w.heap.size w w' := by
  have AW := awake_any
  obtain ⟨i0, hi, hz0, hz1, hz2⟩ := info_parts u8info
  have RB : Hid (∀ w', Below w.heap.size w w' → Rd w' v l) := Lib.hid (fun w' h => hR.below h (Nat.le_refl _))
  obtain ⟨ao, cap, rfl, hl, hm, hn, hx⟩ := hR
  unfold maxLen at hm
  clear hn hx
  subst hlb
  have qa := heap_alloc_new w (.cells #[.int .i64 ka, .int .i64 ia, .string (str sa)] 23)
  have bel : Below w.heap.size w (w.alloc (.cells #[.int .i64 ka, .int .i64 ia, .string (str sa)] 23)) := (Below.refl _ _).alloc (Nat.le_refl _) _
  have hse : (str []).toList = [] := str_tl []
  go_enter Try.func6, Try.ntmps6
  obtain ⟨qac0, qac1, qac2⟩ := cells3 qa
  have qal := lt_of_block qa
  go_wp2_with fail
  refine (FA _).mono ?_
  rintro e w1 ⟨rfl, g⟩
  clear qac0 qac1 qac2 qal
  replace qa := (g.block _ (lt_of_block qa)).trans qa
  replace bel := chain bel g
  clear g
  obtain ⟨qac0, qac1, qac2⟩ := cells3 qa
  have qal := lt_of_block qa
  have fz := frozen3 qa
  go_wp2_with fail
  clear fz
  clear qac0 qac1 qac2 qal
  replace qa := put3 (.int .i64 ka) (.int .i64 ia) (.string (str la)) qa
  replace bel := put3_below (B := w.heap.size) (u0 := .int .i64 ka) (u1 := .int .i64 ia) (u2 := .string (str la)) bel (by omega)
  obtain ⟨qac0, qac1, qac2⟩ := cells3 qa
  have qal := lt_of_block qa
  refine (RMA _).mono ?_
  rintro e w2 ⟨rfl, g⟩
  clear qac0 qac1 qac2 qal
  replace qa := (g.block _ (lt_of_block qa)).trans qa
  replace bel := chain bel g
  clear g
  obtain ⟨qac0, qac1, qac2⟩ := cells3 qa
  have qal := lt_of_block qa
  go_wp2_with fail
  refine (VC _ _ (RB.out _ bel)).mono ?_
  rintro e w3 ⟨rfl, g⟩
  clear qac0 qac1 qac2 qal
  replace qa := (g.block _ (lt_of_block qa)).trans qa
  replace bel := chain bel g
  clear g
  obtain ⟨qac0, qac1, qac2⟩ := cells3 qa
  have qal := lt_of_block qa
  clear qac0 qac1 qac2 qal
  replace qa := (heap_alloc_old w3 (.cells #[.int .i64 k, .int .i64 i, .string (str s)] 23) (lt_of_block qa)).trans qa
  have qv := heap_alloc_new w3 (.cells #[.int .i64 k, .int .i64 i, .string (str s)] 23)
  replace bel := bel.alloc bel.size (.cells #[.int .i64 k, .int .i64 i, .string (str s)] 23)
  obtain ⟨qac0, qac1, qac2⟩ := cells3 qa
  have qal := lt_of_block qa
  obtain ⟨qvc0, qvc1, qvc2⟩ := cells3 qv
  have qvl := lt_of_block qv
  have k1 := cv (RB.out _ bel)
  go_wp2_with fail
  refine (RC _).mono ?_
  rintro e w4 ⟨rfl, g⟩
  clear qac0 qac1 qac2 qal
  replace qa := (g.block _ (lt_of_block qa)).trans qa
  clear qvc0 qvc1 qvc2 qvl
  replace qv := (g.block _ (lt_of_block qv)).trans qv
  replace bel := chain bel g
  clear g
  obtain ⟨qac0, qac1, qac2⟩ := cells3 qa
  have qal := lt_of_block qa
  obtain ⟨qvc0, qvc1, qvc2⟩ := cells3 qv
  have qvl := lt_of_block qv
  clear k1
  clear qac0 qac1 qac2 qal
  replace qa := (heap_alloc_old w4 (.cells #[.int .i64 k, .int .i64 i, .string (str s)] 23) (lt_of_block qa)).trans qa
  clear qvc0 qvc1 qvc2 qvl
  replace qv := (heap_alloc_old w4 (.cells #[.int .i64 k, .int .i64 i, .string (str s)] 23) (lt_of_block qv)).trans qv
  have qw := heap_alloc_new w4 (.cells #[.int .i64 k, .int .i64 i, .string (str s)] 23)
  replace bel := bel.alloc bel.size (.cells #[.int .i64 k, .int .i64 i, .string (str s)] 23)
  obtain ⟨qac0, qac1, qac2⟩ := cells3 qa
  have qal := lt_of_block qa
  obtain ⟨qvc0, qvc1, qvc2⟩ := cells3 qv
  have qvl := lt_of_block qv
  obtain ⟨qwc0, qwc1, qwc2⟩ := cells3 qw
  have qwl := lt_of_block qw
  go_wp2_with fail
  refine (VE _).mono ?_
  rintro e w5 ⟨vE, rfl, hE, -, g⟩
  clear qac0 qac1 qac2 qal
  replace qa := (g.block _ (lt_of_block qa)).trans qa
  clear qvc0 qvc1 qvc2 qvl
  replace qv := (g.block _ (lt_of_block qv)).trans qv
  clear qwc0 qwc1 qwc2 qwl
  replace qw := (g.block _ (lt_of_block qw)).trans qw
  replace bel := chain bel g
  clear g
  obtain ⟨qac0, qac1, qac2⟩ := cells3 qa
  have qal := lt_of_block qa
  obtain ⟨qvc0, qvc1, qvc2⟩ := cells3 qv
  have qvl := lt_of_block qv
  obtain ⟨qwc0, qwc1, qwc2⟩ := cells3 qw
  have qwl := lt_of_block qw
  have k1 := cv hE
  go_wp2_with fail
  refine (AW _).mono ?_
  rintro e w6 ⟨rfl, g⟩
  clear qac0 qac1 qac2 qal
  replace qa := (g.block _ (lt_of_block qa)).trans qa
  clear qvc0 qvc1 qvc2 qvl
  replace qv := (g.block _ (lt_of_block qv)).trans qv
  clear qwc0 qwc1 qwc2 qwl
  replace qw := (g.block _ (lt_of_block qw)).trans qw
  replace bel := chain bel g
  clear g
  obtain ⟨qac0, qac1, qac2⟩ := cells3 qa
  have qal := lt_of_block qa
  obtain ⟨qvc0, qvc1, qvc2⟩ := cells3 qv
  have qvl := lt_of_block qv
  obtain ⟨qwc0, qwc1, qwc2⟩ := cells3 qw
  have qwl := lt_of_block qw
  clear k1
  go_wp2_with fail
  go_ret
  exact ⟨rfl, bel⟩
set_option maxRecDepth 100000 in
set_option maxHeartbeats 400000 in
theorem bytes_fl (ka ia : Int) (sa la : List UInt8) (k i : Int) (s : List UInt8) (n x : Int) (v : Value) (l lb : List UInt8) (w : World) (hR : Rd w v l)
    (FA : ∀ w, Calls Try.prog 10 #[.agg #[.int .i64 ka, .int .i64 ia, .string (str sa)]] w fun e w' => e = .returned (.agg #[.int .i64 ka, .int .i64 ia, .string (str la)]) ∧ Below w.heap.size w w')
    (RMA : ∀ w, Calls Try.prog 11 #[.agg #[.int .i64 ka, .int .i64 ia, .string (str la)]] w fun e w' => e = .returned (.bool false) ∧ Below w.heap.size w w')
    (VE : ∀ w, Calls Try.prog 35 #[.agg #[.int .i64 ka, .int .i64 ia, .string (str la)]] w (EncR w []))
    (VC : ∀ v w, Rd w v lb → Calls Try.prog 33 #[v] w fun e w' => e = .returned (.tuple #[.agg #[.int .i64 k, .int .i64 i, .string (str s)], .int .i64 n, .int .i64 x]) ∧ Below w.heap.size w w')
    (RC : ∀ w, Calls Try.prog 34 #[.string (str lb)] w fun e w' => e = .returned (.tuple #[.agg #[.int .i64 k, .int .i64 i, .string (str s)], .int .i64 n, .int .i64 x]) ∧ Below w.heap.size w w')
    (hlb : lb = l.take 400) (hlen : 400 < l.length) :
    Calls Try.prog 6 #[.agg #[.int .i64 ka, .int .i64 ia, .string (str sa)], v] w fun e w' => e = .returned (.bool true) ∧ Below w.heap.size w w' := by
  have AW := awake_any
  obtain ⟨i0, hi, hz0, hz1, hz2⟩ := info_parts u8info
  have RB : Hid (∀ w', Below w.heap.size w w' → Rd w' v l) := Lib.hid (fun w' h => hR.below h (Nat.le_refl _))
  obtain ⟨ao, cap, rfl, hl, hm, hn, hx⟩ := hR
  unfold maxLen at hm
  clear hn hx
  have hlb2 := Lib.hid hlb
  clear hlb
  have qa := heap_alloc_new w (.cells #[.int .i64 ka, .int .i64 ia, .string (str sa)] 23)
  have bel : Below w.heap.size w (w.alloc (.cells #[.int .i64 ka, .int .i64 ia, .string (str sa)] 23)) := (Below.refl _ _).alloc (Nat.le_refl _) _
  have hse : (str []).toList = [] := str_tl []
  go_enter Try.func6, Try.ntmps6
  obtain ⟨qac0, qac1, qac2⟩ := cells3 qa
  have qal := lt_of_block qa
  go_wp2_with fail
  refine (FA _).mono ?_
  rintro e w1 ⟨rfl, g⟩
  clear qac0 qac1 qac2 qal
  replace qa := (g.block _ (lt_of_block qa)).trans qa
  replace bel := chain bel g
  clear g
  obtain ⟨qac0, qac1, qac2⟩ := cells3 qa
  have qal := lt_of_block qa
  have fz := frozen3 qa
  go_wp2_with (with_reducible refine wpList_slice_to rfl 43 5 _ _ rfl i0 Try.underlying43 hi hz1 _ _ _ l rfl (RB.out _ (put3_below bel (Nat.le_refl _))) _ _ rfl 400 rfl (by omega) ?_; intro ao' cap' hT0; have hT := Lib.hid hT0; clear hT0)
  have RB2 := fun w' h => hT.out w' (RB.out w' h)
  rw [← hlb2.out] at RB2
  clear hT hlb2 RB
  have RB := Lib.hid RB2
  clear RB2
  clear fz
  clear qac0 qac1 qac2 qal
  replace qa := put3 (.int .i64 ka) (.int .i64 ia) (.string (str la)) qa
  replace bel := put3_below (B := w.heap.size) (u0 := .int .i64 ka) (u1 := .int .i64 ia) (u2 := .string (str la)) bel (by omega)
  obtain ⟨qac0, qac1, qac2⟩ := cells3 qa
  have qal := lt_of_block qa
  refine (RMA _).mono ?_
  rintro e w2 ⟨rfl, g⟩
  clear qac0 qac1 qac2 qal
  replace qa := (g.block _ (lt_of_block qa)).trans qa
  replace bel := chain bel g
  clear g
  obtain ⟨qac0, qac1, qac2⟩ := cells3 qa
  have qal := lt_of_block qa
  go_wp2_with fail
  refine (VC _ _ (RB.out _ bel)).mono ?_
  rintro e w3 ⟨rfl, g⟩
  clear qac0 qac1 qac2 qal
  replace qa := (g.block _ (lt_of_block qa)).trans qa
  replace bel := chain bel g
  clear g
  obtain ⟨qac0, qac1, qac2⟩ := cells3 qa
  have qal := lt_of_block qa
  clear qac0 qac1 qac2 qal
  replace qa := (heap_alloc_old w3 (.cells #[.int .i64 k, .int .i64 i, .string (str s)] 23) (lt_of_block qa)).trans qa
  have qv := heap_alloc_new w3 (.cells #[.int .i64 k, .int .i64 i, .string (str s)] 23)
  replace bel := bel.alloc bel.size (.cells #[.int .i64 k, .int .i64 i, .string (str s)] 23)
  obtain ⟨qac0, qac1, qac2⟩ := cells3 qa
  have qal := lt_of_block qa
  obtain ⟨qvc0, qvc1, qvc2⟩ := cells3 qv
  have qvl := lt_of_block qv
  have k1 := cv (RB.out _ bel)
  go_wp2_with fail
  refine (RC _).mono ?_
  rintro e w4 ⟨rfl, g⟩
  clear qac0 qac1 qac2 qal
  replace qa := (g.block _ (lt_of_block qa)).trans qa
  clear qvc0 qvc1 qvc2 qvl
  replace qv := (g.block _ (lt_of_block qv)).trans qv
  replace bel := chain bel g
  clear g
  obtain ⟨qac0, qac1, qac2⟩ := cells3 qa
  have qal := lt_of_block qa
  obtain ⟨qvc0, qvc1, qvc2⟩ := cells3 qv
  have qvl := lt_of_block qv
  clear k1
  clear qac0 qac1 qac2 qal
  replace qa := (heap_alloc_old w4 (.cells #[.int .i64 k, .int .i64 i, .string (str s)] 23) (lt_of_block qa)).trans qa
  clear qvc0 qvc1 qvc2 qvl
  replace qv := (heap_alloc_old w4 (.cells #[.int .i64 k, .int .i64 i, .string (str s)] 23) (lt_of_block qv)).trans qv
  have qw := heap_alloc_new w4 (.cells #[.int .i64 k, .int .i64 i, .string (str s)] 23)
  replace bel := bel.alloc bel.size (.cells #[.int .i64 k, .int .i64 i, .string (str s)] 23)
  obtain ⟨qac0, qac1, qac2⟩ := cells3 qa
  have qal := lt_of_block qa
  obtain ⟨qvc0, qvc1, qvc2⟩ := cells3 qv
  have qvl := lt_of_block qv
  obtain ⟨qwc0, qwc1, qwc2⟩ := cells3 qw
  have qwl := lt_of_block qw
  go_wp2_with fail
  refine (VE _).mono ?_
  rintro e w5 ⟨vE, rfl, hE, -, g⟩
  clear qac0 qac1 qac2 qal
  replace qa := (g.block _ (lt_of_block qa)).trans qa
  clear qvc0 qvc1 qvc2 qvl
  replace qv := (g.block _ (lt_of_block qv)).trans qv
  clear qwc0 qwc1 qwc2 qwl
  replace qw := (g.block _ (lt_of_block qw)).trans qw
  replace bel := chain bel g
  clear g
  obtain ⟨qac0, qac1, qac2⟩ := cells3 qa
  have qal := lt_of_block qa
  obtain ⟨qvc0, qvc1, qvc2⟩ := cells3 qv
  have qvl := lt_of_block qv
  obtain ⟨qwc0, qwc1, qwc2⟩ := cells3 qw
  have qwl := lt_of_block qw
  have k1 := cv hE
  go_wp2_with fail
  refine (AW _).mono ?_
  rintro e w6 ⟨rfl, g⟩
  clear qac0 qac1 qac2 qal
  replace qa := (g.block _ (lt_of_block qa)).trans qa
  clear qvc0 qvc1 qvc2 qvl
  replace qv := (g.block _ (lt_of_block qv)).trans qv
  clear qwc0 qwc1 qwc2 qwl
  replace qw := (g.block _ (lt_of_block qw)).trans qw
  replace bel := chain bel g
  clear g
  obtain ⟨qac0, qac1, qac2⟩ := cells3 qa
  have qal := lt_of_block qa
  obtain ⟨qvc0, qvc1, qvc2⟩ := cells3 qv
  have qvl := lt_of_block qv
  obtain ⟨qwc0, qwc1, qwc2⟩ := cells3 qw
  have qwl := lt_of_block qw
  clear k1
  go_wp2_with fail
  go_ret
  exact ⟨rfl, bel⟩
theorem bytes_row (ka ia : Int) (sa : List UInt8) (v : Value) (l : List UInt8) (w : World) (wka : (Lit.int .i64 ka).wf = true) (wia : (Lit.int .i64 ia).wf = true) (ha : sa.length ≤ maxLen) (hR : Rd w v l) :
    Calls Try.prog 6 #[.agg #[.int .i64 ka, .int .i64 ia, .string (str sa)], v] w fun e w' => e = .returned (.bool true) ∧ Below w.heap.size w w' := by
  have FA := fun w => few_any ka ia sa w ha
  have la : (sa.take 200).length ≤ maxLen := Nat.le_trans (List.length_take_le' _ _) ha
  generalize sa.take 200 = ta at FA la
  have hI : I64 ia := i64_of_wf wia
  have RMA := fun w => refMay_any ka ia ta w la
  have VE := fun w => encode_any ka ia ta w la hI
  have VC := fun lb v w h => cutV_any v lb w h
  have RC := fun lb h w => refCutV_any lb h w
  unfold cutT at VC RC
  cases m : mayB ⟨ka, ia, ta⟩ with
  | true =>
    rw [m] at RMA
    by_cases h : l.length ≤ 400
    · exact bytes_ts ka ia sa ta _ _ _ _ _ v l l _ w hR FA RMA (fun w => refEncode_any ka ia ta w la hI m) VE (VC l) (RC l (by omega)) rfl h
    · exact bytes_tl ka ia sa ta _ _ _ _ _ v l (l.take 400) _ w hR FA RMA (fun w => refEncode_any ka ia ta w la hI m) VE (VC (l.take 400)) (RC (l.take 400) (by simp; omega)) rfl (by omega)
  | false =>
    rw [m] at RMA
    rw [show encL ⟨ka, ia, ta⟩ = [] by unfold encL; rw [if_pos m]] at VE
    by_cases h : l.length ≤ 400
    · exact bytes_fs ka ia sa ta _ _ _ _ _ v l l w hR FA RMA VE (VC l) (RC l (by omega)) rfl h
    · exact bytes_fl ka ia sa ta _ _ _ _ _ v l (l.take 400) w hR FA RMA VE (VC (l.take 400)) (RC (l.take 400) (by simp; omega)) rfl (by omega)
end Go.Proofs.Ythakimgpaemfeaa
