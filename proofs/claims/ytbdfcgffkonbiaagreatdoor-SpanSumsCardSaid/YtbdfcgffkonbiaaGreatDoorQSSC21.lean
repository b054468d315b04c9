/- Put of package varint: the bytes that it makes are the document's, in memory of its own. -/
/- Cut of package varint: what it reads is what the document says, whatever bytes there are. -/
/- The small functions of layer 1: each comes to what the plain function says. -/
/- The document's cut of a string's bytes: the plain function's answer. -/
/- The document's own answers of layer 1, as walks: each comes to what the plain function says. -/
/- Texts of layer 1. -/
/- Values: their bytes. Written by wip/tools/gen7k.py. -/
/- Leaves: Weight, the encoding of a chunk. Written by wip/tools/gen9h.py. -/
/- Trunks: Count, Weight; which buckets are unlike. Written by wip/tools/gen10h.py. -/
/- Trunks: which buckets are unlike. Written by wip/tools/gen10i.py. -/
/- A region whose order is open, walked once under a condition on the world that is chosen for it: what only reads under it is taken first. -/
import Derived.Test.YtbdfcgffkonbiaaGreatDoorProg
import Derived.Test.YtbdfcgffkonbiaaGreatDoorQSSC20
import Derived.WalkKit
import Derived.Lib.AppendStr
import Derived.WalkSpells
import Derived.Laws.AppendOwnNone
import Derived.Test.YtbdfcgffkonbiaaGreatDoorQSSC19
import Derived.Test.YtbdfcgffkonbiaaGreatDoorQSSC13
import Derived.Test.YtbdfcgffkonbiaaGreatDoorQSSC9
import Derived.Maps.AppendAt
import Derived.Deep.QuietTactic
import Derived.BigQuiet
namespace Go.Proofs.YtbdfcgffkonbiaaGreatDoor
open Go.RowKit
theorem u8info : (Tryz.prog.info? 5).map (fun i => (i.zero, i.size, i.bytes)) = some (some (.int .u8 0), 1, 1) := by kernel_rfl
end Go.Proofs.YtbdfcgffkonbiaaGreatDoor
namespace Go.Proofs.YtbdfcgffkonbiaaGreatDoor
open Go.RowKit
set_option linter.unusedVariables false
set_option linter.unusedSimpArgs false
/-- Three results as a value. -/
def cutV (r : Nat × Nat × Nat) : Value := .tuple #[.int .u64 (r.1 : Int), .int .i64 (r.2.1 : Int), .int .i64 (r.2.2 : Int)]
end Go.Proofs.YtbdfcgffkonbiaaGreatDoor
namespace Go.Proofs.YtbdfcgffkonbiaaGreatDoor
open Go.RowKit
set_option linter.unusedVariables false
set_option linter.unusedSimpArgs false
theorem i64_of_wf {x : Int} (h : (Lit.int .i64 x).wf = true) : I64 x := by
  simp [Lit.wf, IntKind.min, IntKind.max, IntKind.signed, IntKind.bits] at h
  exact ⟨by omega, by omega⟩
theorem u64_of_wf {x : Int} (h : (Lit.int .u64 x).wf = true) : U64 x := by
  simp [Lit.wf, IntKind.min, IntKind.max, IntKind.signed, IntKind.bits] at h
  exact ⟨by omega, by omega⟩
theorem strCells_str (l : List UInt8) : Lib.strCells (str l) = l.map bv := by simp [Lib.strCells, str]; intros; rfl
def textL (s : List UInt8) : List UInt8 := if s.length ≤ 255 then putL s.length ++ s else []
end Go.Proofs.YtbdfcgffkonbiaaGreatDoor
namespace Go.Proofs.YtbdfcgffkonbiaaGreatDoor
open Go.RowKit
set_option linter.unusedVariables false
set_option linter.unusedSimpArgs false
theorem str_byte (l : List UInt8) (k : Nat) (h : k < (str l).size) : (str l)[k]'h = l.getD k 0 := by
  have h' : k < l.length := by rwa [str_size] at h
  show l.toArray[k] = _
  simp [List.getD, h']
end Go.Proofs.YtbdfcgffkonbiaaGreatDoor
namespace Go.Proofs.YtbdfcgffkonbiaaGreatDoor
open Go.RowKit
set_option linter.unusedVariables false
set_option linter.unusedSimpArgs false
end Go.Proofs.YtbdfcgffkonbiaaGreatDoor
namespace Go.Proofs.YtbdfcgffkonbiaaGreatDoor
open Go.RowKit
set_option linter.unusedVariables false
set_option linter.unusedSimpArgs false
/-- What a text is read as. -/
def cutTextL (l : List UInt8) : List UInt8 × Nat × Nat :=
  match cutL l with
  | (x, n, c) => if c ≠ 0 then ([], 0, c) else if 255 < x then ([], 0, 8) else if l.length < n + x then ([], 0, 2) else ((l.drop n).take x, n + x, 0)
theorem cutTextL_eq {l : List UInt8} {x n c : Nat} (h : cutL l = (x, n, c)) : cutTextL l = if c ≠ 0 then ([], 0, c) else if 255 < x then ([], 0, 8) else if l.length < n + x then ([], 0, 2) else ((l.drop n).take x, n + x, 0) := by
  unfold cutTextL; rw [h]
theorem str_extract (l : List UInt8) (i j : Nat) : (str l).extract i j = str ((l.drop i).take (j - i)) := by
  apply ByteArray.ext
  simp [str, ByteArray.data_extract]
theorem str_append (a b : List UInt8) : str a ++ str b = str (a ++ b) := by
  apply ByteArray.ext
  simp [str, ByteArray.data_append]
end Go.Proofs.YtbdfcgffkonbiaaGreatDoor
namespace Go.Proofs.YtbdfcgffkonbiaaGreatDoor.V7
open Go Go.RowKit
set_option linter.unusedVariables false
set_option linter.unusedSimpArgs false
/-- A value's bytes; none, if it may not be. -/
def encL (a : V) : List UInt8 := if mayB a = false then [] else if a.k = 1 then [1, if a.i = 0 then 0 else 1] else if a.k = 2 then 2 :: putL (zigN a.i) else if a.k = 3 then 3 :: textL a.s else [0]
def EncR (w : World) (l : List UInt8) (e : Ending) (w' : World) : Prop := ∃ v, e = .returned v ∧ Rd w' v l ∧ w'.ownsRow w.heap.size 5 1 v l.length (l.map bv) ∧ Below w.heap.size w w'
theorem encR_of {w w' : World} {v : Value} {l : List UInt8} (ho : w'.ownsRow w.heap.size 5 1 v l.length (l.map bv)) (hl : 0 < l.length) (hb : Below w.heap.size w w') : EncR w l (.returned v) w' := by
  obtain ⟨g, cap, rfl, _, _⟩ := slice_of_own ho hl
  exact ⟨_, rfl, own_rd ho, ho, hb⟩
theorem own_below {w w' : World} {b : Nat} {e : TypeId} {size : Nat} {v : Value} {n : Nat} {xs : List Value} (h : w.ownsRow b e size v n xs) (hb : Below w.heap.size w w') : w'.ownsRow b e size v n xs := by
  refine ⟨h.1, ?_⟩
  rcases h.2 with h1 | ⟨g, cap, cur, rfl, h2, h3, h4⟩
  · exact .inl h1
  · exact .inr ⟨g, cap, cur, rfl, h2, (hb.block g (lt_of_block h3)).trans h3, h4⟩
theorem textL_len (s : List UInt8) (h : s.length ≤ 64) : (textL s).length ≤ 74 := by
  unfold textL
  rw [if_pos (by omega), List.length_append]
  have := (putL_len s.length).2
  omega
end Go.Proofs.YtbdfcgffkonbiaaGreatDoor.V7
namespace Go.Proofs.YtbdfcgffkonbiaaGreatDoor
open Go Go.RowKit
set_option linter.unusedVariables false
set_option linter.unusedSimpArgs false
def WfI (l : List It) : Prop := ∀ x ∈ l, I64 x.v.i
def wtI (x : It) : Nat := x.key.length + (V7.encL x.v).length
def wtL (l : List It) : Nat := (l.map wtI).sum
def weightL (l : List It) : Nat := if isL l = true then wtL l else 0
theorem encL_max (a : V7.V) : (V7.encL a).length ≤ 75 := by
  unfold V7.encL
  split
  · simp
  · rename_i hm
    split
    · simp
    · split
      · have := (putL_len (zigN a.i)).2; simp; omega
      · split
        · have h3 : a.s.length ≤ 64 := by
            have h : V7.mayB a = true := by simpa using hm
            simp only [V7.mayB, decide_eq_true_eq] at h
            rcases h with ⟨_, _, h⟩ | ⟨_, _, h⟩ | ⟨_, h⟩ | ⟨_, _, h⟩
            · simp [h]
            · simp [h]
            · simp [h]
            · exact h
          have := V7.textL_len a.s h3
          simp; omega
        · simp
theorem may_key {x : It} (h : mayI x = true) : x.key.length ≤ 24 := by
  unfold mayI isB patB at h
  simp only [Bool.and_eq_true, decide_eq_true_eq] at h
  exact h.1.2.1
theorem may_ver {x : It} (h : mayI x = true) : 0 ≤ x.ver ∧ x.ver ≤ 2147483647 := by
  unfold mayI at h
  simp only [Bool.and_eq_true, decide_eq_true_eq] at h
  exact ⟨h.2.2.2.1, h.2.2.2.2⟩
theorem may_v {x : It} (h : mayI x = true) : V7.mayB x.v = true := by
  unfold mayI at h
  simp only [Bool.and_eq_true, decide_eq_true_eq] at h
  exact h.2.1
theorem wt_succ {l : List It} {j : Nat} (h : j < l.length) : wtL (l.take (j + 1)) = wtL (l.take j) + wtI l[j] := by
  unfold wtL; rw [List.take_add_one, List.getElem?_eq_getElem h, List.map_append, List.sum_append]; simp
/-- 'b = append(b, v...)' of bytes, a block of another's stays. -/
theorem wpList_app_rdb {P : Program} {ops : Array Oper} {rest : List Oper} {o : Oper} {a : Act} {Q : Exit → Act → World → Prop} {w : World} (w0 : World) (hgd : o.guard = none) (s x : Operand) (t : TypeId)
    (ho : o.op = .call { callee := .builtin .append, args := #[s, x], argTypes := #[t, t] })
    (base : Nat) (e : TypeId) (i : TypeInfo) (z : Value) (bytes : Nat) (ht : P.underlying t = some (.slice e)) (hi : P.info? e = some i) (hz : i.zero = some z)
    (hsize : i.size = 1) (hby : i.bytes = bytes) (hzs : z.cells.size = 1)
    (v : Value) (n : Nat) (xs : List Value) (hs : a.eval s = v) (hown : w.ownsRow base e 1 v n xs) (vx : Value) (l : List UInt8) (hx : a.eval x = vx) (hr : Rd w vx l)
    (h63 : n + l.length ≤ maxLen) (hbytes : (n + l.length) * bytes ≤ 140737488355328) (hbase : base ≤ w0.heap.size) (hb : Below base w0 w) (B : Nat) (o' : Obj) (hbx : w.heap[B]? = some o') (hbn : v.ownBlock ≠ some B)
    (hK : ∀ v' w', w'.ownsRow base e 1 v' (n + l.length) (xs ++ l.map bv) → Below base w0 w' → w'.heap[B]? = some o' → v'.ownBlock ≠ some B → wpList P ops Q rest (a.put o.dst v') w') :
    wpList P ops Q (o :: rest) a w := by
  obtain ⟨ao, cap, rfl, h2, h3, h4, h5⟩ := hr
  have hb1 : base ≤ w.heap.size := Nat.le_trans hbase hb.size
  cases ao with
  | none =>
    have h6 := h4 rfl
    obtain rfl : l = [] := List.eq_nil_of_length_eq_zero (by omega)
    subst h6
    exact wpList_append_own_none hgd s x t ho base e i 1 ht hi v n xs hs hown hx (hK v w (by simpa using hown) hb hbx hbn)
  | some ad =>
    refine wpList_append_own_at _ hgd s x t ho base e i z 1 bytes ht hi hz hsize hby hzs (by decide) v n xs hs hown ad l.length cap (l.map bv) hx (by simp) ?_ ?_ h63 hbytes hb1 ?_
    · intro j u hj
      have hjl : j < l.length := by have := (List.getElem?_eq_some_iff.1 hj).1; simpa using this
      obtain ⟨b, off, he, _, hc⟩ := h5 (by omega)
      cases he
      rw [Addr.add_lit, hc j hjl]
      simp [hjl] at hj
      simp [hjl, hj]
    · intro u hu
      obtain ⟨b, _, rfl⟩ := List.mem_map.1 hu
      rfl
    · intro v' w' h1 h2 _ h9
      have hlt := lt_of_block hbx
      refine hK v' w' h1 (grown_below hb hbase hown h2) ((h2.block B hlt (fun e => hbn e.symm)).trans hbx) ?_
      rcases h9 with e | e
      · rw [e]; exact hbn
      · rw [e]; intro e'; cases e'; omega
/-- Bytes of one's own are read. -/
theorem own_rd' {w : World} {base : Nat} {e : TypeId} {v : Value} {l : List UInt8} (h : w.ownsRow base e 1 v l.length (l.map bv)) : Rd w v l := by
  rcases h.2 with ⟨h1, h2⟩ | ⟨g, cap, cur, h1, _⟩
  · have : l = [] := List.eq_nil_of_length_eq_zero h2
    subst this; subst h1
    exact rd_nil w
  · subst h1; exact own_rd h
def bytesI (x : It) : List UInt8 := textL x.key ++ (V7.encL x.v ++ putL x.ver.toNat)
def encC (l : List It) : List UInt8 := UInt8.ofNat l.length :: l.flatMap bytesI
theorem bytes_succ {l : List It} {j : Nat} (h : j < l.length) : (l.take (j + 1)).flatMap bytesI = (l.take j).flatMap bytesI ++ bytesI l[j] := by
  rw [List.take_add_one, List.getElem?_eq_getElem h, List.flatMap_append]; simp
theorem bv_of (n : Nat) (h : n < 256) : bv (UInt8.ofNat n) = .int .u8 (n : Int) := by
  unfold bv; rw [UInt8.toNat_ofNat']; congr 1; omega
end Go.Proofs.YtbdfcgffkonbiaaGreatDoor
namespace Go.Proofs.YtbdfcgffkonbiaaGreatDoor
open Go Go.RowKit
set_option linter.unusedVariables false
set_option linter.unusedSimpArgs false
def arr16 (cs : Array Value) : List Value := cs.toList.take 16
theorem arr16_len {cs : Array Value} (h : cs.size = 32) : (arr16 cs).length = 16 := by unfold arr16; rw [List.length_take, Array.length_toList]; omega
theorem arr16_at {cs : Array Value} {k : Nat} (hk : k < 16) : (arr16 cs).toArray[k]? = cs[k]? := by
  unfold arr16; rw [List.getElem?_toArray, List.getElem?_take, if_pos hk, Array.getElem?_toList]
theorem arr16_range {w : World} {B : Nat} {cs : Array Value} {t : TypeId} (q : w.heap[B]? = some (.cells cs t (0, 0))) : w.rangeAt B 0 (arr16 cs) := by
  intro j v hv
  have hj : j < 16 := by
    have := (List.getElem?_eq_some_iff.1 hv).1
    unfold arr16 at this; rw [List.length_take] at this; omega
  rw [Nat.zero_add, block_cell q j, ← arr16_at hj, List.getElem?_toArray]; exact hv
theorem info16 {cs : Array Value} (h : cs.size = 32) : (Tryz.prog.info? 23).map (·.size) = some (arr16 cs).length := by
  rw [arr16_len h]; kernel_rfl
/-- What a function says of the leaves, added up. -/
def sumN (p : List It → Nat) (lv : Nat → List It) (n : Nat) : Nat := ((List.range n).map fun b => p (lv b)).sum
theorem sumN_succ (p : List It → Nat) (lv : Nat → List It) (n : Nat) : sumN p lv (n + 1) = sumN p lv n + p (lv n) := by
  unfold sumN; rw [List.range_succ, List.map_append, List.sum_append]; simp
def sumT (p : List It → Nat) (lv : Nat → List It) (vs : Nat → Int) : Nat := if mayTs lv vs 16 = true then sumN p lv 16 else 0
theorem isT {lv : Nat → List It} {vs : Nat → Int} (h : mayTs lv vs 16 = true) {b : Nat} (hb : b < 16) : isL (lv b) = true := mayT_is (mayTs_at h hb)
open Classical in
noncomputable def itEq (x y : It) : Bool := decide (x = y)
theorem it_ne_yes (x y : It) (h : x ≠ y) (w : World) : (binOp .neq 48 (itV x) (itV y)).run Tryz.prog w = .ok (.bool true) w := by
  obtain ⟨a, ⟨b, c, d⟩, e⟩ := x
  obtain ⟨a', ⟨b', c', d'⟩, e'⟩ := y
  unfold itV
  go_simp
  by_cases h1 : a = a'
  · by_cases h2 : b = b'
    · by_cases h3 : c = c'
      · by_cases h4 : d = d'
        · by_cases h5 : e = e'
          · exact absurd (by rw [h1, h2, h3, h4, h5]) h
          · simp [h1, h2, h3, h4, h5, str_tl]
        · simp [h1, h2, h3, h4, str_tl]
      · simp [h1, h2, h3, str_tl]
    · simp [h1, h2, str_tl]
  · simp [h1, str_tl]
theorem it_guard : Tryz.prog.eqGuardType Tryz.prog.depth 48 = false := by kernel_rfl
theorem it_neq_op (op : Oper) (a : Act) (x y : Operand) (T' : TypeId) (p q : It) (r : Bool) (hr : r = !(itEq p q)) (ho : op.op = .binOp .neq 48 x y T') (hx : a.eval x = itV p) (hy : a.eval y = itV q) (w : World) : (execOp a.eval op).run Tryz.prog w = .ok (.value (.bool r)) w := by
  subst hr
  have h : (binOp .neq 48 (itV p) (itV q)).run Tryz.prog w = .ok (.bool (!(itEq p q))) w := by
    by_cases e : p = q
    · subst e; rw [it_ne_same]; simp [itEq]
    · rw [it_ne_yes p q e]; simp [itEq, e]
  have g := it_guard
  have e : (eqGuard .neq 48 x y (itV p) (itV q)).run Tryz.prog w = .ok () w := by
    unfold itV; exact run_eqGuard_agg (hm := g) ..
  simp only [execOp, ho, hx, hy, Sem.run_bind, e, h, Result.andThen_ok, Sem.run_pure]
end Go.Proofs.YtbdfcgffkonbiaaGreatDoor
namespace Go.Proofs.YtbdfcgffkonbiaaGreatDoor
open Go Go.RowKit
set_option linter.unusedVariables false
set_option linter.unusedSimpArgs false
open Classical in
noncomputable def lsEq (l m : List It) : Bool := decide (l = m)
theorem lsEq_yes {l : List It} : lsEq l l = true := by simp [lsEq]
theorem lsEq_len {l m : List It} (h : l.length ≠ m.length) : lsEq l m = false := by
  simp [lsEq]; intro e; exact h (by rw [e])
theorem lsEq_at {l m : List It} {j : Nat} (h1 : j < l.length) (h2 : j < m.length) (h : l[j] ≠ m[j]) : lsEq l m = false := by
  simp [lsEq]; intro e; subst e; exact h rfl
theorem take_same {l m : List It} {j : Nat} (h1 : j < l.length) (h2 : j < m.length) (h : l.take j = m.take j) (e : l[j] = m[j]) : l.take (j + 1) = m.take (j + 1) := by
  rw [List.take_succ_eq_append_getElem h1, List.take_succ_eq_append_getElem h2, h, e]
theorem int_info10 : (Tryz.prog.info? 3 ).map (fun i => (i.zero, i.size, i.bytes)) = some (some (.int .i64 0), 1, 8) := by kernel_rfl
noncomputable def unlB (lv lv' : Nat → List It) (vs vs' : Nat → Int) (i : Nat) : Bool := (vs i != vs' i) || !lsEq (lv i) (lv' i)
noncomputable def unlL (lv lv' : Nat → List It) (vs vs' : Nat → Int) (n : Nat) : List Nat := (List.range n).filter (unlB lv lv' vs vs')
theorem unlL_succ (lv lv' : Nat → List It) (vs vs' : Nat → Int) (n : Nat) : unlL lv lv' vs vs' (n + 1) = unlL lv lv' vs vs' n ++ (if unlB lv lv' vs vs' n = true then [n] else []) := by
  unfold unlL; rw [List.range_succ, List.filter_append]; simp [List.filter_cons]
theorem unlL_len (lv lv' : Nat → List It) (vs vs' : Nat → Int) (n : Nat) : (unlL lv lv' vs vs' n).length ≤ n := by
  unfold unlL; exact Nat.le_trans (List.length_filter_le _ _) (by simp)
def ivN (n : Nat) : Value := .int .i64 (n : Int)
/-- A call hands back the numbers of a list, in a row of its own, and no error. -/
def OwnN (w : World) (L : List Nat) (e : Ending) (w' : World) : Prop := ∃ v', e = .returned (.tuple #[v', .int .i64 0]) ∧ w'.ownsRow w.heap.size 3 1 v' L.length (L.map ivN) ∧ Below w.heap.size w w'
end Go.Proofs.YtbdfcgffkonbiaaGreatDoor
namespace Go.Proofs.YtbdfcgffkonbiaaGreatDoor
open Go.RowKit
set_option linter.unusedVariables false
/-- What is left: what was there, but for two blocks, is as it was. -/
structure Two (w w' : World) (g b : Nat) : Prop where
  size : w.heap.size ≤ w'.heap.size
  os : w'.os = w.os
  tape : w'.tape = w.tape
  output : w'.output = w.output
  block : ∀ k, k < w.heap.size → k ≠ g → k ≠ b → w'.heap[k]? = w.heap[k]?
theorem Two.refl (w : World) (g b : Nat) : Two w w g b := ⟨Nat.le_refl _, rfl, rfl, rfl, fun _ _ _ _ => rfl⟩
theorem Two.below {w x y : World} {g b : Nat} (h : Two w x g b) (k : Below x.heap.size x y) : Two w y g b :=
  ⟨Nat.le_trans h.size k.size, k.os.trans h.os, k.tape.trans h.tape, k.output.trans h.output, fun i hi h1 h2 => (k.block i (Nat.lt_of_lt_of_le hi h.size)).trans (h.block i hi h1 h2)⟩
theorem Two.grown {w x y : World} {g b : Nat} (h : Two w x g b) (k : x.grownBy y (some g)) : Two w y g b :=
  ⟨Nat.le_trans h.size k.size, k.os.trans h.os, k.tape.trans h.tape, k.output.trans h.output, fun i hi h1 h2 => (k.block i (Nat.lt_of_lt_of_le hi h.size) (by simp; first | exact h1 | exact fun e => h1 e.symm)).trans (h.block i hi h1 h2)⟩
theorem Two.grown2 {w x y : World} {g b : Nat} (h : Two w x g b) (k : x.grownBy y (some b)) : Two w y g b :=
  ⟨Nat.le_trans h.size k.size, k.os.trans h.os, k.tape.trans h.tape, k.output.trans h.output, fun i hi h1 h2 => (k.block i (Nat.lt_of_lt_of_le hi h.size) (by simp; first | exact h2 | exact fun e => h2 e.symm)).trans (h.block i hi h1 h2)⟩
theorem below_grown0 {w w' : World} (k : Below w.heap.size w w') : w.grownBy w' none := ⟨k.os, k.tape, k.output, k.size, fun i hi _ => k.block i hi⟩
section
variable {P : Program} {ops : Array Oper} {Q : Exit → Act → World → Prop} {S : World → Prop}
theorem gs_start {id : Nat} {a : Act} {w : World} (hm : P.follows .mixedOrders = true) (h : wpAnyH P .any ops Q S ops.size (Array.replicate ops.size false) a w.drew) : (Code.region id ops true).wp P Q a w :=
  wp_region_held hm h
theorem gs_take {i : Nat} {oi : Oper} {d : Option Tmp} {v : Value} {fuel : Nat} {listed : Array Bool} {a : Act} {w : World} (hi : ops[i]? = some oi) (hd : oi.dst = d) (hst : stat ops listed i = true)
    (hQ : ∀ c a w, Q (.panic c) (a.put d v) w → Q (.panic c) a w) (hw : Region.wanted oi (yielded ops a.tmps) = true) (hS : S w)
    (hy : ∀ w', S w' → (execOp a.eval oi).run P w' = .ok (.value v) w')
    (h : wpAnyH P .any ops Q S fuel (listed.setIfInBounds i true) (a.put d v) w) : wpAnyH P .any ops Q S (fuel + 1) listed a w := by
  subst hd
  unfold stat at hst
  rw [Bool.and_eq_true, Bool.and_eq_true] at hst
  exact wpAnyH_take hi hst.1.1 hst.1.2 hst.2 hQ (.inl ⟨hw, hy⟩) hS h
theorem gs_run {i : Nat} {oi : Oper} {fuel : Nat} {listed : Array Bool} {a : Act} {w : World} (hi : ops[i]? = some oi) (hr : Region.ready .any ops listed = [i])
    (hw : Region.wanted oi (yielded ops a.tmps) = true)
    (h : ∀ K : Act → World → Prop, (∀ a' w', S w' ∧ wpAnyH P .any ops Q S fuel (listed.setIfInBounds i true) a' w' → K a' w') → oi.wp P a w K Q) : wpAnyH P .any ops Q S (fuel + 1) listed a w := by
  refine wpAnyH_all hr (by simp) ?_
  intro j hj
  rw [List.mem_singleton] at hj
  subst hj
  unfold wpOp
  simp only [hi, hw, if_true]
  exact .inl (h _ (fun a' w' k => k))
theorem gs_run2 {i k : Nat} {oi ok : Oper} {fuel : Nat} {listed : Array Bool} {a : Act} {w : World} (hi : ops[i]? = some oi) (hk : ops[k]? = some ok) (hr : Region.ready .any ops listed = [i, k])
    (hwi : Region.wanted oi (yielded ops a.tmps) = true) (hwk : Region.wanted ok (yielded ops a.tmps) = true)
    (h1 : ∀ K : Act → World → Prop, (∀ a' w', S w' ∧ wpAnyH P .any ops Q S fuel (listed.setIfInBounds i true) a' w' → K a' w') → oi.wp P a w K Q)
    (h2 : ∀ K : Act → World → Prop, (∀ a' w', S w' ∧ wpAnyH P .any ops Q S fuel (listed.setIfInBounds k true) a' w' → K a' w') → ok.wp P a w K Q) : wpAnyH P .any ops Q S (fuel + 1) listed a w := by
  refine wpAnyH_all hr (by simp) ?_
  intro j hj
  rw [List.mem_cons, List.mem_singleton] at hj
  rcases hj with rfl | rfl
  · unfold wpOp
    simp only [hi, hwi, if_true]
    exact .inl (h1 _ (fun a' w' k => k))
  · unfold wpOp
    simp only [hk, hwk, if_true]
    exact .inl (h2 _ (fun a' w' k => k))
theorem gs_done {listed : Array Bool} {fuel : Nat} {a : Act} {w : World} (hr : Region.ready .any ops listed = []) (h : Q .normal a w) : wpAnyH P .any ops Q S fuel listed a w :=
  wpAnyH_done hr h fuel
end
end Go.Proofs.YtbdfcgffkonbiaaGreatDoor
