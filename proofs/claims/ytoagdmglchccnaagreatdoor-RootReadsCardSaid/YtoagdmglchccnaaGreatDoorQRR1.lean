/- Small lemmas of my own on memory that a call makes, and on slices that are read; they speak of no program in particular. -/
import Derived.WalkKit
import Derived.Laws.BytesArg
import Derived.Lib.Hide
import Derived.Laws.AppendOwnNone
namespace Go.Proofs.YtoagdmglchccnaaGreatDoor
open Go.RowKit
set_option linter.unusedVariables false
set_option linter.unusedSimpArgs false

/-- A byte as a value. -/
def bv (b : UInt8) : Value := .int .u8 (b.toNat : Int)
/-- A list of bytes as a string. -/
def str (l : List UInt8) : ByteArray := ⟨l.toArray⟩
theorem str_size (l : List UInt8) : (str l).size = l.length := by simp [str, ByteArray.size]
theorem str_toList (l : List UInt8) : (str l).data.toList = l := by simp [str]
theorem str_of (s : ByteArray) : str s.data.toList = s := by cases s; simp [str]
theorem slice_of_own {w : World} {base : Nat} {e : TypeId} {size : Nat} {v : Value} {n : Nat} {xs : List Value} (h : w.ownsRow base e size v n xs) (hn : 0 < n) :
    ∃ g cap, v = .slice (some ⟨g, 0, none⟩) n cap ∧ n ≤ cap ∧ cap ≤ maxLen := by
  rcases h.2 with ⟨_, h2⟩ | ⟨g, cap, cur, rfl, _, _, h3, h4, _⟩
  · omega
  · exact ⟨g, cap, rfl, h3, h4⟩

theorem grown_below {w0 w w' : World} {base : Nat} {v : Value} {e : TypeId} {size n : Nat} {xs : List Value} (hb : Below base w0 w) (hbase : base ≤ w0.heap.size) (hown : w.ownsRow base e size v n xs) (hg : w.grownBy w' v.ownBlock) : Below base w0 w' :=
  hb.grown hg (Nat.le_trans hbase hb.size) (fun k hk => (hown.lt k hk).1)

/-- 'out = append(out, x)', out the call's own. -/
theorem wpList_app1 {P : Program} {ops : Array Oper} {rest : List Oper} {o : Oper} {a : Act} {Q : Exit → Act → World → Prop} {w : World} (w0 : World) (hgd : o.guard = none) (s x : Operand) (t : TypeId)
    (ho : o.op = .call { callee := .builtin .append, args := #[s, x], argTypes := #[t, t] })
    (base : Nat) (e : TypeId) (i : TypeInfo) (z : Value) (bytes : Nat) (ht : P.underlying t = some (.slice e)) (hi : P.info? e = some i) (hz : i.zero = some z)
    (hsize : i.size = 1) (hby : i.bytes = bytes) (hzs : z.cells.size = 1)
    (v : Value) (n : Nat) (xs : List Value) (hs : a.eval s = v) (hown : w.ownsRow base e 1 v n xs) (e' : TypeId) (y : Value)
    (hx : a.eval x = .slice (some ⟨w.heap.size, 0, none⟩) 1 1) (hy : y.oneCell' = true)
    (h63 : n + 1 ≤ maxLen) (hbytes : (n + 1) * bytes ≤ 140737488355328) (hbase : base ≤ w0.heap.size) (hb : Below base w0 w)
    (hK : ∀ v' w', w'.ownsRow base e 1 v' (n + 1) (xs ++ [y]) → Below base w0 w' → wpList P ops Q rest (a.put o.dst v') w') :
    wpList P ops Q (o :: rest) a (w.alloc (.cells #[y] e')) := by
  have hb1 : base ≤ w.heap.size := Nat.le_trans hbase hb.size
  refine wpList_append_own _ hgd s x t ho base e i z 1 bytes ht hi hz hsize hby hzs (by decide) v n xs hs (hown.alloc _) ⟨w.heap.size, 0, none⟩ 1 1 [y] hx rfl ?_ ?_ h63 hbytes (by simp; omega) ?_
  · intro j u hj
    match j, hj with
    | 0, hj => simp at hj; subst hj; simp [Addr.add]
    | j + 1, hj => simp at hj
  · intro u hu; simp at hu; subst hu; exact hy
  · intro v' w' h1 h2 _
    exact hK v' w' h1 (grown_below (hb.alloc hb1 _) hbase (hown.alloc _) h2)

/-- What is read: a slice value of n bytes, whatever it leads to. -/
def Rd (w : World) (v : Value) (l : List UInt8) : Prop :=
  ∃ ao cap, v = .slice ao l.length cap ∧ l.length ≤ cap ∧ cap ≤ maxLen ∧ (ao = none → cap = 0) ∧
    (0 < l.length → ∃ b off, ao = some ⟨b, off, none⟩ ∧ b < w.heap.size ∧ ∀ i, i < l.length → w.cell? ⟨b, off + i, none⟩ = some (bv (l.getD i 0)))

theorem own_rd {w : World} {base : Nat} {e : TypeId} {g n cap : Nat} {l : List UInt8} (h : w.ownsRow base e 1 (.slice (some ⟨g, 0, none⟩) n cap) n (l.map bv)) : Rd w (.slice (some ⟨g, 0, none⟩) n cap) l := by
  have hl : n = l.length := by have := h.1; simpa using this.symm
  have hlt := h.lt g rfl
  have hc : n ≤ cap ∧ cap ≤ maxLen := by
    rcases h.2 with ⟨h1, _⟩ | ⟨g', cap', cur, h1, _, _, h2, h3, _⟩
    · cases h1
    · cases h1; exact ⟨h2, h3⟩
  subst hl
  refine ⟨_, cap, rfl, hc.1, hc.2, by simp, ?_⟩
  intro _
  refine ⟨g, 0, rfl, hlt.2, ?_⟩
  intro i hi
  rw [Nat.zero_add, h.cellAt i (by simpa using hi)]
  simp [hi]

theorem Rd.below {w w' : World} {v : Value} {l : List UInt8} (h : Rd w v l) {B : Nat} (hb : Below B w w') (hB : w.heap.size ≤ B) : Rd w' v l := by
  obtain ⟨ao, cap, h1, h2, h3, h4, h5⟩ := h
  refine ⟨ao, cap, h1, h2, h3, h4, ?_⟩
  intro hl
  obtain ⟨b, off, h6, h7, h8⟩ := h5 hl
  exact ⟨b, off, h6, Nat.lt_of_lt_of_le h7 hb.size, fun i hi => (hb.cell (p := ⟨b, off + i, none⟩) (Nat.lt_of_lt_of_le h7 hB)).trans (h8 i hi)⟩

theorem rd_nil (w : World) : Rd w (.slice none 0 0) [] := ⟨none, 0, rfl, by simp, by decide, by simp, by simp⟩

theorem bytes_nums (l : List UInt8) : strOfNums (l.map fun b => (b.toNat : Int)) = str l := by
  simp [strOfNums, str, Function.comp_def]

/-- 'string(b)'. -/
theorem conv_rd {P : Program} {w : World} {v : Value} {l : List UInt8} (h : Rd w v l) (src e dst : TypeId) (hs : P.underlying src = some (.slice e)) (he : P.underlying e = some (.int .u8)) (hd : P.underlying dst = some .string) :
    (convert src dst v).run P w = .ok (.string (str l)) w := by
  obtain ⟨ao, cap, rfl, h2, h3, h4, h5⟩ := h
  by_cases h0 : 0 < l.length
  · obtain ⟨b, off, rfl, _, h8⟩ := h5 h0
    rw [← bytes_nums]
    refine run_convert_bytes_arg w src e hs he b off l.length cap (l.map fun b => (b.toNat : Int)) (by simp) ?_ dst hd
    intro i hi
    rw [h8 i hi]
    simp [bv, hi]
  · obtain rfl : l = [] := List.eq_nil_of_length_eq_zero (by omega)
    cases ao with
    | none => rw [run_convert_bytes_nil w src e hs he _ _ dst hd]; rfl
    | some x =>
      have hl : (loadCells x 0).run P w = .ok (([] : List Int).map (Value.int .u8)).toArray w := by
        simpa using run_loadCells_list (P := P) w x [] (by simp)
      rw [run_convert_bytes_string w src dst e _ _ cap hs he hd]
      have := run_bytesToString w x 0 cap [] hl
      exact this
/-- A cut of what is read. -/
theorem rd_sliced {w : World} {ao : Option Addr} {n cap : Nat} {l : List UInt8} (h : Rd w (.slice ao n cap) l) (i j : Nat) (hij : i ≤ j) (hj : j ≤ n) :
    Rd w (.slice (if cap = i then ao else ao.map (·.add (i * 1))) (j - i) (cap - i)) ((l.drop i).take (j - i)) := by
  obtain ⟨ao', cap', he, h2, h3, h4, h5⟩ := h
  cases he
  have hlen : ((l.drop i).take (j - i)).length = j - i := by simp; omega
  refine ⟨_, cap - i, by rw [hlen], by rw [hlen]; omega, by omega, ?_, ?_⟩
  · intro hn
    split at hn
    · rename_i hc; omega
    · have : ao = none := by simpa using hn
      have := h4 this
      omega
  · intro h0
    rw [hlen] at h0 ⊢
    obtain ⟨b, off, rfl, hb, hc⟩ := h5 (by omega)
    have hne : ¬ cap = i := by omega
    refine ⟨b, off + i, by simp [hne, Addr.add], hb, ?_⟩
    intro k hk
    rw [Nat.add_assoc, hc (i + k) (by omega)]
    congr 2
    simp [List.getD, hk]
/-- 'b[i:j]' of bytes that are read, none of it behind their end. -/
theorem wpList_slice_rd {P : Program} {ops : Array Oper} {rest : List Oper} {o : Oper} {a : Act} {Q : Exit → Act → World → Prop} {w : World} (hgd : o.guard = none) (T e : TypeId) (s x y : Operand)
    (ho : o.op = .slice T s (some x) (some y) none) (ti : TypeInfo) (ht : P.underlying T = some (.slice e)) (hi : P.info? e = some ti) (hz : ti.size = 1)
    (ao : Option Addr) (n cap : Nat) (l : List UInt8) (hs : a.eval s = .slice ao n cap) (hr : Rd w (.slice ao n cap) l) (kx ky : IntKind) (X Y : Int) (hx : a.eval x = .int kx X) (hy : a.eval y = .int ky Y)
    (i m : Nat) (h0 : X = (i : Int)) (h1 : Y = ((i + m : Nat) : Int)) (h2 : i + m ≤ n)
    (hK : ∀ ao' cap', Rd w (.slice ao' m cap') ((l.drop i).take m) → wpList P ops Q rest (a.put o.dst (.slice ao' m cap')) w) :
    wpList P ops Q (o :: rest) a w := by
  have h0' : 0 ≤ X := by omega
  have h1' : X ≤ Y := by omega
  have h2' : Y ≤ n := by omega
  have e1 : X.toNat = i := by omega
  have e2 : Y.toNat - X.toNat = m := by omega
  rw [← e1, ← e2] at hK
  refine wpList_plain hgd fun K hK' => ?_
  have hnc : n ≤ cap := by obtain ⟨_, _, he, h3, _⟩ := hr; cases he; exact h3
  have hrs := rd_sliced hr X.toNat Y.toNat (by omega) (by omega)
  unfold Oper.wp
  simp [execOp, ho, hs, hx, hy, Instr.sliceAt, Instr.slice, run_underlying ht, Instr.sliceBounds, Instr.sliceBound, asIntOf, h0', (by omega : 0 ≤ Y), (by omega : Y ≤ (cap : Int)), (by omega : X ≤ ((Y.toNat : Nat) : Int)), (by omega : X ≤ max Y 0), sizeOf, typeInfo, hi, hz, Result.andThen]
  rw [Nat.mul_one] at hrs
  exact hK' _ _ (hK _ _ hrs)
/-- 'out = append(out, b...)', out the call's own, b bytes that are read. -/
theorem wpList_app_rd {P : Program} {ops : Array Oper} {rest : List Oper} {o : Oper} {a : Act} {Q : Exit → Act → World → Prop} {w : World} (w0 : World) (hgd : o.guard = none) (s x : Operand) (t : TypeId)
    (ho : o.op = .call { callee := .builtin .append, args := #[s, x], argTypes := #[t, t] })
    (base : Nat) (e : TypeId) (i : TypeInfo) (z : Value) (bytes : Nat) (ht : P.underlying t = some (.slice e)) (hi : P.info? e = some i) (hz : i.zero = some z)
    (hsize : i.size = 1) (hby : i.bytes = bytes) (hzs : z.cells.size = 1)
    (v : Value) (n : Nat) (xs : List Value) (hs : a.eval s = v) (hown : w.ownsRow base e 1 v n xs) (vx : Value) (l : List UInt8) (hx : a.eval x = vx) (hr : Rd w vx l)
    (h63 : n + l.length ≤ maxLen) (hbytes : (n + l.length) * bytes ≤ 140737488355328) (hbase : base ≤ w0.heap.size) (hb : Below base w0 w)
    (hK : ∀ v' w', w'.ownsRow base e 1 v' (n + l.length) (xs ++ l.map bv) → Below base w0 w' → wpList P ops Q rest (a.put o.dst v') w') :
    wpList P ops Q (o :: rest) a w := by
  obtain ⟨ao, cap, rfl, h2, h3, h4, h5⟩ := hr
  have hb1 : base ≤ w.heap.size := Nat.le_trans hbase hb.size
  cases ao with
  | none =>
    have h6 := h4 rfl
    obtain rfl : l = [] := List.eq_nil_of_length_eq_zero (by omega)
    subst h6
    exact wpList_append_own_none hgd s x t ho base e i 1 ht hi v n xs hs hown hx (hK v w (by simpa using hown) hb)
  | some ad =>
    refine wpList_append_own _ hgd s x t ho base e i z 1 bytes ht hi hz hsize hby hzs (by decide) v n xs hs hown ad l.length cap (l.map bv) hx (by simp) ?_ ?_ h63 hbytes hb1 ?_
    · intro j u hj
      have hjl : j < l.length := by have := (List.getElem?_eq_some_iff.1 hj).1; simpa using this
      obtain ⟨b, off, he, _, hc⟩ := h5 (by omega)
      cases he
      rw [Addr.add_lit, hc j hjl]
      simp [hjl] at hj
      simp [hjl, hj]
    · intro u hu
      obtain ⟨b, _, rfl⟩ := List.mem_map.1 hu
      rfl
    · intro v' w' h1 h2 _
      exact hK v' w' h1 (grown_below hb hbase hown h2)
end Go.Proofs.YtoagdmglchccnaaGreatDoor
