/- Stores: what is read of one, and whether one may be: mathematics. -/
/- A struct of many cells out of the middle of a block, and into it. It speaks of no program in particular. -/
import Derived.Test.YtbdfcgffkonbiaaDoorQST23
import Derived.Test.YtbdfcgffkonbiaaDoorQST2
import Derived.Deep.MidRow
namespace Go.Proofs.YtbdfcgffkonbiaaDoor
open Go Go.RowKit
set_option linter.unusedVariables false
set_option linter.unusedSimpArgs false
/-- A store. -/
structure St where
  lv : Nat → List It
  vs : Nat → Int
  ver : Int
  by_ : Int
  ke : Int
/-- The cells of a store's trunk. -/
def tC (cs : Array Value) : Array Value := (cs.toList.take 32).toArray
/-- The cells of a store. -/
structure RdS (w : World) (cs : Array Value) (s : St) : Prop where
  size : cs.size = 35
  tr : RdT w (tC cs) s.lv s.vs
  ver : cs[32]? = some (.int .i64 s.ver)
  by_ : cs[33]? = some (.int .i64 s.by_)
  ke : cs[34]? = some (.int .i64 s.ke)
theorem RdS.below {w w' : World} {cs : Array Value} {s : St} (h : RdS w cs s) {B : Nat} (g : Below B w w') (hB : w.heap.size ≤ B) : RdS w' cs s :=
  ⟨h.size, h.tr.below g hB, h.ver, h.by_, h.ke⟩
theorem tC_size {cs : Array Value} (h : cs.size = 35) : (tC cs).size = 32 := by
  obtain ⟨l⟩ := cs
  simp only [List.size_toArray] at h
  simp [tC, h]
theorem tC_at {cs : Array Value} {i : Nat} (hi : i < 32) : (tC cs)[i]? = cs[i]? := by
  obtain ⟨l⟩ := cs
  simp [tC, List.getElem?_take, hi]
theorem tC_range {w : World} {B : Nat} {cs : Array Value} {t : TypeId} (q : w.heap[B]? = some (.cells cs t (0, 0))) : w.rangeAt B 0 (tC cs).toList := fun j v hv => by
  have hj : j < 32 := by
    have := (List.getElem?_eq_some_iff.1 hv).1
    simp [tC] at this; omega
  rw [Nat.zero_add, block_cell q j, ← tC_at hj]
  simpa using hv
/-- Is a number from 0 to most? -/
def rngB (n m : Int) : Bool := decide (0 ≤ n) && decide (n ≤ m)
/-- Is no version of the first k buckets beyond the store's? -/
def versB (vs : Nat → Int) (ver : Int) (k : Nat) : Bool := (List.range k).all fun b => decide (vs b ≤ ver)
theorem versB_succ (vs : Nat → Int) (ver : Int) (k : Nat) : versB vs ver (k + 1) = (versB vs ver k && decide (vs k ≤ ver)) := by
  unfold versB; rw [List.range_succ, List.all_append]; simp
theorem versB_no {vs : Nat → Int} {ver : Int} {k n : Nat} (hk : k < n) (h : ¬ vs k ≤ ver) : versB vs ver n = false := by
  unfold versB; rw [List.all_eq_false]; exact ⟨k, List.mem_range.2 hk, by simp [h]⟩
/-- Are the items within the quotas? -/
def fitsB (s : St) : Bool := decide ((sumT weightL s.lv s.vs : Int) ≤ s.by_) && decide ((sumT List.length s.lv s.vs : Int) ≤ s.ke)
/-- May a store be? -/
def mayS (s : St) : Bool := rngB s.ver 2147483647 && rngB s.by_ 65536 && rngB s.ke 1024 && versB s.vs s.ver 16 && mayTs s.lv s.vs 16 && fitsB s
theorem mayS_t {s : St} (h : mayS s = true) : mayTs s.lv s.vs 16 = true := by
  unfold mayS at h; simp only [Bool.and_eq_true] at h; exact h.1.2
theorem sumT_wt {lv : Nat → List It} {vs : Nat → Int} (h : mayTs lv vs 16 = true) : sumT weightL lv vs = wtL (allN lv 16) := by
  unfold sumT; rw [if_pos h]; exact sum_wt 16 (fun b hb => isT h hb)
theorem sumT_len {lv : Nat → List It} {vs : Nat → Int} (h : mayTs lv vs 16 = true) : sumT List.length lv vs = (allN lv 16).length := by
  unfold sumT; rw [if_pos h]; exact sum_len lv 16
theorem info35 : (Tryd.prog.info? 28).map (·.size) = some 35 := by kernel_rfl
theorem infoS {cs : Array Value} (h : cs.size = 35) : (Tryd.prog.info? 28).map (·.size) = some cs.size := by rw [h]; exact info35
theorem RdS.one {w : World} {cs : Array Value} {s : St} (h : RdS w cs s) : ∀ u ∈ cs.toList, u.oneCell' = true := by
  intro u hu
  obtain ⟨i, hi, rfl⟩ := List.getElem_of_mem hu
  rw [Array.length_toList, h.size] at hi
  rw [Array.getElem_toList]
  have ht := h.tr.one
  rcases (by omega : i < 32 ∨ i = 32 ∨ i = 33 ∨ i = 34) with h1 | rfl | rfl | rfl
  · have hz := tC_size h.size
    have e : (tC cs)[i]'(by omega) = cs[i]'(by rw [h.size]; omega) := by
      have := tC_at (cs := cs) h1
      rw [Array.getElem?_eq_getElem (by omega), Array.getElem?_eq_getElem (by rw [h.size]; omega)] at this
      exact Option.some.inj this
    rw [← e]
    exact (Array.all_eq_true_iff_forall_mem.1 ht) _ (Array.getElem_mem _)
  · have := h.ver; rw [Array.getElem?_eq_getElem (by rw [h.size]; omega)] at this; rw [Option.some.inj this]; rfl
  · have := h.by_; rw [Array.getElem?_eq_getElem (by rw [h.size]; omega)] at this; rw [Option.some.inj this]; rfl
  · have := h.ke; rw [Array.getElem?_eq_getElem (by rw [h.size]; omega)] at this; rw [Option.some.inj this]; rfl
end Go.Proofs.YtbdfcgffkonbiaaDoor
namespace Go.Proofs.YtbdfcgffkonbiaaDoor
open Go Go.RowKit
set_option linter.unusedVariables false
section
variable {P : Program} {ops : Array Oper} {rest : List Oper} {o : Oper} {a : Act} {w : World} {Q : Exit → Act → World → Prop}
theorem wpList_load_part (hgd : o.guard = none) (ty : TypeId) (x : Operand) (ho : o.op = .load ty x) (g off : Nat) (hx : a.eval x = .pointer (some ⟨g, off, none⟩))
    (cs : Array Value) (d : TypeDesc) (hc : w.rangeAt g off cs.toList) (hu : P.underlying ty = some d) (hd : d.isRow = true) (hi : (P.info? ty).map (·.size) = some cs.size)
    (h : wpList P ops Q rest (a.put o.dst (.agg cs)) w) : wpList P ops Q (o :: rest) a w :=
  wpList_load_mid hgd ty x ho g off hx cs.toList d hc hu hd (by simpa using hi) (by rwa [Array.toArray_toList])
theorem wpList_load_part_g (hw : Region.wanted o (yielded ops a.tmps) = true) (ty : TypeId) (x : Operand) (ho : o.op = .load ty x) (g off : Nat) (hx : a.eval x = .pointer (some ⟨g, off, none⟩))
    (cs : Array Value) (d : TypeDesc) (hc : w.rangeAt g off cs.toList) (hu : P.underlying ty = some d) (hd : d.isRow = true) (hi : (P.info? ty).map (·.size) = some cs.size)
    (h : wpList P ops Q rest (a.put o.dst (.agg cs)) w) : wpList P ops Q (o :: rest) a w := by
  simp only [wpList, hw, if_true]
  refine .inl (wp_load_mid ty x ho g off hx cs.toList d hc hu hd (by simpa using hi) ?_)
  rwa [Array.toArray_toList]
theorem load_partO_op (op : Oper) (a : Act) (x : Operand) {ty : TypeId} {g off : Nat} {cs : Array Value} {d : TypeDesc} {w : World} (ho : op.op = .load ty x) (hx : a.eval x = .pointer (some ⟨g, off, none⟩)) (hc : w.rangeAt g off cs.toList)
    (hu : P.underlying ty = some d) (hd : d.isRow = true) (hi : (P.info? ty).map (·.size) = some cs.size) : (execOp a.eval op).run P w = .ok (.value (.agg cs)) w := by
  have h := run_loadVar_mid (P := P) w g off ty cs.toList d hc hu hd (by simpa using hi)
  rw [Array.toArray_toList] at h
  unfold execOp
  simp only [ho, hx, Instr.loadAt, Instr.sureAddr, Sem.run_bind, Sem.run_pure, Result.andThen_ok, h]
/-- A part of a block's cells. -/
def subA (cs : Array Value) (off n : Nat) : Array Value := ((cs.toList.drop off).take n).toArray
theorem subA_size {cs : Array Value} {off n : Nat} (h : off + n ≤ cs.size) : (subA cs off n).size = n := by
  simp [subA]; omega
theorem subA_at {cs : Array Value} {off n i : Nat} (hi : i < n) : (subA cs off n)[i]? = cs[off + i]? := by
  simp [subA, hi]
theorem subA_range {cs : Array Value} {off n g : Nat} {t : TypeId} {fr : Nat × Nat} (h : w.heap[g]? = some (.cells cs t fr)) : w.rangeAt g off (subA cs off n).toList := fun j v hv => by
  have hj : j < n := by
    have := (List.getElem?_eq_some_iff.1 hv).1
    simp [subA] at this; omega
  rw [cell_of_row w g (off + j) cs t fr h, ← subA_at hj]
  simpa using hv
/-- Cells with others from a place on. -/
def putA : Array Value → Nat → List Value → Array Value
  | cs, _, [] => cs
  | cs, o, v :: r => putA (cs.setIfInBounds o v) (o + 1) r
theorem putA_size : ∀ (vs : List Value) (o : Nat) (cs : Array Value), (putA cs o vs).size = cs.size
  | [], _, _ => rfl
  | v :: r, o, cs => by rw [putA, putA_size r]; simp
theorem putA_out : ∀ (vs : List Value) (o : Nat) (cs : Array Value) (i : Nat), (i < o ∨ o + vs.length ≤ i) → (putA cs o vs)[i]? = cs[i]?
  | [], _, _, _, _ => rfl
  | v :: r, o, cs, i, h => by
    rw [List.length_cons] at h
    rw [putA, putA_out r (o + 1) _ i (by omega), Array.getElem?_setIfInBounds_ne (by omega)]
theorem putA_in : ∀ (vs : List Value) (o : Nat) (cs : Array Value) (j : Nat), o + vs.length ≤ cs.size → j < vs.length → (putA cs o vs)[o + j]? = vs[j]?
  | v :: r, o, cs, 0, h, _ => by
    rw [List.length_cons] at h
    show (putA (cs.setIfInBounds o v) (o + 1) r)[o]? = some v
    rw [putA_out r (o + 1) _ o (by omega), Array.getElem?_setIfInBounds_self_of_lt (by omega)]
  | v :: r, o, cs, j + 1, h, hj => by
    rw [List.length_cons] at h hj
    rw [putA, show o + (j + 1) = (o + 1) + j by omega, putA_in r (o + 1) _ j (by simp; omega) (by omega)]; rfl
theorem sets_row {g : Nat} {t : TypeId} : ∀ (vs : List Value) (o : Nat) (w : World) (cs : Array Value), w.heap[g]? = some (.cells cs t (0, 0)) → (w.setCells g o vs).heap[g]? = some (.cells (putA cs o vs) t (0, 0))
  | [], _, _, _, h => h
  | v :: r, o, w, cs, h => by
    rw [World.setCells, putA]
    exact sets_row r (o + 1) _ _ (set_at h)
theorem sets_other {g k : Nat} (hk : k ≠ g) : ∀ (vs : List Value) (o : Nat) (w : World), (w.setCells g o vs).heap[k]? = w.heap[k]?
  | [], _, _ => rfl
  | v :: r, o, w => by
    rw [World.setCells, sets_other hk r (o + 1), heap_setCell_other _ _ _ _ (by show k ≠ g; exact hk)]
theorem sets_below {B g : Nat} {w0 : World} (hB : B ≤ g) : ∀ (vs : List Value) (o : Nat) (w : World), Below B w0 w → Below B w0 (w.setCells g o vs)
  | [], _, _, h => h
  | v :: r, o, w, h => by
    rw [World.setCells]
    exact sets_below hB r (o + 1) _ (h.setCell (p := ⟨g, o, none⟩) hB v)
theorem there_of {w : World} {g o n : Nat} {cs : Array Value} {t : TypeId} (h : w.heap[g]? = some (.cells cs t (0, 0))) (hn : o + n ≤ cs.size) : w.there g o n := fun j hj => by
  refine ⟨?_, block_frozen h _⟩
  rw [block_cell h, Array.getElem?_eq_getElem (by omega)]; rfl
end
end Go.Proofs.YtbdfcgffkonbiaaDoor
