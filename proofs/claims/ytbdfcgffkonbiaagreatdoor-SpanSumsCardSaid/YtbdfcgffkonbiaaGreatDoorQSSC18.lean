/- Trunks: their mathematics. Which bucket a key has, what a change keeps. -/
/- Trunks: structs of 32 cells that are loaded, stored, handed back whole; Get. Written by wip/tools/gen10c.py. -/
/- Trunks: with, whose change makes a new leaf. Written by wip/tools/gen10d.py. -/
/- Trunks: Put, Delete. Written by wip/tools/gen10e.py. -/
/- Trunks: Put and Delete. Written by wip/tools/gen10f.py. -/
import Derived.Test.YtbdfcgffkonbiaaGreatDoorQSSC17
import Derived.Test.YtbdfcgffkonbiaaGreatDoorQSSC14
import Derived.Deep.MidRow
namespace Go.Proofs.YtbdfcgffkonbiaaGreatDoor
open Go Go.RowKit
set_option linter.unusedVariables false
set_option linter.unusedSimpArgs false
/-- A key's bucket. -/
def bkN (k : List UInt8) : Nat := (k.getD 0 0).toNat % 16
theorem bkN_lt (k : List UInt8) : bkN k < 16 := Nat.mod_lt _ (by decide)
theorem bk_is {k : List UInt8} (h : isB k = true) : bk k = ((bkN k : Nat) : Int) := by unfold bk; rw [if_pos h]; rfl
theorem bk_no {k : List UInt8} (h : isB k = false) : bk k = -1 := by unfold bk; rw [h, if_neg (by simp)]
theorem mayTs_at {lv : Nat → List It} {vs : Nat → Int} {n : Nat} (h : mayTs lv vs n = true) {b : Nat} (hb : b < n) : mayT (b : Int) (lv b) (vs b) = true := by
  unfold mayTs at h; rw [List.all_eq_true] at h; exact h b (List.mem_range.2 hb)
theorem mayTs_mk {lv : Nat → List It} {vs : Nat → Int} {n : Nat} (h : ∀ b, b < n → mayT (b : Int) (lv b) (vs b) = true) : mayTs lv vs n = true := by
  unfold mayTs; rw [List.all_eq_true]; exact fun b hb => h b (List.mem_range.1 hb)
theorem mayT_is {b v : Int} {l : List It} (h : mayT b l v = true) : isL l = true := by
  unfold mayT at h; simp only [Bool.and_eq_true] at h; exact h.1.1
theorem mayT_ver {b v : Int} {l : List It} (h : mayT b l v = true) : verB v = true := by
  unfold mayT at h; simp only [Bool.and_eq_true] at h; exact h.1.2
theorem verB_iff {n : Int} : verB n = true ↔ (0 ≤ n ∧ n ≤ 2147483647) := by unfold verB; simp
theorem mayT_mem {b v : Int} {l : List It} (h : mayT b l v = true) {x : It} (hx : x ∈ l) : bk x.key = b ∧ x.ver ≤ v := by
  unfold mayT at h; simp only [Bool.and_eq_true, Bool.not_eq_true'] at h
  have h2 := h.2
  rw [List.any_eq_false] at h2
  have h3 := h2 x hx
  unfold badI at h3
  simp only [Bool.or_eq_true, bne_iff_ne, decide_eq_true_eq, not_or, Decidable.not_not, Int.not_lt] at h3
  exact ⟨h3.1, h3.2⟩
theorem mayT_mk {b v : Int} {l : List It} (h1 : isL l = true) (h2 : verB v = true) (h3 : ∀ x ∈ l, bk x.key = b ∧ x.ver ≤ v) : mayT b l v = true := by
  unfold mayT
  rw [h1, h2, Bool.true_and, Bool.true_and, Bool.not_eq_true', List.any_eq_false]
  intro x hx
  unfold badI
  simp only [Bool.or_eq_true, bne_iff_ne, decide_eq_true_eq, not_or, Decidable.not_not, Int.not_lt]
  exact h3 x hx
/-- A function with another value at one place. -/
def upd {α : Type} (f : Nat → α) (b : Nat) (x : α) : Nat → α := fun i => if i = b then x else f i
theorem upd_at {α : Type} (f : Nat → α) (b : Nat) (x : α) : upd f b x b = x := if_pos rfl
theorem upd_ne {α : Type} (f : Nat → α) {b i : Nat} (x : α) (h : i ≠ b) : upd f b x i = f i := if_neg h
theorem mayTs_upd {lv : Nat → List It} {vs : Nat → Int} {n b : Nat} {l : List It} {v : Int} (h : mayTs lv vs n = true) (hl : mayT (b : Int) l v = true) : mayTs (upd lv b l) (upd vs b v) n = true := by
  refine mayTs_mk fun i hi => ?_
  by_cases hb : i = b
  · subst hb; rw [upd_at, upd_at]; exact hl
  · rw [upd_ne _ _ hb, upd_ne _ _ hb]; exact mayTs_at h hi
theorem put_mayT {b v : Int} {l : List It} {x : It} (h : mayT b l v = true) (hp : putE l x = 0) (hb : bk x.key = b) (hv : v ≤ x.ver) : mayT b (withL l x) x.ver = true := by
  have hm := (putE_zero hp).2.1
  have hver : verB x.ver = true := by
    unfold mayI at hm
    simp only [Bool.and_eq_true, decide_eq_true_eq] at hm
    exact verB_iff.2 ⟨hm.2.2.2.1, hm.2.2.2.2⟩
  refine mayT_mk (with_is hp) hver fun y hy => ?_
  rcases with_mem.1 hy with ⟨h1, _⟩ | rfl | ⟨h1, _⟩
  · exact ⟨(mayT_mem h h1).1, Int.le_trans (mayT_mem h h1).2 hv⟩
  · exact ⟨hb, Int.le_refl _⟩
  · exact ⟨(mayT_mem h h1).1, Int.le_trans (mayT_mem h h1).2 hv⟩
theorem del_mayT {b v ver : Int} {l : List It} {k : List UInt8} (h : mayT b l v = true) (hp : delE l k = 0) (hv : v ≤ ver) (hr : verB ver = true) : mayT b (withoutL l k) ver = true := by
  refine mayT_mk (without_is hp) hr fun y hy => ?_
  have h1 : y ∈ l := (List.mem_filter.1 hy).1
  exact ⟨(mayT_mem h h1).1, Int.le_trans (mayT_mem h h1).2 hv⟩
/-- What is got of a trunk. -/
def gTI (lv : Nat → List It) (k : List UInt8) : It := if isB k = true then gI (lv (bkN k)) k else zI
def gTB (lv : Nat → List It) (k : List UInt8) : Bool := isB k && gB (lv (bkN k)) k
/-- No other bucket of a trunk has a key. -/
theorem other_none {lv : Nat → List It} {vs : Nat → Int} (h : mayTs lv vs 16 = true) {k : List UInt8} {b : Nat} (hb : b < 16) (hk : bk k ≠ (b : Int)) : ∀ x ∈ lv b, x.key ≠ k := by
  rintro x hx rfl
  exact hk (mayT_mem (mayTs_at h hb) hx).1
theorem RdT.put {w : World} {cs : Array Value} {lv : Nat → List It} {vs : Nat → Int} (h : RdT w cs lv vs) {b : Nat} (hb : b < 16) {u : Value} {l : List It} {v : Int} (hu : RdI w u l) :
    RdT w ((cs.setIfInBounds b u).setIfInBounds (16 + b) (.int .i64 v)) (upd lv b l) (upd vs b v) := by
  have hs := h.size
  refine ⟨by simp [hs], fun i hi => ?_, fun i hi => ?_⟩
  · rw [Array.getElem?_setIfInBounds_ne (by omega)]
    by_cases hib : i = b
    · subst hib
      exact ⟨u, by rw [Array.getElem?_setIfInBounds_self_of_lt (by omega)], by rw [upd_at]; exact hu⟩
    · rw [Array.getElem?_setIfInBounds_ne (by omega), upd_ne _ _ hib]
      exact h.leaf i hi
  · by_cases hib : i = b
    · subst hib
      rw [Array.getElem?_setIfInBounds_self_of_lt (by simp; omega), upd_at]
    · rw [Array.getElem?_setIfInBounds_ne (by omega), Array.getElem?_setIfInBounds_ne (by omega), upd_ne _ _ hib]
      exact h.ver i hi
/-- The empty trunk's cells. -/
def zT : Array Value := #[.slice none 0 0, .slice none 0 0, .slice none 0 0, .slice none 0 0, .slice none 0 0, .slice none 0 0, .slice none 0 0, .slice none 0 0, .slice none 0 0, .slice none 0 0, .slice none 0 0, .slice none 0 0, .slice none 0 0, .slice none 0 0, .slice none 0 0, .slice none 0 0, .int .i64 0, .int .i64 0, .int .i64 0, .int .i64 0, .int .i64 0, .int .i64 0, .int .i64 0, .int .i64 0, .int .i64 0, .int .i64 0, .int .i64 0, .int .i64 0, .int .i64 0, .int .i64 0, .int .i64 0, .int .i64 0]
theorem rdt_zero (w : World) : RdT w zT (fun _ => []) (fun _ => 0) := by
  refine ⟨rfl, fun b hb => ⟨.slice none 0 0, ?_, rdk_nil w⟩, fun b hb => ?_⟩
  · have : b = 0 ∨ b = 1 ∨ b = 2 ∨ b = 3 ∨ b = 4 ∨ b = 5 ∨ b = 6 ∨ b = 7 ∨ b = 8 ∨ b = 9 ∨ b = 10 ∨ b = 11 ∨ b = 12 ∨ b = 13 ∨ b = 14 ∨ b = 15 := by omega
    rcases this with rfl | rfl | rfl | rfl | rfl | rfl | rfl | rfl | rfl | rfl | rfl | rfl | rfl | rfl | rfl | rfl <;> rfl
  · have : b = 0 ∨ b = 1 ∨ b = 2 ∨ b = 3 ∨ b = 4 ∨ b = 5 ∨ b = 6 ∨ b = 7 ∨ b = 8 ∨ b = 9 ∨ b = 10 ∨ b = 11 ∨ b = 12 ∨ b = 13 ∨ b = 14 ∨ b = 15 := by omega
    rcases this with rfl | rfl | rfl | rfl | rfl | rfl | rfl | rfl | rfl | rfl | rfl | rfl | rfl | rfl | rfl | rfl <;> rfl
/-- What comes of putting into a trunk: the error. -/
def putTE (lv : Nat → List It) (vs : Nat → Int) (x : It) : Nat := if mayTs lv vs 16 = true ∧ isB x.key = true then (if putE (lv (bkN x.key)) x ≠ 1 ∧ x.ver < vs (bkN x.key) then 18 else putE (lv (bkN x.key)) x) else 1
/-- Likewise of deleting. -/
def delTE (lv : Nat → List It) (vs : Nat → Int) (k : List UInt8) (ver : Int) : Nat := if verB ver = false ∨ mayTs lv vs 16 = false then 1 else if isB k = false then 6 else if delE (lv (bkN k)) k = 0 ∧ ver < vs (bkN k) then 18 else delE (lv (bkN k)) k
end Go.Proofs.YtbdfcgffkonbiaaGreatDoor
namespace Go.Proofs.YtbdfcgffkonbiaaGreatDoor
open Go Go.RowKit
set_option linter.unusedVariables false
set_option linter.unusedSimpArgs false
theorem infoT : (Tryz.prog.info? 26).map (·.size) = some 32 := by kernel_rfl
theorem infoTc {cs : Array Value} (h : cs.size = 32) : (Tryz.prog.info? 26).map (·.size) = some cs.size := by rw [h]; exact infoT
theorem zeroT_run (w : World) : (zeroValue 26).run Tryz.prog w = .ok (.agg zT) w := by kernel_rfl
theorem zT_size : zT.size = 32 := rfl
theorem zT_ne : zT ≠ #[] := by simp [zT]
theorem zT_built : Tryz.prog.built 26 [] = some zT := by kernel_rfl
/-- A struct is loaded under a guard that lets it. -/
theorem wpList_load_row_g {P : Program} {ops : Array Oper} {rest : List Oper} {o : Oper} {a : Act} {w : World} {Q : Exit → Act → World → Prop} (hw : Region.wanted o (yielded ops a.tmps) = true) (ty : TypeId) (x : Operand) (ho : o.op = .load ty x)
    (g : Nat) (hx : a.eval x = .pointer (some ⟨g, 0, none⟩)) (t : TypeId) (cs : Array Value) (fr : Nat × Nat) (d : TypeDesc) (hg : w.heap[g]? = some (.cells cs t fr))
    (hu : P.underlying ty = some d) (hd : (match d with | .struct _ | .array _ _ => true | _ => false) = true) (hi : (P.info? ty).map (·.size) = some cs.size)
    (h : wpList P ops Q rest (a.put o.dst (.agg cs)) w) : wpList P ops Q (o :: rest) a w := by
  simp only [wpList, hw, if_true]
  exact .inl (wp_load_row ty x ho g hx t cs fr d hg hu hd hi h)
theorem results_row_tmp {P : Program} {fn : Func} {p q : Tmp} {ty : TypeId} (h : fn.results = #[.cell p ty, .tmp q]) (tmps : Array Value) (w : World) (g : Nat) (t : TypeId) (cs : Array Value) (fr : Nat × Nat) (d : TypeDesc) (v : Value)
    (hp : tmps.getD p undef = .pointer (some ⟨g, 0, none⟩)) (hq : tmps.getD q undef = v) (hg : w.heap[g]? = some (.cells cs t fr))
    (hu : P.underlying ty = some d) (hd : (match d with | .struct _ | .array _ _ => true | _ => false) = true) (hi : (P.info? ty).map (·.size) = some cs.size) :
    (results fn tmps).run P w = .ok (.tuple #[.agg cs, v]) w := by
  have hp' : tmps[p]?.getD undef = .pointer (some ⟨g, 0, none⟩) := by simpa using hp
  have hq' : tmps[q]?.getD undef = v := by simpa using hq
  simp [results, h, hp', hq', asAddr, run_loadVar_row w g t ty cs fr d hg hu hd hi]
def tI (lv : Nat → List It) (vs : Nat → Int) (k : List UInt8) : It := if mayTs lv vs 16 = true then gTI lv k else zI
def tB (lv : Nat → List It) (vs : Nat → Int) (k : List UInt8) : Bool := mayTs lv vs 16 && gTB lv k
def tGet (lv : Nat → List It) (vs : Nat → Int) (k : List UInt8) : Value := .tuple #[itV (tI lv vs k), .bool (tB lv vs k)]
theorem tGet_nokey {lv : Nat → List It} {vs : Nat → Int} {k : List UInt8} (h : isB k = false) : tGet lv vs k = .tuple #[itZ, .bool false] := by
  have e : tI lv vs k = zI := by unfold tI gTI; rw [h]; simp
  unfold tGet tB gTB
  rw [h, e]; simp; rfl
theorem tGet_no {lv : Nat → List It} {vs : Nat → Int} {k : List UInt8} (h : mayTs lv vs 16 = false) : tGet lv vs k = .tuple #[itZ, .bool false] := by
  have e : tI lv vs k = zI := by unfold tI; rw [h]; simp
  unfold tGet tB
  rw [h, e]; simp; rfl
theorem tGet_yes {lv : Nat → List It} {vs : Nat → Int} {k : List UInt8} (h : mayTs lv vs 16 = true) (hk : isB k = true) : tGet lv vs k = getT (lv (bkN k)) k := by
  rw [getT_of]; unfold tGet tI tB gTI gTB; rw [h, hk]; simp
end Go.Proofs.YtbdfcgffkonbiaaGreatDoor
namespace Go.Proofs.YtbdfcgffkonbiaaGreatDoor
open Go Go.RowKit
set_option linter.unusedVariables false
set_option linter.unusedSimpArgs false
/-- What a change of a leaf hands back. -/
def ChgP (w : World) (l : List It) (ver : Int) (c : Nat) (e : Ending) (w' : World) : Prop := ∃ u, e = .returned (.tuple #[u, .int .i64 ver, .int .i64 (c : Int)]) ∧ w'.ownsRow w.heap.size 48 5 u l.length (l.flatMap itC) ∧ Below w.heap.size w w'
theorem own_moved {w w' : World} {base : Nat} {e : TypeId} {size : Nat} {v : Value} {n : Nat} {xs : List Value} (h : w.ownsRow base e size v n xs) (hh : ∀ g, base ≤ g → w'.heap[g]? = w.heap[g]?) : w'.ownsRow base e size v n xs := by
  refine ⟨h.1, ?_⟩
  rcases h.2 with h1 | ⟨g, cap, cur, h1, h2, h3, r⟩
  · exact .inl h1
  · exact .inr ⟨g, cap, cur, h1, h2, (hh g h2).trans h3, r⟩
theorem below_row {B g : Nat} {w0 w : World} (h : Below B w0 w) (hg : B ≤ g) (cs : Array Value) : Below B w0 (w.setRow g cs) :=
  ⟨h.os, h.tape, h.output, by rw [setRow_size]; exact h.size, fun k hk => by rw [setRow_other _ _ _ _ (by omega)]; exact h.block k hk⟩
theorem own_slice {w : World} {base : Nat} {e : TypeId} {size : Nat} {v : Value} {n : Nat} {xs : List Value} (h : w.ownsRow base e size v n xs) : ∃ a n c, v = .slice a n c := by
  rcases h.2 with ⟨h1, _⟩ | ⟨g, cap, cur, h1, _⟩
  · exact ⟨_, _, _, h1⟩
  · exact ⟨_, _, _, h1⟩
/-- A call hands back a trunk with a leaf of its own in a bucket. -/
def TrO (w : World) (cs : Array Value) (b : Nat) (l : List It) (ver : Int) (e : Ending) (w' : World) : Prop := ∃ u, e = .returned (.tuple #[.agg ((cs.setIfInBounds b u).setIfInBounds (16 + b) (.int .i64 ver)), .int .i64 0]) ∧ w'.ownsRow w.heap.size 48 5 u l.length (l.flatMap itC) ∧ Below w.heap.size w w'
/-- A call hands back the empty trunk and an error. -/
def TrZ (w : World) (c : Nat) (e : Ending) (w' : World) : Prop := e = .returned (.tuple #[.agg zT, .int .i64 (c : Int)]) ∧ Below w.heap.size w w'
theorem own_base {w : World} {b b' : Nat} {e : TypeId} {size : Nat} {v : Value} {n : Nat} {xs : List Value} (h : w.ownsRow b e size v n xs) (hb : b' ≤ b) : w.ownsRow b' e size v n xs := by
  refine ⟨h.1, ?_⟩
  rcases h.2 with h1 | ⟨g, cap, cur, h1, h2, r⟩
  · exact .inl h1
  · exact .inr ⟨g, cap, cur, h1, Nat.le_trans hb h2, r⟩
theorem two_cells {w : World} {B i j : Nat} {cs : Array Value} {t : TypeId} {u v : Value} (h : w.heap[B]? = some (.cells cs t (0, 0))) :
    ((w.setCell ⟨B, i, none⟩ u).setCell ⟨B, j, none⟩ v).heap[B]? = some (.cells ((cs.setIfInBounds i u).setIfInBounds j v) t (0, 0)) := set_at (set_at h)
theorem zT_one : zT.all (·.oneCell') = true := by kernel_rfl
theorem RdT.one {w : World} {cs : Array Value} {lv : Nat → List It} {vs : Nat → Int} (h : RdT w cs lv vs) : cs.all (·.oneCell') = true := by
  refine Array.all_eq_true_iff_forall_mem.2 fun v hv => ?_
  obtain ⟨i, hi, rfl⟩ := Array.getElem_of_mem hv
  have hs := h.size
  by_cases h16 : i < 16
  · obtain ⟨u, hu, hr⟩ := h.leaf i h16
    rw [Array.getElem?_eq_getElem hi] at hu
    obtain ⟨ao, cap, rfl, _⟩ := RdK.open hr
    rw [Option.some.inj hu]; rfl
  · have hu := h.ver (i - 16) (by omega)
    rw [show 16 + (i - 16) = i by omega, Array.getElem?_eq_getElem hi] at hu
    rw [Option.some.inj hu]; rfl
theorem rdi_one' {w : World} {v : Value} {l : List It} (h : RdI w v l) : ∃ a n c, v = .slice a n c := by
  obtain ⟨ao, cap, e, _⟩ := RdK.open h
  exact ⟨_, _, _, e⟩
end Go.Proofs.YtbdfcgffkonbiaaGreatDoor
namespace Go.Proofs.YtbdfcgffkonbiaaGreatDoor
open Go Go.RowKit
set_option linter.unusedVariables false
set_option linter.unusedSimpArgs false
def putC (lv : Nat → List It) (vs : Nat → Int) (b : Nat) (x : It) : Nat := if putE (lv b) x ≠ 1 ∧ x.ver < vs b then 18 else putE (lv b) x
def delC (lv : Nat → List It) (vs : Nat → Int) (b : Nat) (k : List UInt8) (ver : Int) : Nat := if delE (lv b) k = 0 ∧ ver < vs b then 18 else delE (lv b) k
end Go.Proofs.YtbdfcgffkonbiaaGreatDoor
namespace Go.Proofs.YtbdfcgffkonbiaaGreatDoor
open Go Go.RowKit
set_option linter.unusedVariables false
set_option linter.unusedSimpArgs false
theorem allocs3 (w : World) (a b c : Obj) :
    (((w.alloc a).alloc b).alloc c).heap[w.heap.size]? = some a ∧ (((w.alloc a).alloc b).alloc c).heap[w.heap.size + 1]? = some b ∧ (((w.alloc a).alloc b).alloc c).heap[w.heap.size + 2]? = some c ∧ (((w.alloc a).alloc b).alloc c).heap.size = w.heap.size + 3 := by
  have z2 : ((w.alloc a).alloc b).heap.size = w.heap.size + 2 := by simp
  obtain ⟨h1, h2, -, -⟩ := two_allocs w a b
  refine ⟨?_, ?_, ?_, by simp⟩
  · rw [heap_alloc_old _ _ (by omega), h1]
  · rw [heap_alloc_old _ _ (by omega), h2]
  · rw [← z2, heap_alloc_new]
theorem allocs4 (w : World) (a b c d : Obj) :
    ((((w.alloc a).alloc b).alloc c).alloc d).heap[w.heap.size]? = some a ∧ ((((w.alloc a).alloc b).alloc c).alloc d).heap[w.heap.size + 1]? = some b ∧ ((((w.alloc a).alloc b).alloc c).alloc d).heap[w.heap.size + 2]? = some c ∧ ((((w.alloc a).alloc b).alloc c).alloc d).heap[w.heap.size + 3]? = some d ∧ ((((w.alloc a).alloc b).alloc c).alloc d).heap.size = w.heap.size + 4 := by
  obtain ⟨h1, h2, h3, h4⟩ := allocs3 w a b c
  refine ⟨?_, ?_, ?_, ?_, by simp⟩
  · rw [heap_alloc_old _ _ (by omega), h1]
  · rw [heap_alloc_old _ _ (by omega), h2]
  · rw [heap_alloc_old _ _ (by omega), h3]
  · rw [← h4, heap_alloc_new]
def PutP (w : World) (cs : Array Value) (lv : Nat → List It) (vs : Nat → Int) (x : It) : Ending → World → Prop := if putTE lv vs x = 0 then TrO w cs (bkN x.key) (withL (lv (bkN x.key)) x) x.ver else TrZ w (putTE lv vs x)
theorem put_nest (w : World) (cs : Array Value) (lv : Nat → List It) (vs : Nat → Int) (x : It) :
    (if mayTs lv vs 16 = true then (if isB x.key = true then (if putC lv vs (bkN x.key) x = 0 then TrO w cs (bkN x.key) (putR (lv (bkN x.key)) x) x.ver else TrZ w (putC lv vs (bkN x.key) x)) else TrZ w 1) else TrZ w 1) = PutP w cs lv vs x := by
  by_cases h1 : mayTs lv vs 16 = true
  · by_cases h2 : isB x.key = true
    · have e : putTE lv vs x = putC lv vs (bkN x.key) x := by unfold putTE; rw [if_pos ⟨h1, h2⟩]; rfl
      rw [if_pos h1, if_pos h2]
      unfold PutP
      rw [e]
      by_cases h3 : putC lv vs (bkN x.key) x = 0
      · rw [if_pos h3, if_pos h3]
        have h4 : putE (lv (bkN x.key)) x = 0 := by
          unfold putC at h3
          split at h3
          · cases h3
          · exact h3
        unfold putR; rw [if_pos h4]
      · rw [if_neg h3, if_neg h3]
    · have e : putTE lv vs x = 1 := by unfold putTE; rw [if_neg (fun h => h2 h.2)]
      rw [if_pos h1, if_neg h2]; unfold PutP; rw [e, if_neg (by decide)]
  · have e : putTE lv vs x = 1 := by unfold putTE; rw [if_neg (fun h => h1 h.1)]
    rw [if_neg h1]; unfold PutP; rw [e, if_neg (by decide)]
def DelP (w : World) (cs : Array Value) (lv : Nat → List It) (vs : Nat → Int) (k : List UInt8) (ver : Int) : Ending → World → Prop := if delTE lv vs k ver = 0 then TrO w cs (bkN k) (withoutL (lv (bkN k)) k) ver else TrZ w (delTE lv vs k ver)
theorem del_nest (w : World) (cs : Array Value) (lv : Nat → List It) (vs : Nat → Int) (k : List UInt8) (ver : Int) (hv : verB ver = true) :
    (if mayTs lv vs 16 = true then (if isB k = true then (if delC lv vs (bkN k) k ver = 0 then TrO w cs (bkN k) (delR (lv (bkN k)) k) ver else TrZ w (delC lv vs (bkN k) k ver)) else TrZ w 6) else TrZ w 1) = DelP w cs lv vs k ver := by
  by_cases h1 : mayTs lv vs 16 = true
  · by_cases h2 : isB k = true
    · have e : delTE lv vs k ver = delC lv vs (bkN k) k ver := by unfold delTE; rw [if_neg (by simp [hv, h1]), if_neg (by simp [h2])]; rfl
      rw [if_pos h1, if_pos h2]
      unfold DelP
      rw [e]
      by_cases h3 : delC lv vs (bkN k) k ver = 0
      · rw [if_pos h3, if_pos h3]
        have h4 : delE (lv (bkN k)) k = 0 := by
          unfold delC at h3
          split at h3
          · cases h3
          · exact h3
        unfold delR; rw [if_pos h4]
      · rw [if_neg h3, if_neg h3]
    · have e : delTE lv vs k ver = 6 := by unfold delTE; rw [if_neg (by simp [hv, h1]), if_pos (by simpa using h2)]
      rw [if_pos h1, if_neg h2]; unfold DelP; rw [e, if_neg (by decide)]
  · have e : delTE lv vs k ver = 1 := by unfold delTE; rw [if_pos (.inr (by simpa using h1))]
    rw [if_neg h1]; unfold DelP; rw [e, if_neg (by decide)]
end Go.Proofs.YtbdfcgffkonbiaaGreatDoor
