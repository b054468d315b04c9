/- A region whose order is open, its last operation a store, inside a fence and inside a round; an append in such a region. It speaks of no program in particular. -/
/- Clash: the pairs of places, one behind the other: the iterator. Written by wip/tools/gen23g.py. -/
/- A block of slices, each a row of the call's own, no two of them in one block: what an append to one of them does. It speaks of no program in particular. -/
import Derived.Test.YtjmfiekgpoonjaaDoorQLGC17
import Derived.Maps.AppendAt
import Derived.Test.YtjmfiekgpoonjaaDoorQLGC16
import Derived.Laws.AppendOwnNone
import Derived.WalkKit
import Derived.Handy
namespace Go.Proofs.YtjmfiekgpoonjaaDoor
open Go.RowKit
set_option linter.unusedVariables false
section
variable {P : Program} {ops : Array Oper} {Q : Exit → Act → World → Prop} {n : Nat} {ro : Option Nat}
theorem j_start {id m : Nat} {a : Act} {w : World} (n : Nat) (S : World → Prop) (hno : ¬ LetsOut Q) (hnd : ops.all noDefer = true) (hm : P.follows .mixedOrders = true) (h : wpV P ops n S Q ops.size (Array.replicate ops.size false) a w.drew) :
    (Code.region id ops true).wpIn (wideR ro) m P Q a w := by
  refine wpIn_region_any hm (wpAnyIn_of_any hno hnd _ _ _ _ (orders_any (n := n) (S := S) _ _ _ _ (h ⟨by simp, ?_, ?_⟩)))
  · intro j oj _ hl
    rw [getD_replicate_false] at hl
    cases hl
  · intro t ht hlt
    simp [hlt]
/-- An append, alone. -/
theorem op_append {o : Oper} {a : Act} {w : World} {K : Act → World → Prop} (s x : Operand) (t ty : TypeId) (hop : o.op = Op.call { callee := Callee.builtin Builtin.append, args := #[s, x], argTypes := #[t, t] }) (hty : o.type = ty)
    (v u v' : Value) (w' : World) (hs : a.eval s = v) (hx : a.eval x = u) (hrun : (Builtin.append_ #[t, t] ty #[v, u]).run P w = .ok v' w') (hK : K (a.put o.dst v') w') : o.wp P a w K Q := by
  subst hty
  unfold Oper.wp
  simp [execOp, hop, resolve, invoke, builtin, hs, hx, hrun, Result.andThen]
  exact hK
end
end Go.Proofs.YtjmfiekgpoonjaaDoor
namespace Go.Proofs.YtjmfiekgpoonjaaDoor
open Go Go.RowKit
attribute [local go_sem] Oper.semAt_some
set_option linter.unusedVariables false
set_option linter.unusedSimpArgs false
set_option maxRecDepth 100000 in
theorem pairs_any (n : Nat) (w : World) :
    Calls Tryd.prog 42 #[.int .i64 (n : Int)] w fun e w' => e = .returned (.func (.func 61) #[] #[.pointer (some ⟨w.heap.size, 0, none⟩)]) ∧ w' = w.alloc (.cells #[.int .i64 (n : Int)] 3) := by
  go_enter Tryd.func42, Tryd.ntmps42
  go_wp2_with fail
  go_ret
  exact ⟨rfl, rfl⟩
theorem pairs_len (n k : Nat) (hk : k < n) (j : Nat) (hj : j ≤ k) (hn : n ≤ 64) : (allP n k (Nat.le_of_lt hk) ++ rowP n k hk j hj).length < 5000 := by
  rw [List.length_append, rowP_len]
  have h1 := allP_len n k (Nat.le_of_lt hk)
  have h2 : k * n ≤ 64 * 64 := Nat.mul_le_mul (by omega) hn
  omega
set_option maxRecDepth 100000 in
set_option maxHeartbeats 1000000 in
theorem pairs_gives (m : Nat) (hm : 1 ≤ m) (B n : Nat) (hn : n ≤ 64) (w : World) (hbox : Boxed w B 3 (.int .i64 (n : Int))) :
    Gives Fence.wide m Tryd.prog 61 #[.pointer (some ⟨B, 0, none⟩)] (fun x : Pr n => #[Value.int .i64 (x.i : Int), Value.int .i64 (x.j : Int)]) (fun A B => A = B) (fun _ _ => True) (fun xs => xs = allP n n (Nat.le_refl _)) (fun _ => True) 5000 w := by
  intro l J Jx W hW hJT hJxT hY h0
  have hb0 : Boxed W B 3 (.int .i64 (n : Int)) := (hW.block _ hbox.lt).trans hbox
  refine callsIn_of_wp Tryd.func61 rfl trivial ?_ rfl
  simp only [Tryd.ntmps61, List.size_toArray, List.length_cons, List.length_nil, Nat.reduceAdd, Nat.reduceSub, Array.replicate_succ, Array.replicate_zero, List.push_toArray, List.append_toArray, List.nil_append, List.cons_append]
  have hc0 := hb0.cell
  gi_wp2
  clear hc0 hb0 hW hbox
  gi_loopw [6] (fun i wr => ∃ (k : Nat) (hk : k ≤ n), i = .int .i64 (k : Int) ∧ J (allP n k hk) wr) (fun i _ => n - (intOf i).toNat)
  case atStart => exact ⟨0, Nat.zero_le _, rfl, h0⟩
  case round =>
    obtain ⟨k, hk, rfl, hJ⟩ := hrel
    by_cases hlt : k < n
    · have hlti : (k : Int) < (n : Int) := by omega
      obtain ⟨wo, hwo⟩ : ∃ wo : World, wo = wr := ⟨_, rfl⟩
      subst hwo
      gi_wp2
      gi_loopw [10] (fun q wr => ∃ (j : Nat) (hj : j ≤ k), q = .int .i64 (j : Int) ∧ J (allP n k (Nat.le_of_lt hlt) ++ rowP n k hlt j hj) wr) (fun q _ => k - (intOf q).toNat)
      case atStart => exact ⟨0, Nat.zero_le _, rfl, by rw [rowP, List.append_nil]; exact hJ⟩
      case round =>
        obtain ⟨j, hj, rfl, hJ2⟩ := hrel
        by_cases hlj : j < k
        · have hlji : (j : Int) < (k : Int) := by omega
          gi_wp2_with fail
          obtain ⟨fn, tmps, assign, body, hy, hR⟩ := hY (allP n k (Nat.le_of_lt hlt) ++ rowP n k hlt j hj) ⟨k, j, hlj, hlt⟩ wr hJ2 (pairs_len n k hlt j hj hn)
          go_simp
          refine hR.mono ?_
          rintro e W3 (⟨rfl, hJ3, -⟩ | ⟨rfl, hJx3⟩)
          · gi_wp2
            go_roundw
            case rel => exact ⟨j + 1, hlj, by push_cast; rfl, by rw [rowP, ← List.append_assoc]; exact hJ3⟩
            case measure => simp [intOf]; omega
          · gi_wp2
            refine bodyPost_ret (results_none rfl _ _ _) rfl ?_
            exact ⟨⟨_, rfl⟩, .inr ⟨_, trivial, hJx3⟩⟩
        · obtain rfl : j = k := by omega
          gi_wp2
          go_roundw
          case rel => exact ⟨_, hlt, by push_cast; rfl, by rw [allP]; exact hJ2⟩
          case measure => simp [intOf]; omega
    · obtain rfl : k = n := by omega
      gi_wp2
      go_end0
      exact ⟨⟨_, rfl⟩, .inl ⟨_, rfl, hJ⟩⟩
end Go.Proofs.YtjmfiekgpoonjaaDoor
namespace Go.Proofs.YtjmfiekgpoonjaaDoor
open Go Go.RowKit
set_option linter.unusedVariables false
set_option linter.unusedSimpArgs false
section
variable {α : Type} {enc : α → Value}
structure Rws (w : World) (base B : Nat) (T e : TypeId) (enc : α → Value) (ls : List (List α)) (vs : List Value) : Prop where
  block : w.heap[B]? = some (.cells vs.toArray T (0, 0))
  len : vs.length = ls.length
  row : ∀ t, t < ls.length → w.ownsRow base e 1 (vs.getD t undef) (ls.getD t []).length ((ls.getD t []).map enc)
  off : ∀ t, t < ls.length → (vs.getD t undef).ownBlock ≠ some B
  apart : ∀ t t', t < ls.length → t' < ls.length → t ≠ t' → ∀ g, (vs.getD t undef).ownBlock = some g → (vs.getD t' undef).ownBlock ≠ some g
theorem getD_set_eq {β : Type} {l : List β} {i : Nat} {x d : β} (h : i < l.length) : (l.set i x).getD i d = x := by simp [List.getD, h]
theorem getD_set_ne {β : Type} {l : List β} {i j : Nat} {x d : β} (h : i ≠ j) : (l.set i x).getD j d = l.getD j d := by simp [List.getD, List.getElem?_set_ne h]
theorem getD_rep {β : Type} {n i : Nat} {x d : β} (h : i < n) : (List.replicate n x).getD i d = x := by simp [List.getD, h]
theorem Rws.new {w : World} {base B n : Nat} {T e : TypeId} (h : w.heap[B]? = some (.cells (Array.replicate n (.slice none 0 0)) T (0, 0))) : Rws (enc := enc) w base B T e (List.replicate n []) (List.replicate n (.slice none 0 0)) := by
  refine ⟨by rw [List.toArray_replicate]; exact h, by simp, ?_, ?_, ?_⟩
  · intro t ht
    rw [List.length_replicate] at ht
    rw [getD_rep ht, getD_rep ht]
    exact World.ownsRow_nil _ _ _ _
  · intro t ht
    rw [List.length_replicate] at ht
    rw [getD_rep ht]; simp [Value.ownBlock]
  · intro t t' ht _ _ g hg
    rw [List.length_replicate] at ht
    rw [getD_rep ht] at hg; simp [Value.ownBlock] at hg
/-- What is made, and what turns in no row of it and not in the block, leaves it. -/
theorem Rws.kept {w w' : World} {base B : Nat} {T e : TypeId} {ls : List (List α)} {vs : List Value} (h : Rws w base B T e enc ls vs) {r : Option Nat} (hg : w.grownBy w' r) (hB : some B ≠ r)
    (hr : ∀ t, t < ls.length → (vs.getD t undef).ownBlock = none ∨ (vs.getD t undef).ownBlock ≠ r) : Rws w' base B T e enc ls vs := by
  refine ⟨?_, h.len, fun t ht => (h.row t ht).kept hg (hr t ht), h.off, h.apart⟩
  rw [hg.block B (Array.getElem?_eq_some_iff.1 h.block).1 hB]; exact h.block
theorem Rws.below {w w' : World} {base B : Nat} {T e : TypeId} {ls : List (List α)} {vs : List Value} (h : Rws w base B T e enc ls vs) (hg : Below w.heap.size w w') : Rws w' base B T e enc ls vs :=
  h.kept (r := none) ⟨hg.os, hg.tape, hg.output, hg.size, fun k hk _ => hg.block k hk⟩ (by simp) (fun t ht => by cases (vs.getD t undef).ownBlock <;> simp)
/-- An append to one of the rows, and the store of what comes. -/
theorem Rws.push {w w1 : World} {base B i : Nat} {T e : TypeId} {ls : List (List α)} {vs : List Value} (h : Rws w base B T e enc ls vs) (hi : i < ls.length) (tmp : Obj) {v' : Value} {y : α} (hBb : B < w.heap.size)
    (hown : w1.ownsRow base e 1 v' ((ls.getD i []).length + 1) ((ls.getD i []).map enc ++ [enc y])) (hg : (w.alloc tmp).grownBy w1 (vs.getD i undef).ownBlock)
    (hq : v'.ownBlock = (vs.getD i undef).ownBlock ∨ v'.ownBlock = some (w.alloc tmp).heap.size) : Rws (w1.setCell ⟨B, i, none⟩ v') base B T e enc (ls.set i (ls.getD i [] ++ [y])) (vs.set i v') := by
  have hb1 : w1.heap[B]? = some (.cells vs.toArray T (0, 0)) := by
    rw [hg.block B (by simp; omega) (fun e => h.off i hi e.symm), heap_alloc_old _ _ hBb]; exact h.block
  have hvl : i < vs.length := by rw [h.len]; exact hi
  have hlt : ∀ t, t < ls.length → ∀ g, (vs.getD t undef).ownBlock = some g → g < w.heap.size := fun t ht g e => ((h.row t ht).lt g e).2
  have hoff' : v'.ownBlock ≠ some B := by
    rcases hq with e | e
    · rw [e]; exact h.off i hi
    · rw [e]; simp; omega
  refine ⟨?_, by rw [List.length_set, List.length_set]; exact h.len, ?_, ?_, ?_⟩
  · rw [heap_setCell_same w1 B i vs.toArray T v' hb1]; simp
  · intro t ht
    rw [List.length_set] at ht
    by_cases ei : i = t
    · subst ei
      rw [getD_set_eq hvl, getD_set_eq hi, List.length_append, List.map_append]
      refine World.ownsRow.kept (w := w1) (row := some B) ?_ ⟨rfl, rfl, rfl, by simp, fun k hk hne => heap_setCell_other w1 ⟨B, i, none⟩ k v' (by simpa using hne)⟩ (.inr hoff')
      exact hown
    · rw [getD_set_ne ei, getD_set_ne ei]
      have h1 := ((h.row t ht).alloc tmp).kept hg (by
        cases ev : (vs.getD t undef).ownBlock with
        | none => exact .inl rfl
        | some g => exact .inr fun e => h.apart t i ht hi (fun q => ei q.symm) g ev e.symm)
      exact h1.kept (row := some B) ⟨rfl, rfl, rfl, by simp, fun k hk hne => heap_setCell_other w1 ⟨B, i, none⟩ k v' (by simpa using hne)⟩ (.inr (h.off t ht))
  · intro t ht
    rw [List.length_set] at ht
    by_cases ei : i = t
    · subst ei; rw [getD_set_eq hvl]; exact hoff'
    · rw [getD_set_ne ei]; exact h.off t ht
  · intro t t' ht ht' hne g hgt
    rw [List.length_set] at ht ht'
    by_cases ei : i = t
    · subst ei
      rw [getD_set_eq hvl] at hgt
      rw [getD_set_ne hne]
      rcases hq with e | e
      · rw [e] at hgt; exact h.apart i t' ht ht' hne g hgt
      · rw [e] at hgt
        intro e2
        have := hlt t' ht' g e2
        simp at hgt; omega
    · rw [getD_set_ne ei] at hgt
      by_cases ei' : i = t'
      · subst ei'
        rw [getD_set_eq hvl]
        rcases hq with e | e
        · rw [e]; exact h.apart t i ht ht' hne g hgt
        · rw [e]
          have := hlt t ht g hgt
          simp; omega
      · rw [getD_set_ne ei']; exact h.apart t t' ht ht' hne g hgt
end
end Go.Proofs.YtjmfiekgpoonjaaDoor
