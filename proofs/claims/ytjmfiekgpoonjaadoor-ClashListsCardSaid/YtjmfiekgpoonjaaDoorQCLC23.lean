/- A region whose order is open, its last operation a store, inside a fence and inside a round; an append in such a region. It speaks of no program in particular. -/
/- Clash: the pairs of places, one behind the other: the iterator. Written by wip/tools/gen23g.py. -/
import Derived.Test.YtjmfiekgpoonjaaDoorQCLC22
import Derived.Maps.AppendAt
import Derived.Test.YtjmfiekgpoonjaaDoorQCLC21
namespace Go.Proofs.YtjmfiekgpoonjaaDoor
open Go.RowKit
set_option linter.unusedVariables false
section
variable {P : Program} {ops : Array Oper} {Q : Exit → Act → World → Prop} {n : Nat} {ro : Option Nat}
theorem j_start {id m : Nat} {a : Act} {w : World} (n : Nat) (S : World → Prop) (hno : ¬ LetsOut Q) (hnd : ops.all noDefer = true) (hm : P.follows .mixedOrders = true) (h : wpV P ops n S Q ops.size (Array.replicate ops.size false) a w.drew) :
    (Code.region id ops true).wpIn (wideR ro) m P Q a w := by
  refine wpIn_region_any hm (wpAnyIn_of_any hno hnd _ _ _ _ (orders_any (n := n) (S := S) _ _ _ _ (h ⟨by simp, ?_, ?_⟩)))
  · intro j oj _ hl
    rw [getD_replicate_false] at hl
    cases hl
  · intro t ht hlt
    simp [hlt]
/-- An append, alone. -/
theorem op_append {o : Oper} {a : Act} {w : World} {K : Act → World → Prop} (s x : Operand) (t ty : TypeId) (hop : o.op = Op.call { callee := Callee.builtin Builtin.append, args := #[s, x], argTypes := #[t, t] }) (hty : o.type = ty)
    (v u v' : Value) (w' : World) (hs : a.eval s = v) (hx : a.eval x = u) (hrun : (Builtin.append_ #[t, t] ty #[v, u]).run P w = .ok v' w') (hK : K (a.put o.dst v') w') : o.wp P a w K Q := by
  subst hty
  unfold Oper.wp
  simp [execOp, hop, resolve, invoke, builtin, hs, hx, hrun, Result.andThen]
  exact hK
end
end Go.Proofs.YtjmfiekgpoonjaaDoor
namespace Go.Proofs.YtjmfiekgpoonjaaDoor
open Go Go.RowKit
attribute [local go_sem] Oper.semAt_some
set_option linter.unusedVariables false
set_option linter.unusedSimpArgs false
set_option maxRecDepth 100000 in
theorem pairs_any (n : Nat) (w : World) :
    Calls Tryd.prog 42 #[.int .i64 (n : Int)] w fun e w' => e = .returned (.func (.func 61) #[] #[.pointer (some ⟨w.heap.size, 0, none⟩)]) ∧ w' = w.alloc (.cells #[.int .i64 (n : Int)] 3) := by
  go_enter Tryd.func42, Tryd.ntmps42
  go_wp2_with fail
  go_ret
  exact ⟨rfl, rfl⟩
theorem pairs_len (n k : Nat) (hk : k < n) (j : Nat) (hj : j ≤ k) (hn : n ≤ 64) : (allP n k (Nat.le_of_lt hk) ++ rowP n k hk j hj).length < 5000 := by
  rw [List.length_append, rowP_len]
  have h1 := allP_len n k (Nat.le_of_lt hk)
  have h2 : k * n ≤ 64 * 64 := Nat.mul_le_mul (by omega) hn
  omega
set_option maxRecDepth 100000 in
set_option maxHeartbeats 1000000 in
theorem pairs_gives (m : Nat) (hm : 1 ≤ m) (B n : Nat) (hn : n ≤ 64) (w : World) (hbox : Boxed w B 3 (.int .i64 (n : Int))) :
    Gives Fence.wide m Tryd.prog 61 #[.pointer (some ⟨B, 0, none⟩)] (fun x : Pr n => #[Value.int .i64 (x.i : Int), Value.int .i64 (x.j : Int)]) (fun A B => A = B) (fun _ _ => True) (fun xs => xs = allP n n (Nat.le_refl _)) (fun _ => True) 5000 w := by
  intro l J Jx W hW hJT hJxT hY h0
  have hb0 : Boxed W B 3 (.int .i64 (n : Int)) := (hW.block _ hbox.lt).trans hbox
  refine callsIn_of_wp Tryd.func61 rfl trivial ?_ rfl
  simp only [Tryd.ntmps61, List.size_toArray, List.length_cons, List.length_nil, Nat.reduceAdd, Nat.reduceSub, Array.replicate_succ, Array.replicate_zero, List.push_toArray, List.append_toArray, List.nil_append, List.cons_append]
  have hc0 := hb0.cell
  gi_wp2
  clear hc0 hb0 hW hbox
  gi_loopw [6] (fun i wr => ∃ (k : Nat) (hk : k ≤ n), i = .int .i64 (k : Int) ∧ J (allP n k hk) wr) (fun i _ => n - (intOf i).toNat)
  case atStart => exact ⟨0, Nat.zero_le _, rfl, h0⟩
  case round =>
    obtain ⟨k, hk, rfl, hJ⟩ := hrel
    by_cases hlt : k < n
    · have hlti : (k : Int) < (n : Int) := by omega
      obtain ⟨wo, hwo⟩ : ∃ wo : World, wo = wr := ⟨_, rfl⟩
      subst hwo
      gi_wp2
      gi_loopw [10] (fun q wr => ∃ (j : Nat) (hj : j ≤ k), q = .int .i64 (j : Int) ∧ J (allP n k (Nat.le_of_lt hlt) ++ rowP n k hlt j hj) wr) (fun q _ => k - (intOf q).toNat)
      case atStart => exact ⟨0, Nat.zero_le _, rfl, by rw [rowP, List.append_nil]; exact hJ⟩
      case round =>
        obtain ⟨j, hj, rfl, hJ2⟩ := hrel
        by_cases hlj : j < k
        · have hlji : (j : Int) < (k : Int) := by omega
          gi_wp2_with fail
          obtain ⟨fn, tmps, assign, body, hy, hR⟩ := hY (allP n k (Nat.le_of_lt hlt) ++ rowP n k hlt j hj) ⟨k, j, hlj, hlt⟩ wr hJ2 (pairs_len n k hlt j hj hn)
          go_simp
          refine hR.mono ?_
          rintro e W3 (⟨rfl, hJ3, -⟩ | ⟨rfl, hJx3⟩)
          · gi_wp2
            go_roundw
            case rel => exact ⟨j + 1, hlj, by push_cast; rfl, by rw [rowP, ← List.append_assoc]; exact hJ3⟩
            case measure => simp [intOf]; omega
          · gi_wp2
            refine bodyPost_ret (results_none rfl _ _ _) rfl ?_
            exact ⟨⟨_, rfl⟩, .inr ⟨_, trivial, hJx3⟩⟩
        · obtain rfl : j = k := by omega
          gi_wp2
          go_roundw
          case rel => exact ⟨_, hlt, by push_cast; rfl, by rw [allP]; exact hJ2⟩
          case measure => simp [intOf]; omega
    · obtain rfl : k = n := by omega
      gi_wp2
      go_end0
      exact ⟨⟨_, rfl⟩, .inl ⟨_, rfl, hJ⟩⟩
end Go.Proofs.YtjmfiekgpoonjaaDoor
