/- Choose: the numbers above the low one: the iterator; what Choices keeps. -/
import Derived.Test.YtgmblgpfgdfnaaaQMM38
import Derived.Test.YtgmblgpfgdfnaaaQMM42
namespace Go.Proofs.Ytgmblgpfgdfnaaa
open Go Go.RowKit
set_option linter.unusedVariables false
set_option linter.unusedSimpArgs false
set_option maxRecDepth 100000

theorem above_any (a b : Int) (w : World) :
    Calls Try.prog 57 #[.int .i64 a, .int .i64 b] w fun e w' => e = .returned (.func (.func 76) #[] #[.pointer (some ⟨w.heap.size, 0, none⟩), .pointer (some ⟨w.heap.size + 1, 0, none⟩)]) ∧ w' = (w.alloc (.cells #[.int .i64 a] 3)).alloc (.cells #[.int .i64 b] 3) := by
  go_enter Try.func57, Try.ntmps57
  go_wp2_with fail
  go_ret
  exact ⟨rfl, rfl⟩
def upN (a : Int) (k : Nat) : List Int := (List.range k).map fun i : Nat => a + 1 + (i : Int)
theorem upN_len (a : Int) (k : Nat) : (upN a k).length = k := by simp [upN]
theorem upN_up (a : Int) (k : Nat) : upN a (k + 1) = upN a k ++ [a + 1 + (k : Int)] := by unfold upN; rw [List.range_succ]; simp
/-- A round keeps what lies at B. -/
def KpH (B : Nat) (X Y : World) : Prop := Y.heap[B]? = X.heap[B]?
theorem kpH_put {B : Nat} {w : World} (hw : B < w.heap.size) (W : World) (l : Nat) (o o' : Obj) (hl : w.heap.size ≤ l) (h : W.heap[l]? = some o) (_ : o.isCells = false) (_ : o.isWalk = false) : KpH B W (W.putObj l o') := World.putObj_heap_other (by omega)
set_option maxHeartbeats 2000000 in
theorem above_gives (m : Nat) (hm : 1 ≤ m) (L H : Nat) (a b : Int) (N : Nat) (hN : b = a + (N : Int)) (ha : 0 ≤ a) (hb : b ≤ 4294967296) (w : World) (bL : Boxed w L 3 (.int .i64 a)) (bH : Boxed w H 3 (.int .i64 b)) :
    Gives Fence.wide m Try.prog 76 #[.pointer (some ⟨L, 0, none⟩), .pointer (some ⟨H, 0, none⟩)] (fun x : Int => #[Value.int .i64 x]) (fun A B => A = B) (KpH H) (fun xs => xs = upN a N) (fun _ => True) N w := by
  intro l J Jx W hW hJT hJxT hY h0
  have b0 : Boxed W L 3 (.int .i64 a) := (hW.block _ bL.lt).trans bL
  have b1 : Boxed W H 3 (.int .i64 b) := (hW.block _ bH.lt).trans bH
  have HB1 := Lib.hid b1
  refine callsIn_of_wp Try.func76 rfl trivial ?_ rfl
  simp only [Try.ntmps76, List.size_toArray, List.length_cons, List.length_nil, Nat.reduceAdd, Nat.reduceSub, Array.replicate_succ, Array.replicate_zero, List.push_toArray, List.append_toArray, List.nil_append, List.cons_append]
  have hc0 := b0.cell
  have hab : a ≤ 4294967296 := by omega
  have HNI := Lib.hid hN
  clear hN
  gi_wp2
  clear hc0 b0 hW bL bH b1
  gi_loopw [4] (fun i wr => ∃ k : Nat, k ≤ N ∧ i = .int .i64 (a + 1 + (k : Int)) ∧ Boxed wr H 3 (.int .i64 b) ∧ J (upN a k) wr) (fun i _ => (a + 1 + (N : Int) - intOf i).toNat)
  case atStart => exact ⟨0, Nat.zero_le _, by simp, HB1.out, h0⟩
  case round =>
    obtain ⟨k, hk, rfl, hbx, hJ⟩ := hrel
    have hcH := hbx.cell
    have HBX := Lib.hid hbx
    have hbn := HNI.out
    by_cases hlt : k < N
    · have h1 : a + 1 + (k : Int) ≤ b := by omega
      have h2 : decide (a + 1 + (k : Int) ≤ b) = true := decide_eq_true h1
      clear hbx hbn
      gi_wp2_with fail
      obtain ⟨fn, tmps, assign, body, hy, hR⟩ := hY (upN a k) (a + 1 + (k : Int)) wr hJ (by rw [upN_len]; exact hlt)
      go_simp
      refine hR.mono ?_
      rintro e W3 (⟨rfl, hJ3, hkp⟩ | ⟨rfl, hJx3⟩)
      · gi_wp2
        go_roundw
        case rel => exact ⟨k + 1, by omega, by push_cast; congr 1; omega, hkp.trans HBX.out, by rw [upN_up]; exact hJ3⟩
        case measure => simp [intOf]; omega
      · gi_wp2
        refine bodyPost_ret (results_none rfl _ _ _) rfl ?_
        exact ⟨⟨_, rfl⟩, .inr ⟨_, trivial, hJx3⟩⟩
    · obtain rfl : k = N := by omega
      have h2 : decide (a + 1 + (k : Int) ≤ b) = false := decide_eq_false (by omega)
      clear hbx hbn
      gi_wp2
      go_end0
      exact ⟨⟨_, rfl⟩, .inl ⟨_, rfl, hJ⟩⟩
end Go.Proofs.Ytgmblgpfgdfnaaa
