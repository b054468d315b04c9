/- Keys: slices of texts cut and joined. -/
import Derived.Test.YtkcflkgfipfdfaaDoorK8Q
import Derived.Test.YtkcflkgfipfdfaaDoorRegS
namespace Go.Proofs.YtkcflkgfipfdfaaDoor
open Go Go.RowKit
set_option linter.unusedVariables false
set_option linter.unusedSimpArgs false
/-- 'append(s, x...)', s the call's own, x a slice that is read. -/
theorem wp_app_rdv {P : Program} {o : Oper} {a : Act} {K : Act → World → Prop} {Q : Exit → Act → World → Prop} {w : World} (w0 : World) (s x : Operand) (t : TypeId)
    (ho : o.op = .call { callee := .builtin .append, args := #[s, x], argTypes := #[t, t] })
    (base : Nat) (e : TypeId) (i : TypeInfo) (z : Value) (bytes : Nat) (ht : P.underlying t = some (.slice e)) (hi : P.info? e = some i) (hz : i.zero = some z)
    (hsize : i.size = 1) (hby : i.bytes = bytes) (hzs : z.cells.size = 1)
    (v : Value) (n : Nat) (xs : List Value) (hs : a.eval s = v) (hown : w.ownsRow base e 1 v n xs) (ad : Addr) (m c : Nat) (ys : List Value) (hx : a.eval x = .slice (some ad) m c) (hr : RdV w (.slice (some ad) m c) ys) (h1c : ∀ u ∈ ys, u.oneCell' = true)
    (h63 : n + m ≤ maxLen) (hbytes : (n + m) * bytes ≤ 140737488355328) (hbase : base ≤ w0.heap.size) (hb : Below base w0 w)
    (hK : ∀ v' w', w'.ownsRow base e 1 v' (n + m) (xs ++ ys) → Below base w0 w' → K (a.put o.dst v') w') : o.wp P a w K Q := by
  obtain ⟨ao, cap, he, h2, h3, h4, h5⟩ := hr
  injection he with e1 e2 e3
  subst e2
  refine wp_append_own w s x t ho base e i z 1 bytes ht hi hz hsize hby hzs (by decide) v n xs hs hown ad ys.length c ys hx (by simp) ?_ h1c h63 hbytes (Nat.le_trans hbase hb.size) ?_
  · intro j u hj
    have hjl : j < ys.length := (List.getElem?_eq_some_iff.1 hj).1
    obtain ⟨b, off, hao, _, hc⟩ := h5 (by omega)
    rw [hao] at e1
    cases e1
    rw [Addr.add_lit, hc j hjl, hj]
  · intro v' w' h1 h2 _
    exact hK v' w' h1 (grown_below hb hbase hown h2)
theorem rdv_block {w : World} {g : Nat} {cs : Array Value} {t : TypeId} (h : w.heap[g]? = some (.cells cs t (0, 0))) (n : Nat) (hn : n = cs.size) (hm : n ≤ maxLen) : RdV w (.slice (some ⟨g, 0, none⟩) n n) cs.toList := by
  subst hn
  refine ⟨some ⟨g, 0, none⟩, cs.size, by simp, by simp, hm, by simp, ?_⟩
  intro _
  refine ⟨g, 0, rfl, lt_of_block h, ?_⟩
  intro i hi
  rw [Nat.zero_add, block_cell h]
  simp
/-- Where the rest of a slice begins. -/
def frA (b off cap i : Nat) : Addr := if cap = i then ⟨b, off, none⟩ else ⟨b, off + i, none⟩
theorem rdv_from {w : World} {b off n cap : Nat} {xs : List Value} (h : RdV w (.slice (some ⟨b, off, none⟩) n cap) xs) (i : Nat) (hi : i ≤ n) : RdV w (.slice (some (frA b off cap i)) (n - i) (cap - i)) (xs.drop i) := by
  obtain ⟨ao, cap', he, h2, h3, h4, h5⟩ := h
  injection he with e1 e2 e3
  subst e2
  subst e3
  refine ⟨some (frA b off cap i), cap - i, by simp, by simp; omega, by omega, by simp, ?_⟩
  intro h0
  simp at h0
  obtain ⟨b', off', hao, hb, hc⟩ := h5 (by omega)
  rw [hao] at e1
  cases e1
  have hne : ¬ cap = i := by omega
  refine ⟨b, off + i, by unfold frA; rw [if_neg hne], hb, ?_⟩
  intro k hk
  simp at hk
  rw [Nat.add_assoc, hc (i + k) (by omega)]
  simp
theorem sl_to_op (op : Oper) (a : Act) (s y : Operand) (b off n cap j : Nat) (ho : op.op = .slice 27 s none (some y) none) (hs : a.eval s = .slice (some ⟨b, off, none⟩) n cap) (hy : a.eval y = .int .i64 (j : Int)) (hj : j ≤ n) (hc : n ≤ cap) (hm : cap ≤ maxLen) (w : World) :
    (execOp a.eval op).run Tryd.prog w = .ok (.value (.slice (some ⟨b, off, none⟩) j cap)) w := by
  obtain ⟨i0, hi, hz0, hz1, hz2⟩ := info_parts strinfo
  have h2 : j ≤ cap := by omega
  simp [execOp, ho, hs, hy, Instr.sliceAt, Instr.slice, run_underlying Tryd.underlying27, Instr.sliceBounds, Instr.sliceBound, asIntOf, h2, sizeOf, typeInfo, hi, hz1, Result.andThen, Addr.add]
theorem sl_from_op (op : Oper) (a : Act) (s y : Operand) (b off n cap j : Nat) (ho : op.op = .slice 27 s (some y) none none) (hs : a.eval s = .slice (some ⟨b, off, none⟩) n cap) (hy : a.eval y = .int .i64 ((j : Int) + 1)) (hj : j < n) (hc : n ≤ cap) (hm : cap ≤ maxLen) (w : World) :
    (execOp a.eval op).run Tryd.prog w = .ok (.value (.slice (some (frA b off cap (j + 1))) (n - (j + 1)) (cap - (j + 1)))) w := by
  obtain ⟨i0, hi, hz0, hz1, hz2⟩ := info_parts strinfo
  have h2 : j + 1 ≤ cap := by omega
  have e1 : ((j : Int) + 1).toNat = j + 1 := by omega
  have e2 : (0 : Int) ≤ (j : Int) + 1 := by omega
  have e3 : (j : Int) + 1 ≤ (n : Int) := by omega
  have e4 : (n : Int) ≤ (cap : Int) := by omega
  simp [execOp, ho, hs, hy, Instr.sliceAt, Instr.slice, run_underlying Tryd.underlying27, Instr.sliceBounds, Instr.sliceBound, asIntOf, e1, e2, e3, e4, sizeOf, typeInfo, hi, hz1, Result.andThen]
  unfold frA
  split <;> simp_all [Addr.add]
def mixL (F L : List (List UInt8)) (j : Nat) : List (List UInt8) := F.take j ++ L.drop j
theorem mix_step {F L : List (List UInt8)} {j : Nat} (hF : F.length = L.length) (hj : j < L.length) : ((mixL F L j).take j ++ [F.getD j []]) ++ (mixL F L j).drop (j + 1) = mixL F L (j + 1) := by
  have h1 : (F.take j).length = j := by simp; omega
  unfold mixL
  rw [List.take_left' h1, List.drop_append, h1]
  have h2 : List.drop (j + 1) (F.take j) = [] := List.drop_eq_nil_of_le (by omega)
  rw [h2, List.nil_append, List.drop_drop, show j + (j + 1 - j) = j + 1 by omega, List.take_add_one]
  have : F[j]? = some (F.getD j []) := by simp [List.getD, hF, hj]
  rw [this]; simp
theorem mix_len {F L : List (List UInt8)} {j : Nat} (hF : F.length = L.length) (hj : j ≤ L.length) : (mixL F L j).length = L.length := by
  unfold mixL; simp; omega
theorem mix_at {F L : List (List UInt8)} {j : Nat} (hF : F.length = L.length) (hj : j < L.length) : (mixL F L j)[j]? = some (L.getD j []) := by
  have h1 : (F.take j).length = j := by simp; omega
  unfold mixL
  rw [List.getElem?_append_right (by omega), h1]
  simp [List.getD, hj]
theorem join_step {F : List (List UInt8)} {j : Nat} (hj : j < F.length) : joinL (F.take (j + 1)) = if j = 0 then F.getD j [] else joinL (F.take j) ++ [47] ++ F.getD j [] := by
  have : F[j]? = some (F.getD j []) := by simp [List.getD, hj]
  rw [List.take_add_one, this]
  show joinL (F.take j ++ [F.getD j []]) = _
  rw [joinL_snoc]
  by_cases h : j = 0
  · subst h; simp
  · rw [if_neg h, if_neg]
    intro e
    have : (F.take j).length = 0 := by rw [e]; rfl
    rw [List.length_take] at this
    omega
end Go.Proofs.YtkcflkgfipfdfaaDoor
