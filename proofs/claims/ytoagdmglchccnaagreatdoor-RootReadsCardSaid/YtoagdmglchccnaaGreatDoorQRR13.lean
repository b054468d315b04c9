/- A slice whose elements take k cells each, as a list: what is read of it, what is appended. It speaks of no program in particular. -/
import Derived.Test.YtoagdmglchccnaaGreatDoorQRR2
import Derived.Maps.AppendAt
namespace Go.Proofs.YtoagdmglchccnaaGreatDoor
open Go.RowKit
set_option linter.unusedVariables false
set_option linter.unusedSimpArgs false
section
variable {α : Type} {enc : α → List Value} {k : Nat}
theorem flat_len (hk : ∀ x, (enc x).length = k) : ∀ l : List α, (l.flatMap enc).length = l.length * k
  | [] => by simp
  | x :: r => by rw [List.flatMap_cons, List.length_append, hk, flat_len hk r, List.length_cons, Nat.add_mul, Nat.one_mul, Nat.add_comm]
theorem flat_get (hk : ∀ x, (enc x).length = k) : ∀ (l : List α) (j i : Nat) (hj : j < l.length) (hi : i < k), (l.flatMap enc)[j * k + i]? = (enc l[j])[i]?
  | x :: r, 0, i, _, hi => by
    rw [List.flatMap_cons, Nat.zero_mul, Nat.zero_add, List.getElem?_append_left (by rw [hk]; exact hi)]; rfl
  | x :: r, j + 1, i, hj, hi => by
    rw [List.flatMap_cons, List.getElem?_append_right (by rw [hk, Nat.add_mul]; omega), hk]
    rw [show (j + 1) * k + i - k = j * k + i by rw [Nat.add_mul, Nat.one_mul]; omega]
    exact flat_get hk r j i (by simpa using hj) hi
theorem flat_take (hk : ∀ x, (enc x).length = k) : ∀ (l : List α) (m : Nat), (l.flatMap enc).take (m * k) = (l.take m).flatMap enc
  | [], m => by simp
  | x :: r, 0 => by simp
  | x :: r, m + 1 => by
    rw [List.flatMap_cons, List.take_succ_cons, List.flatMap_cons, Nat.add_mul, Nat.one_mul, ← flat_take hk r m, List.take_append, hk, List.take_of_length_le (by rw [hk]; omega)]
    congr 2; omega
theorem flat_drop (hk : ∀ x, (enc x).length = k) : ∀ (l : List α) (m : Nat), (l.flatMap enc).drop (m * k) = (l.drop m).flatMap enc
  | [], m => by simp
  | x :: r, 0 => by simp
  | x :: r, m + 1 => by
    rw [List.flatMap_cons, List.drop_succ_cons, Nat.add_mul, Nat.one_mul, ← flat_drop hk r m, List.drop_append, hk, List.drop_of_length_le (by rw [hk]; omega), List.nil_append]
    congr 1; omega
def RdK (k : Nat) (enc : α → List Value) (w : World) (v : Value) (l : List α) : Prop :=
  ∃ ao cap, v = .slice ao l.length cap ∧ l.length ≤ cap ∧ cap ≤ maxLen ∧ (ao = none → cap = 0) ∧
    (0 < l.length → ∃ b off, ao = some ⟨b, off, none⟩ ∧ b < w.heap.size ∧ ∀ t, t < l.length * k → w.cell? ⟨b, off + t, none⟩ = (l.flatMap enc)[t]?)
theorem rdk_nil (w : World) : RdK k enc w (.slice none 0 0) [] := ⟨none, 0, rfl, by simp, by decide, by simp, by simp⟩
theorem RdK.below {w w' : World} {v : Value} {l : List α} (h : RdK k enc w v l) {B : Nat} (hb : Below B w w') (hB : w.heap.size ≤ B) : RdK k enc w' v l := by
  obtain ⟨ao, cap, h1, h2, h3, h4, h5⟩ := h
  refine ⟨ao, cap, h1, h2, h3, h4, ?_⟩
  intro hl
  obtain ⟨b, off, h6, h7, h8⟩ := h5 hl
  exact ⟨b, off, h6, Nat.lt_of_lt_of_le h7 hb.size, fun i hi => (hb.cell (p := ⟨b, off + i, none⟩) (Nat.lt_of_lt_of_le h7 hB)).trans (h8 i hi)⟩
theorem own_rdk (hk : ∀ x, (enc x).length = k) {w : World} {base : Nat} {e : TypeId} {v : Value} {l : List α} (h : w.ownsRow base e k v l.length (l.flatMap enc)) : RdK k enc w v l := by
  rcases h.2 with ⟨h1, h2⟩ | ⟨g, cap, cur, h1, _, _, h2, h3, _⟩
  · subst h1
    have : l = [] := List.eq_nil_of_length_eq_zero (by omega)
    subst this
    exact rdk_nil w
  · subst h1
    refine ⟨_, cap, rfl, h2, h3, by simp, ?_⟩
    intro _
    refine ⟨g, 0, rfl, (h.lt g rfl).2, ?_⟩
    intro i hi
    rw [Nat.zero_add, h.cellAt i hi]
/-- The slice as it stands: where it lies. -/
theorem RdK.open {w : World} {v : Value} {l : List α} (h : RdK k enc w v l) : ∃ ao cap, v = .slice ao l.length cap ∧ l.length ≤ cap ∧ cap ≤ 9223372036854775807 ∧ RdK k enc w (.slice ao l.length cap) l := by
  obtain ⟨ao, cap, h1, h2, h3, h4, h5⟩ := h
  exact ⟨ao, cap, h1, h2, by unfold maxLen at h3; omega, ao, cap, rfl, h2, h3, h4, h5⟩
theorem RdK.cell {w : World} {ao : Option Addr} {n cap : Nat} {l : List α} (hk : ∀ x, (enc x).length = k) (h : RdK k enc w (.slice ao n cap) l) (j : Nat) (hj : j < l.length) :
    ∃ b off, ao = some ⟨b, off, none⟩ ∧ b < w.heap.size ∧ ∀ i, i < k → w.cell? ⟨b, off + (j * k + i), none⟩ = (enc l[j])[i]? := by
  obtain ⟨ao', cap', h1, h2, h3, h4, h5⟩ := h
  cases h1
  obtain ⟨b, off, h6, h7, h8⟩ := h5 (by omega)
  refine ⟨b, off, h6, h7, fun i hi => ?_⟩
  have : j * k + i < l.length * k := by
    have := Nat.mul_le_mul_right k (show j + 1 ≤ l.length from hj)
    rw [Nat.add_mul, Nat.one_mul] at this
    omega
  rw [h8 _ this, flat_get hk l j i hj hi]
theorem RdK.short (hk : ∀ x, (enc x).length = k) {w : World} {ao : Option Addr} {n cap : Nat} {l : List α} (h : RdK k enc w (.slice ao n cap) l) (m : Nat) (hm : m ≤ n) : RdK k enc w (.slice ao m cap) (l.take m) := by
  obtain ⟨ao', cap', h1, h2, h3, h4, h5⟩ := h
  injection h1 with e1 e2 e3
  subst e1; subst e3
  have hlen : (l.take m).length = m := by simp; omega
  refine ⟨ao, cap, by rw [hlen], by omega, h3, h4, ?_⟩
  intro h0
  rw [hlen] at h0 ⊢
  obtain ⟨b, off, h6, h7, h8⟩ := h5 (by omega)
  refine ⟨b, off, h6, h7, fun i hi => ?_⟩
  have : i < l.length * k := Nat.lt_of_lt_of_le hi (Nat.mul_le_mul_right k (by omega))
  rw [h8 i this, ← flat_take hk, List.getElem?_take, if_pos hi]
/-- A cut of what is read. -/
theorem RdK.sliced (hk : ∀ x, (enc x).length = k) {w : World} {ao : Option Addr} {n cap : Nat} {l : List α} (h : RdK k enc w (.slice ao n cap) l) (i j : Nat) (hij : i ≤ j) (hj : j ≤ n) :
    RdK k enc w (.slice (if cap = i then ao else ao.map (·.add (i * k))) (j - i) (cap - i)) ((l.drop i).take (j - i)) := by
  obtain ⟨ao', cap', he, h2, h3, h4, h5⟩ := h
  cases he
  have hlen : ((l.drop i).take (j - i)).length = j - i := by simp; omega
  refine ⟨_, cap - i, by rw [hlen], by rw [hlen]; omega, by omega, ?_, ?_⟩
  · intro hn
    split at hn
    · rename_i hc; omega
    · have : ao = none := by simpa using hn
      have := h4 this
      omega
  · intro h0
    rw [hlen] at h0 ⊢
    obtain ⟨b, off, rfl, hb, hc⟩ := h5 (by omega)
    have hne : ¬ cap = i := by omega
    refine ⟨b, off + i * k, by simp [hne, Addr.add], hb, ?_⟩
    intro t ht
    have e1 : (j - i) * k + i * k = j * k := by rw [← Nat.add_mul, Nat.sub_add_cancel hij]
    have e2 : j * k ≤ l.length * k := Nat.mul_le_mul_right k (by omega)
    rw [Nat.add_assoc, hc (i * k + t) (by omega), ← flat_take hk, ← flat_drop hk, List.getElem?_take, if_pos ht, List.getElem?_drop]
/-- 'out = append(out, b...)', out the call's own, b what is read. -/
theorem wpList_app_rdk {P : Program} {ops : Array Oper} {rest : List Oper} {o : Oper} {a : Act} {Q : Exit → Act → World → Prop} {w : World} (hk : ∀ x, (enc x).length = k) (hk0 : 0 < k) (w0 : World) (hgd : o.guard = none) (s x : Operand) (t : TypeId)
    (ho : o.op = .call { callee := .builtin .append, args := #[s, x], argTypes := #[t, t] })
    (base : Nat) (e : TypeId) (i : TypeInfo) (z : Value) (bytes : Nat) (ht : P.underlying t = some (.slice e)) (hi : P.info? e = some i) (hz : i.zero = some z)
    (hsize : i.size = k) (hby : i.bytes = bytes) (hzs : z.cells.size = k)
    (v : Value) (xs : List α) (hs : a.eval s = v) (hown : w.ownsRow base e k v xs.length (xs.flatMap enc)) (vx : Value) (l : List α) (hx : a.eval x = vx) (hr : RdK k enc w vx l) (hone : ∀ y : α, ∀ u ∈ enc y, u.oneCell' = true)
    (h63 : xs.length + l.length ≤ maxLen) (hbytes : (xs.length + l.length) * bytes ≤ 140737488355328) (hbase : base ≤ w0.heap.size) (hb : Below base w0 w)
    (hK : ∀ v' w', w'.ownsRow base e k v' (xs ++ l).length ((xs ++ l).flatMap enc) → Below base w0 w' → (∀ q, v'.ownBlock = some q → v.ownBlock = some q ∨ w.heap.size ≤ q) → wpList P ops Q rest (a.put o.dst v') w') :
    wpList P ops Q (o :: rest) a w := by
  obtain ⟨ao, cap, rfl, h2, h3, h4, h5⟩ := hr
  have hb1 : base ≤ w.heap.size := Nat.le_trans hbase hb.size
  cases ao with
  | none =>
    have h6 := h4 rfl
    obtain rfl : l = [] := List.eq_nil_of_length_eq_zero (by omega)
    subst h6
    exact wpList_append_own_none hgd s x t ho base e i k ht hi v xs.length _ hs hown hx (hK v w (by simpa using hown) hb fun q hq => .inl hq)
  | some ad =>
    refine wpList_append_own_at _ hgd s x t ho base e i z k bytes ht hi hz hsize hby hzs hk0 v xs.length _ hs hown ad l.length cap (l.flatMap enc) hx (flat_len hk l) ?_ ?_ h63 hbytes hb1 ?_
    · intro j u hj
      have hjl : j < l.length * k := by have := (List.getElem?_eq_some_iff.1 hj).1; rwa [flat_len hk] at this
      have hl0 : 0 < l.length := by
        rcases Nat.eq_zero_or_pos l.length with h | h
        · rw [h] at hjl; omega
        · exact h
      obtain ⟨b, off, he, _, hc⟩ := h5 hl0
      cases he
      rw [Addr.add_lit, hc j hjl, hj]
    · intro u hu
      obtain ⟨y, _, hy⟩ := List.mem_flatMap.1 hu
      exact hone y u hy
    · intro v' w' h1 h2 h3 h9
      exact hK v' w' (by rw [List.length_append, List.flatMap_append]; exact h1) (grown_below hb hbase hown h2) (fun q hq => h9.elim (fun e => .inl (e ▸ hq)) (fun e => .inr (by rw [e] at hq; cases hq; exact Nat.le_refl _)))
/-- 'out = append(out, x)', out the call's own, x an element of k cells. -/
theorem wpList_app1k {P : Program} {ops : Array Oper} {rest : List Oper} {o : Oper} {a : Act} {Q : Exit → Act → World → Prop} {w : World} (hk : ∀ x, (enc x).length = k) (hk0 : 0 < k) (w0 : World) (hgd : o.guard = none) (s x : Operand) (t : TypeId)
    (ho : o.op = .call { callee := .builtin .append, args := #[s, x], argTypes := #[t, t] })
    (base : Nat) (e : TypeId) (i : TypeInfo) (z : Value) (bytes : Nat) (ht : P.underlying t = some (.slice e)) (hi : P.info? e = some i) (hz : i.zero = some z)
    (hsize : i.size = k) (hby : i.bytes = bytes) (hzs : z.cells.size = k)
    (v : Value) (xs : List α) (hs : a.eval s = v) (hown : w.ownsRow base e k v xs.length (xs.flatMap enc)) (e' : TypeId) (y : α) (cs : List Value) (hcs : cs = enc y)
    (hx : a.eval x = .slice (some ⟨w.heap.size, 0, none⟩) 1 1) (hone : ∀ y : α, ∀ u ∈ enc y, u.oneCell' = true)
    (h63 : xs.length + 1 ≤ maxLen) (hbytes : (xs.length + 1) * bytes ≤ 140737488355328) (hbase : base ≤ w0.heap.size) (hb : Below base w0 w)
    (hK : ∀ v' w', w'.ownsRow base e k v' (xs ++ [y]).length ((xs ++ [y]).flatMap enc) → Below base w0 w' → (∀ q, v'.ownBlock = some q → v.ownBlock = some q ∨ w.heap.size ≤ q) → wpList P ops Q rest (a.put o.dst v') w') :
    wpList P ops Q (o :: rest) a (w.alloc (.cells cs.toArray e')) := by
  subst hcs
  have hb1 : base ≤ w.heap.size := Nat.le_trans hbase hb.size
  refine wpList_append_own_at _ hgd s x t ho base e i z k bytes ht hi hz hsize hby hzs hk0 v xs.length _ hs (hown.alloc _) ⟨w.heap.size, 0, none⟩ 1 1 (enc y) hx (by rw [hk, Nat.one_mul]) ?_ ?_ h63 hbytes (by simp; omega) ?_
  · intro j u hj
    have e : Addr.add ⟨w.heap.size, 0, none⟩ j = ⟨w.heap.size, j, none⟩ := by rw [Addr.add_lit, Nat.zero_add]
    rw [e, block_cell (heap_alloc_new w _) j]
    simpa using hj
  · exact hone y
  · intro v' w' h1 h2 h3 h9
    refine hK v' w' (by rw [List.length_append, List.flatMap_append]; simpa using h1) (grown_below (hb.alloc hb1 _) hbase (hown.alloc _) h2) (fun q hq => h9.elim (fun e => .inl (e ▸ hq)) (fun e => .inr (by rw [e] at hq; cases hq; simp)))
end
end Go.Proofs.YtoagdmglchccnaaGreatDoor
