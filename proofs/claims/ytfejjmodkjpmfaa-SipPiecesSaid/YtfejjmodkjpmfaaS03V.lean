/- Rows of the call's own, apart from one another; append that tells which block it turns. -/
import Derived.Test.YtfejjmodkjpmfaaS03L
import Derived.Maps.AppendAt
namespace Go.Proofs.Ytfejjmodkjpmfaa
open Go.RowKit
set_option linter.unusedVariables false
theorem own_apart {w : World} {base : Nat} {e : TypeId} {size : Nat} {v : Value} {n B : Nat} {xs : List Value} (h : w.ownsRow base e size v n xs) (hB : B < base) : v.ownBlock = none ∨ v.ownBlock ≠ some B := by
  rcases h.2 with ⟨rfl, _⟩ | ⟨g, cap, cur, rfl, hb, _⟩
  · exact .inl rfl
  · exact .inr (fun e => by change some g = some B at e; injection e with e; omega)
theorem own_apart_own {w : World} {base b2 : Nat} {e e2 : TypeId} {s s2 : Nat} {v v2 : Value} {n n2 : Nat} {xs xs2 : List Value} (h : w.ownsRow base e s v n xs) (hlt : ∀ g, v.ownBlock = some g → g < b2) (h2 : ∀ g, v2.ownBlock = some g → b2 ≤ g) : v.ownBlock = none ∨ v.ownBlock ≠ v2.ownBlock := by
  cases hv : v.ownBlock with
  | none => exact .inl rfl
  | some g =>
    refine .inr (fun e => ?_)
    have a := hlt g hv
    have b := h2 g e.symm
    omega
/-- 'out = append(out, b...)', out the call's own, b bytes that are read: and which block turns. -/
theorem wpList_app_rd2 {P : Program} {ops : Array Oper} {rest : List Oper} {o : Oper} {a : Act} {Q : Exit → Act → World → Prop} {w : World} (hgd : o.guard = none) (s x : Operand) (t : TypeId)
    (ho : o.op = .call { callee := .builtin .append, args := #[s, x], argTypes := #[t, t] })
    (base : Nat) (e : TypeId) (i : TypeInfo) (z : Value) (bytes : Nat) (ht : P.underlying t = some (.slice e)) (hi : P.info? e = some i) (hz : i.zero = some z)
    (hsize : i.size = 1) (hby : i.bytes = bytes) (hzs : z.cells.size = 1)
    (v : Value) (n : Nat) (xs : List Value) (hs : a.eval s = v) (hown : w.ownsRow base e 1 v n xs) (vx : Value) (l : List UInt8) (hx : a.eval x = vx) (hr : Rd w vx l)
    (h63 : n + l.length ≤ maxLen) (hbytes : (n + l.length) * bytes ≤ 140737488355328) (hbase : base ≤ w.heap.size)
    (hK : ∀ v' w', w'.ownsRow base e 1 v' (n + l.length) (xs ++ l.map bv) → w.grownBy w' v.ownBlock → (v'.ownBlock = v.ownBlock ∨ v'.ownBlock = some w.heap.size) → wpList P ops Q rest (a.put o.dst v') w') :
    wpList P ops Q (o :: rest) a w := by
  obtain ⟨ao, cap, rfl, h2, h3, h4, h5⟩ := hr
  cases ao with
  | none =>
    have h6 := h4 rfl
    obtain rfl : l = [] := List.eq_nil_of_length_eq_zero (by omega)
    subst h6
    exact wpList_append_own_none hgd s x t ho base e i 1 ht hi v n xs hs hown hx (hK v w (by simpa using hown) grown_reflB (.inl rfl))
  | some ad =>
    refine wpList_append_own_at _ hgd s x t ho base e i z 1 bytes ht hi hz hsize hby hzs (by decide) v n xs hs hown ad l.length cap (l.map bv) hx (by simp) ?_ ?_ h63 hbytes hbase (fun v' w' k1 k2 _ k4 => hK v' w' k1 k2 k4)
    · intro j u hj
      have hjl : j < l.length := by have := (List.getElem?_eq_some_iff.1 hj).1; simpa using this
      obtain ⟨b, off, he, _, hc⟩ := h5 (by omega)
      cases he
      rw [Addr.add_lit, hc j hjl]
      simp [hjl] at hj
      simp [hjl, hj]
    · intro u hu
      obtain ⟨b, _, rfl⟩ := List.mem_map.1 hu
      rfl
theorem own_below {w w' : World} {base : Nat} {e : TypeId} {size : Nat} {v : Value} {n : Nat} {xs : List Value} (h : w.ownsRow base e size v n xs) (g : Below w.heap.size w w') : w'.ownsRow base e size v n xs :=
  h.kept (below_grown0 g) (by
    cases hv : v.ownBlock with
    | none => exact .inl rfl
    | some b => exact .inr (by simp))
theorem own_apart_own2 {w w2 : World} {base b2 : Nat} {e e2 : TypeId} {s s2 : Nat} {v v2 : Value} {n n2 : Nat} {xs xs2 : List Value} (h : w.ownsRow base e s v n xs) (hb : w.heap.size ≤ b2) (h2 : w2.ownsRow b2 e2 s2 v2 n2 xs2) : v2.ownBlock = none ∨ v2.ownBlock ≠ v.ownBlock := by
  cases hv : v2.ownBlock with
  | none => exact .inl rfl
  | some g =>
    refine .inr (fun e => ?_)
    have a := (h2.lt g hv).1
    have b := (h.lt g e.symm).2
    omega
theorem ne_of_apart {v : Value} {B : Nat} (h : v.ownBlock = none ∨ v.ownBlock ≠ some B) : v.ownBlock ≠ some B := by
  rcases h with h | h
  · rw [h]; simp
  · exact h
theorem grown_far {w x y : World} {B : Nat} {row : Option Nat} (h : w.grownBy x (some B)) (g : x.grownBy y row) (hr : ∀ b, row = some b → w.heap.size ≤ b) : w.grownBy y (some B) :=
  ⟨g.os.trans h.os, g.tape.trans h.tape, g.output.trans h.output, Nat.le_trans h.size g.size, fun k hk hn => (g.block k (Nat.lt_of_lt_of_le hk h.size) (fun e => by have := hr k (by first | exact e | exact e.symm); omega)).trans (h.block k hk hn)⟩
theorem own_apart6 {v6 vA v8 : Value} {N b2 : Nat} (loc : v6.ownBlock = vA.ownBlock ∨ v6.ownBlock = some N) (hA : ∀ g, vA.ownBlock = some g → g < b2) (h8 : ∀ g, v8.ownBlock = some g → b2 ≤ g ∧ g < N) : v6.ownBlock = none ∨ v6.ownBlock ≠ v8.ownBlock := by
  cases hv : v6.ownBlock with
  | none => exact .inl rfl
  | some g =>
    refine .inr (fun e => ?_)
    have b := h8 g e.symm
    rcases loc with l | l
    · have a := hA g (l.symm.trans hv)
      omega
    · have : g = N := by rw [hv] at l; injection l
      omega
theorem below_of_new {w w' : World} {o : Obj} (g : (w.alloc o).grownBy w' (some w.heap.size)) : Below w.heap.size w w' :=
  ⟨g.os, g.tape, g.output, by have := g.size; simp at this; omega, fun k hk => (g.block k (by simp; omega) (by simp; omega)).trans (heap_alloc_old w _ hk)⟩
end Go.Proofs.Ytfejjmodkjpmfaa
