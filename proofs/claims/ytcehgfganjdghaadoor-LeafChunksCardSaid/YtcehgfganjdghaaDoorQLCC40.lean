/- Slices whose elements are slices; a cut of a slice, and an append, as single operations. -/
import Derived.Test.YtcehgfganjdghaaDoorQLCC3
import Derived.Test.YtcehgfganjdghaaDoorQLCC20
import Derived.Test.YtcehgfganjdghaaDoorQLCC39
import Derived.Test.YtcehgfganjdghaaDoorQLCC36
namespace Go.Proofs.YtcehgfganjdghaaDoor
open Go Go.RowKit
set_option linter.unusedVariables false
set_option linter.unusedSimpArgs false
def vC (v : Value) : List Value := [v]
theorem vC_len (v : Value) : (vC v).length = 1 := rfl
theorem vC_flat : ∀ us : List Value, us.flatMap vC = us
  | [] => rfl
  | u :: r => by rw [List.flatMap_cons, vC_flat r]; rfl
section
variable {α : Type} {enc : α → List Value} {k : Nat}
theorem RdK.openN {w : World} {v : Value} {l : List α} {N : Nat} (h : RdK k enc w v l) (hn : l.length = N) : ∃ ao cap, v = .slice ao N cap ∧ N ≤ cap ∧ cap ≤ 9223372036854775807 ∧ RdK k enc w (.slice ao N cap) l := by
  subst hn; exact h.open
/-- A cut of a slice, as one operation. -/
def CutK (T : TypeId) (ao : Option Addr) (n cap i j : Nat) (A : Value) : Prop := ∀ (op : Oper) (a : Act) (s : Operand) (x y : Option Operand), op.op = .slice T s x y none → a.eval s = .slice ao n cap → ((x = none ∧ i = 0) ∨ ∃ u kx, x = some u ∧ a.eval u = .int kx (i : Int)) → ((y = none ∧ j = n) ∨ ∃ u ky, y = some u ∧ a.eval u = .int ky (j : Int)) → ∀ w', (execOp a.eval op).run Tryd.prog w' = .ok (.value A) w'
theorem CutK.to {T : TypeId} {ao : Option Addr} {n cap j : Nat} {A : Value} (h : CutK T ao n cap 0 j A) (op : Oper) (a : Act) (s u : Operand) (ky : IntKind) (ho : op.op = .slice T s none (some u) none) (hs : a.eval s = .slice ao n cap) (hu : a.eval u = .int ky (j : Int)) (w' : World) : (execOp a.eval op).run Tryd.prog w' = .ok (.value A) w' :=
  h op a s none (some u) ho hs (.inl ⟨rfl, rfl⟩) (.inr ⟨u, ky, rfl, hu⟩) w'
theorem CutK.from {T : TypeId} {ao : Option Addr} {n cap i : Nat} {A : Value} (h : CutK T ao n cap i n A) (op : Oper) (a : Act) (s u : Operand) (ky : IntKind) (ho : op.op = .slice T s (some u) none none) (hs : a.eval s = .slice ao n cap) (hu : a.eval u = .int ky (i : Int)) (w' : World) : (execOp a.eval op).run Tryd.prog w' = .ok (.value A) w' :=
  h op a s (some u) none ho hs (.inr ⟨u, ky, rfl, hu⟩) (.inl ⟨rfl, rfl⟩) w'
theorem rdk_cutk (hk : ∀ x, (enc x).length = k) {T e : TypeId} {ti : TypeInfo} (ht : Tryd.prog.underlying T = some (.slice e)) (hi : Tryd.prog.info? e = some ti) (hz : ti.size = k) {W : World} {ao : Option Addr} {n cap : Nat} {l : List α} (h : RdK k enc W (.slice ao n cap) l) (i j : Nat) (hij : i ≤ j) (hj : j ≤ n) :
    ∃ A, RdK k enc W A ((l.drop i).take (j - i)) ∧ CutK T ao n cap i j A := by
  refine ⟨_, h.sliced hk i j hij hj, ?_⟩
  intro op a s x y ho hs hx hy w'
  have hnc : n ≤ cap := by obtain ⟨_, _, he, h3, _⟩ := h; cases he; exact h3
  have b0 : (0 : Int) ≤ (i : Int) := by omega
  have b1 : (0 : Int) ≤ (j : Int) := by omega
  have b2 : (j : Int) ≤ (cap : Int) := by omega
  have b3 : (i : Int) ≤ (j : Int) := by omega
  have b4 : j ≤ cap := by omega
  rcases hx with ⟨rfl, rfl⟩ | ⟨u, kx, rfl, hx⟩ <;> rcases hy with ⟨rfl, rfl⟩ | ⟨u2, ky, rfl, hy⟩
  · simp [execOp, ho, hs, Instr.sliceAt, Instr.slice, run_underlying ht, Instr.sliceBounds, Instr.sliceBound, asIntOf, sizeOf, typeInfo, hi, hz, Result.andThen, hnc]
  · simp [execOp, ho, hs, hy, Instr.sliceAt, Instr.slice, run_underlying ht, Instr.sliceBounds, Instr.sliceBound, asIntOf, b0, b1, b2, b4, sizeOf, typeInfo, hi, hz, Result.andThen]
  · simp [execOp, ho, hs, hx, Instr.sliceAt, Instr.slice, run_underlying ht, Instr.sliceBounds, Instr.sliceBound, asIntOf, b0, b3, sizeOf, typeInfo, hi, hz, Result.andThen, hnc, hj, hij]
  · simp [execOp, ho, hs, hx, hy, Instr.sliceAt, Instr.slice, run_underlying ht, Instr.sliceBounds, Instr.sliceBound, asIntOf, b0, b1, b2, b3, b4, hij, sizeOf, typeInfo, hi, hz, Result.andThen]
/-- 'append(out, b...)' as one operation, out the call's own, b what is read. -/
theorem op_app_rdk {P : Program} {o : Oper} {a : Act} {K : Act → World → Prop} {Q : Exit → Act → World → Prop} {w : World} (hk : ∀ x, (enc x).length = k) (hk0 : 0 < k) (w0 : World) (s x : Operand) (t : TypeId)
    (ho : o.op = .call { callee := .builtin .append, args := #[s, x], argTypes := #[t, t] })
    (base : Nat) (e : TypeId) (i : TypeInfo) (z : Value) (bytes : Nat) (ht : P.underlying t = some (.slice e)) (hi : P.info? e = some i) (hz : i.zero = some z)
    (hsize : i.size = k) (hby : i.bytes = bytes) (hzs : z.cells.size = k)
    (v : Value) (xs : List α) (hs : a.eval s = v) (hown : w.ownsRow base e k v xs.length (xs.flatMap enc)) (vx : Value) (l : List α) (hx : a.eval x = vx) (hr : RdK k enc w vx l) (hone : ∀ y ∈ l, ∀ u ∈ enc y, u.oneCell' = true)
    (h63 : xs.length + l.length ≤ maxLen) (hbytes : (xs.length + l.length) * bytes ≤ 140737488355328) (hbase : base ≤ w0.heap.size) (hb : Below base w0 w)
    (hK : ∀ v' w', w'.ownsRow base e k v' (xs ++ l).length ((xs ++ l).flatMap enc) → Below base w0 w' → w.grownBy w' v.ownBlock → (v'.ownBlock = v.ownBlock ∨ v'.ownBlock = some w.heap.size) → K (a.put o.dst v') w') :
    o.wp P a w K Q := by
  obtain ⟨ao, cap, rfl, h2, h3, h4, h5⟩ := hr
  have hb1 : base ≤ w.heap.size := Nat.le_trans hbase hb.size
  cases ao with
  | none =>
    have h6 := h4 rfl
    obtain rfl : l = [] := List.eq_nil_of_length_eq_zero (by omega)
    subst h6
    have hrun := run_append_owned_none (P := P) (w := w) base t o.type e i k ht hi v xs.length _ hown
    unfold Oper.wp
    simp [execOp, ho, resolve, invoke, builtin, hs, hx, hrun, Result.andThen]
    exact hK v w (by simpa using hown) hb ⟨rfl, rfl, rfl, Nat.le_refl _, fun _ _ _ => rfl⟩ (.inl rfl)
  | some ad =>
    obtain ⟨v', w', hrun, c2, c3, c4, c5⟩ := run_append_own_at (P := P) w base t o.type e i z k bytes ht hi hz hsize hby hzs hk0 v xs.length _ hown ad l.length cap (l.flatMap enc) (flat_len hk l) (by
      intro j u hj
      have hjl : j < l.length * k := by have := (List.getElem?_eq_some_iff.1 hj).1; rwa [flat_len hk] at this
      have hl0 : 0 < l.length := by
        rcases Nat.eq_zero_or_pos l.length with h | h
        · rw [h] at hjl; omega
        · exact h
      obtain ⟨b, off, he, _, hc⟩ := h5 hl0
      cases he
      rw [Addr.add_lit, hc j hjl, hj]) (by
      intro u hu
      obtain ⟨y, hy0, hy⟩ := List.mem_flatMap.1 hu
      exact hone y hy0 u hy) h63 hbytes hb1
    unfold Oper.wp execOp
    simp only [ho, resolve, invoke, builtin, Sem.run_bind, Sem.run_pure, Result.andThen_ok, List.map_toArray, List.map_cons, List.map_nil, hs, hx, hrun]
    exact hK v' w' (by rw [List.length_append, List.flatMap_append]; exact c2) (grown_below hb hbase hown c3) c3 c5
end
/-- Values that read as lists of bytes. -/
def RdU (w : World) (us : List Value) (ls : List (List UInt8)) : Prop := us.length = ls.length ∧ ∀ (j : Nat) (u : Value), us[j]? = some u → ∃ l : List UInt8, ls[j]? = some l ∧ Rd w u l
theorem RdU.below {w w' : World} {us : List Value} {ls : List (List UInt8)} (h : RdU w us ls) {B : Nat} (g : Below B w w') (hB : w.heap.size ≤ B) : RdU w' us ls :=
  ⟨h.1, fun j u hj => (h.2 j u hj).imp fun l x => ⟨x.1, x.2.below g hB⟩⟩
theorem RdU.at {w : World} {us : List Value} {ls : List (List UInt8)} (h : RdU w us ls) (j : Nat) (hj : j < ls.length) : ∃ (hu : j < us.length), Rd w us[j] ls[j] := by
  have hu : j < us.length := by rw [h.1]; exact hj
  obtain ⟨l, h1, h2⟩ := h.2 j us[j] (List.getElem?_eq_getElem hu)
  rw [List.getElem?_eq_getElem hj] at h1
  cases h1
  exact ⟨hu, h2⟩
theorem rd_one {w : World} {v : Value} {l : List UInt8} (h : Rd w v l) : v.oneCell' = true := by
  obtain ⟨ao, cap, rfl, _⟩ := h; rfl
theorem RdU.one {w : World} {us : List Value} {ls : List (List UInt8)} (h : RdU w us ls) : ∀ y ∈ us, ∀ u ∈ vC y, u.oneCell' = true := by
  intro y hy u hu
  simp only [vC, List.mem_singleton] at hu
  subst hu
  obtain ⟨j, hj, rfl⟩ := List.mem_iff_getElem.1 hy
  obtain ⟨l, _, h2⟩ := h.2 j _ (List.getElem?_eq_getElem hj)
  exact rd_one h2
theorem rdk_of_rdp {w : World} {v : Value} {ls : List (List UInt8)} (h : RdP w v ls) : ∃ us, RdK 1 vC w v us ∧ RdU w us ls := by
  obtain ⟨ao, cap, rfl, h2, h3, hn, h4⟩ := h
  by_cases h0 : 0 < ls.length
  · obtain ⟨b, off, rfl, hb, hc⟩ := h4 h0
    have pick : ∃ f : Nat → Value, ∀ i, i < ls.length → w.cell? ⟨b, off + i, none⟩ = some (f i) ∧ Rd w (f i) (ls.getD i []) := by
      refine ⟨fun i => if h : i < ls.length then (hc i h).choose else undef, fun i hi => ?_⟩
      simp only [hi, dite_true]
      exact (hc i hi).choose_spec
    obtain ⟨f, hf⟩ := pick
    have hl : ((List.range ls.length).map f).length = ls.length := by simp
    refine ⟨(List.range ls.length).map f, ⟨_, cap, by rw [hl], by rw [hl]; exact h2, h3, by simp, fun _ => ⟨b, off, rfl, hb, fun t ht => ?_⟩⟩, hl, fun j u hj => ?_⟩
    · rw [hl, Nat.mul_one] at ht
      rw [vC_flat, (hf t ht).1]
      simp [ht]
    · have hj2 : j < ls.length := by have := (List.getElem?_eq_some_iff.1 hj).1; rwa [hl] at this
      simp [hj2] at hj
      subst hj
      have := (hf j hj2).2
      refine ⟨ls[j], List.getElem?_eq_getElem hj2, ?_⟩
      simpa [List.getD, hj2] using this
  · obtain rfl : ls = [] := List.eq_nil_of_length_eq_zero (by omega)
    refine ⟨[], ?_, rfl, fun j u hj => by simp at hj⟩
    exact ⟨ao, cap, rfl, Nat.zero_le _, h3, hn, by simp⟩
theorem rdp_of_rdk {w : World} {v : Value} {us : List Value} {ls : List (List UInt8)} (h : RdK 1 vC w v us) (hu : RdU w us ls) : RdP w v ls := by
  obtain ⟨ao, cap, rfl, h2, h3, h4, h5⟩ := h
  rw [hu.1] at h2 h5 ⊢
  refine ⟨ao, cap, rfl, h2, h3, h4, fun h0 => ?_⟩
  obtain ⟨b, off, h6, h7, h8⟩ := h5 h0
  refine ⟨b, off, h6, h7, fun i hi => ?_⟩
  obtain ⟨hiu, hr⟩ := hu.at i hi
  refine ⟨us[i], ?_, by simpa [List.getD, hi] using hr⟩
  rw [h8 i (by omega), vC_flat, List.getElem?_eq_getElem hiu]
/-- What hands back a list of lists of bytes, read. -/
theorem chR_rd {w w' : World} {v' : Value} {vs : List Value} {ls : List (List UInt8)} (h1 : w'.ownsRow w.heap.size 58 1 v' vs.length vs) (h2 : RowB w' w.heap.size vs ls) : RdK 1 vC w' v' vs ∧ RdU w' vs ls :=
  ⟨own_rdk vC_len (by rw [vC_flat]; exact h1), h2.1, fun j u hj => (h2.2 j u hj).imp fun l x => ⟨x.1, own_rd' x.2⟩⟩
theorem own_types_ne {W : World} {b b' : Nat} {e e' : TypeId} {k k' n n' : Nat} {v v' : Value} {xs xs' : List Value} (h : W.ownsRow b e k v n xs) (h' : W.ownsRow b' e' k' v' n' xs') (he : e ≠ e') : v.ownBlock = none ∨ v.ownBlock ≠ v'.ownBlock := by
  rcases h.2 with ⟨rfl, _⟩ | ⟨g, cap, cur, rfl, _, hg, _⟩
  · exact .inl rfl
  · refine .inr ?_
    rcases h'.2 with ⟨rfl, _⟩ | ⟨g', cap', cur', rfl, _, hg', _⟩
    · simp [Value.ownBlock]
    · intro hh
      simp [Value.ownBlock] at hh
      subst hh
      rw [hg] at hg'
      cases hg'
      exact he rfl
/-- A slice of slices that was there, or is the call's own. -/
def ChV (w0 w : World) (v : Value) (us : List Value) : Prop := RdK 1 vC w0 v us ∨ w.ownsRow w0.heap.size 58 1 v us.length us
theorem ChV.rd {w0 w : World} {v : Value} {us : List Value} (h : ChV w0 w v us) (b : Below w0.heap.size w0 w) : RdK 1 vC w v us :=
  h.elim (fun h => h.below b (Nat.le_refl _)) (fun h => own_rdk vC_len (by rw [vC_flat]; exact h))
theorem ChV.keep {w0 w w' : World} {v : Value} {us : List Value} (h : ChV w0 w v us) (g : Below w.heap.size w w') : ChV w0 w' v us :=
  h.imp id (fun h => own_keep h g)
theorem ChV.kept {w0 w w' : World} {v x : Value} {us xs : List Value} {e : TypeId} {k n : Nat} (h : ChV w0 w v us) (hx : w.ownsRow w0.heap.size e k x n xs) (he : 58 ≠ e) (g : w.grownBy w' x.ownBlock) : ChV w0 w' v us :=
  h.imp id (fun h => h.kept g (own_types_ne h hx he))
/-- 'out = append(out, x)': the law that tells what else stays. -/
theorem wpList_app1g {α : Type} {enc : α → List Value} {k : Nat} {P : Program} {ops : Array Oper} {rest : List Oper} {o : Oper} {a : Act} {Q : Exit → Act → World → Prop} {w : World} (hk : ∀ x, (enc x).length = k) (hk0 : 0 < k) (w0 : World) (hgd : o.guard = none) (s x : Operand) (t : TypeId)
    (ho : o.op = .call { callee := .builtin .append, args := #[s, x], argTypes := #[t, t] })
    (base : Nat) (e : TypeId) (i : TypeInfo) (z : Value) (bytes : Nat) (ht : P.underlying t = some (.slice e)) (hi : P.info? e = some i) (hz : i.zero = some z)
    (hsize : i.size = k) (hby : i.bytes = bytes) (hzs : z.cells.size = k)
    (v : Value) (xs : List α) (hs : a.eval s = v) (hown : w.ownsRow base e k v xs.length (xs.flatMap enc)) (e' : TypeId) (y : α) (cs : List Value) (hcs : cs = enc y)
    (hx : a.eval x = .slice (some ⟨w.heap.size, 0, none⟩) 1 1) (hone : ∀ u ∈ enc y, u.oneCell' = true)
    (h63 : xs.length + 1 ≤ maxLen) (hbytes : (xs.length + 1) * bytes ≤ 140737488355328) (hbase : base ≤ w0.heap.size) (hb : Below base w0 w)
    (hK : ∀ v' w', w'.ownsRow base e k v' (xs ++ [y]).length ((xs ++ [y]).flatMap enc) → Below base w0 w' → (w.alloc (.cells cs.toArray e')).grownBy w' v.ownBlock → wpList P ops Q rest (a.put o.dst v') w') :
    wpList P ops Q (o :: rest) a (w.alloc (.cells cs.toArray e')) := by
  subst hcs
  have hb1 : base ≤ w.heap.size := Nat.le_trans hbase hb.size
  refine wpList_append_own_at _ hgd s x t ho base e i z k bytes ht hi hz hsize hby hzs hk0 v xs.length _ hs (hown.alloc _) ⟨w.heap.size, 0, none⟩ 1 1 (enc y) hx (by rw [hk, Nat.one_mul]) ?_ ?_ h63 hbytes (by simp; omega) ?_
  · intro j u hj
    have e : Addr.add ⟨w.heap.size, 0, none⟩ j = ⟨w.heap.size, j, none⟩ := by rw [Addr.add_lit, Nat.zero_add]
    rw [e, block_cell (heap_alloc_new w _) j]
    simpa using hj
  · exact hone
  · intro v' w' h1 h2 h3 h9
    exact hK v' w' (by rw [List.length_append, List.flatMap_append]; simpa using h1) (grown_below (hb.alloc hb1 _) hbase (hown.alloc _) h2) h2
end Go.Proofs.YtcehgfganjdghaaDoor
