/- A list and a table side by side; what is asked, opened. Written by wip/tools/gen2i.py. -/
import Derived.Test.YtblhgliegoickaaDoorT2H
import Derived.Test.YtblhgliegoickaaDoorT2L
namespace Go.Proofs.YtblhgliegoickaaDoor
open Go Go.RowKit Go.Maps
open Go.ChangeShapes Go.WideShapes Go.ChangeAt
set_option linter.unusedVariables false
set_option linter.unusedSimpArgs false
structure Two (w : World) (base B M : Nat) (v : Value) (L : List Txt) (lv : Value) (K : List Txt) : Prop where
  tb : TB w base B M v L
  row : w.ownsRow base 9 1 lv K.length (K.map sv)
  ne : ∀ k, lv.ownBlock = some k → ¬ ownR B M v k
theorem own_trn {own : Nat → Prop} {w w' : World} {b : Nat} {e : TypeId} {size : Nat} {v : Value} {n : Nat} {xs : List Value} (h : w.ownsRow b e size v n xs) (t : Trn own w w') (hn : ∀ k, v.ownBlock = some k → ¬ own k) : w'.ownsRow b e size v n xs := by
  refine ⟨h.1, ?_⟩
  rcases h.2 with h1 | ⟨g, cap, cur, rfl, h2, h3, h4⟩
  · exact .inl h1
  · exact .inr ⟨g, cap, cur, rfl, h2, (t.block g (lt_of_block h3) (hn g rfl)).trans h3, h4⟩
theorem own_lt {w : World} {b : Nat} {e : TypeId} {size : Nat} {v : Value} {n : Nat} {xs : List Value} (h : w.ownsRow b e size v n xs) : ∀ k, v.ownBlock = some k → b ≤ k ∧ k < w.heap.size := fun k hk => by
  have := h.lt k hk
  exact this
theorem Two.of {w w' : World} {base B M : Nat} {v v' lv : Value} {L L' K : List Txt} (h : Two w base B M v L lv K) (tb : TB w' base B M v' L') (t : Trn (ownR B M v) w w') (hv : ∀ k, v'.ownBlock = some k → v.ownBlock = some k ∨ w.heap.size ≤ k) : Two w' base B M v' L' lv K := by
  refine ⟨tb, own_trn h.row t h.ne, fun k hk ho => ?_⟩
  rcases ho with e | e | e
  · exact h.ne k hk (.inl e)
  · exact h.ne k hk (.inr (.inl e))
  · rcases hv k e with e | e
    · exact h.ne k hk (.inr (.inr e))
    · have := (own_lt h.row k hk).2; omega
theorem Two.ref {w w' : World} {base B M : Nat} {v lv lv' : Value} {L K K' : List Txt} (h : Two w base B M v L lv K) (r : w'.ownsRow base 9 1 lv' K'.length (K'.map sv)) (t : Trn (fun k => lv.ownBlock = some k) w w') (hv : ∀ k, lv'.ownBlock = some k → lv.ownBlock = some k ∨ w.heap.size ≤ k) : Two w' base B M v L lv' K' := by
  have hlt : ∀ k, ownR B M v k → k < w.heap.size := by
    rintro k (rfl | rfl | e)
    · exact lt_of_block h.tb.blk
    · obtain ⟨es, clock, h3, _⟩ := h.tb.map; exact lt_of_block h3
    · exact (own_lt h.tb.row k e).2
  refine ⟨h.tb.kept fun k hk ho => t.block k hk fun e => h.ne k e ho, r, fun k hk ho => ?_⟩
  rcases hv k hk with e | e
  · exact h.ne k e ho
  · have := hlt k ho; omega
theorem Two.below {w w' : World} {base B M : Nat} {v lv : Value} {L K : List Txt} (h : Two w base B M v L lv K) (g : Below w.heap.size w w') : Two w' base B M v L lv K :=
  ⟨h.tb.below g, own_on h.row g (Nat.le_refl _), h.ne⟩
theorem Two.fresh {w : World} {base b2 B M : Nat} {v lv : Value} {L K : List Txt} (tb : TB w b2 B M v L) (r : w.ownsRow base 9 1 lv K.length (K.map sv)) (hb : base ≤ b2) (hn : ∀ k, lv.ownBlock = some k → ¬ ownR B M v k) : Two w base B M v L lv K :=
  ⟨⟨tb.nd, tb.wf, tb.len, Nat.le_trans hb tb.bB, Nat.le_trans hb tb.bM, tb.blk, tb.map, own_on tb.row (Below.refl _ _) hb⟩, r, hn⟩
/-- 'out = append(out, b...)', out the call's own, b a list that is read. -/
theorem wpList_app_rdv {P : Program} {ops : Array Oper} {rest : List Oper} {o : Oper} {a : Act} {Q : Exit → Act → World → Prop} {w : World} (w0 : World) (hgd : o.guard = none) (s x : Operand) (t : TypeId)
    (ho : o.op = .call { callee := .builtin .append, args := #[s, x], argTypes := #[t, t] })
    (base : Nat) (e : TypeId) (i : TypeInfo) (z : Value) (bytes : Nat) (ht : P.underlying t = some (.slice e)) (hi : P.info? e = some i) (hz : i.zero = some z)
    (hsize : i.size = 1) (hby : i.bytes = bytes) (hzs : z.cells.size = 1)
    (v : Value) (n : Nat) (xs : List Value) (hs : a.eval s = v) (hown : w.ownsRow base e 1 v n xs) (vx : Value) (l : List Value) (hx : a.eval x = vx) (hr : RdV w vx l) (hone : ∀ u ∈ l, u.oneCell' = true)
    (h63 : n + l.length ≤ maxLen) (hbytes : (n + l.length) * bytes ≤ 140737488355328) (hbase : base ≤ w0.heap.size) (hb : Below base w0 w)
    (hK : ∀ v' w', w'.ownsRow base e 1 v' (n + l.length) (xs ++ l) → Below base w0 w' → wpList P ops Q rest (a.put o.dst v') w') :
    wpList P ops Q (o :: rest) a w := by
  obtain ⟨ao, cap, rfl, h2, h3, h4, h5⟩ := hr
  have hb1 : base ≤ w.heap.size := Nat.le_trans hbase hb.size
  cases ao with
  | none =>
    have h6 := h4 rfl
    obtain rfl : l = [] := List.eq_nil_of_length_eq_zero (by omega)
    subst h6
    exact wpList_append_own_none hgd s x t ho base e i 1 ht hi v n xs hs hown hx (hK v w (by simpa using hown) hb)
  | some ad =>
    refine wpList_append_own _ hgd s x t ho base e i z 1 bytes ht hi hz hsize hby hzs (by decide) v n xs hs hown ad l.length cap l hx (by simp) ?_ hone h63 hbytes hb1 ?_
    · intro j u hj
      have hjl : j < l.length := (List.getElem?_eq_some_iff.1 hj).1
      obtain ⟨b, off, he, _, hc⟩ := h5 (by omega)
      cases he
      rw [Addr.add_lit, hc j hjl, hj]
    · intro v' w' h1 h2 _
      exact hK v' w' h1 (grown_below hb hbase hown h2)
/-- What is asked, one place after the other. -/
def RdActs (w : World) (v : Value) (n : Nat) : Prop := ∃ ao cap, v = .slice ao n cap ∧ n ≤ cap ∧ cap ≤ 9223372036854775807 ∧ Hid (∀ j, j < n → ∃ (b off : Nat) (d k : Int) (s : Txt) (z : Value) (xs : List Int), ao = some ⟨b, off, none⟩ ∧ b < w.heap.size ∧ w.cell? ⟨b, off + j * 4, none⟩ = some (.int .i64 d) ∧ w.cell? ⟨b, off + (j * 4 + 1), none⟩ = some (.int .i64 k) ∧ w.cell? ⟨b, off + (j * 4 + 2), none⟩ = some (.string (str s)) ∧ w.cell? ⟨b, off + (j * 4 + 3), none⟩ = some z ∧ s.length ≤ maxLen ∧ RdV w z (xs.map iv) ∧ (∀ x ∈ xs, fitsI x) ∧ fitsI k)
theorem act_cells : Tryd.prog.cellsOf 28 = 4 := by kernel_rfl
theorem int_cells : Tryd.prog.cellsOf 3 = 1 := by kernel_rfl
theorem string_cells : Tryd.prog.cellsOf 9 = 1 := by kernel_rfl
theorem ints_cells : Tryd.prog.cellsOf 26 = 1 := by kernel_rfl
section
variable {H : Type} {enc : TypeId × Value → H}
theorem open_acts {W : World} {r : Reach} {base b0 : Nat} {hd : Bool} {v : Value} {d : DataW H} {p : List MemPlace}
    (hval : Value.okWide Tryd.prog W r b0 22 v) (h : DataW.Trod enc Tryd.prog W base (fun _ => true) hd 22 v d p) : ∃ n, RdActs W v n := by
  obtain ⟨a, len, cap, rfl⟩ := okWide_slice Tryd.underlying22 hval
  obtain ⟨fuel, hf⟩ := h
  rcases DataW.trod_slice Tryd.underlying22 hf with ⟨hcs, _⟩ | ⟨x, l, c, elems, rest, n, _, hcs, _, hb, hl, hm, hlen, hel, _, _⟩
  · simp [Value.cells] at hcs
    obtain ⟨rfl, rfl, rfl⟩ := hcs
    exact ⟨0, none, 0, rfl, by omega, by omega, Lib.hid fun j hj => absurd hj (by omega)⟩
  · simp [Value.cells] at hcs
    obtain ⟨rfl, rfl, rfl⟩ := hcs
    refine ⟨len, _, cap, rfl, hl, by unfold maxLen at hm; omega, Lib.hid fun j hj => ?_⟩
    have hall : ∀ j, j < len → ∃ cs, W.cells? base (x.add (j * 4)) 4 = some cs := by
      intro j hj
      have q1 := hel j hj
      rw [List.getElem?_eq_getElem (by omega : j < elems.length), Option.bind_eq_some_iff] at q1
      obtain ⟨cs0, q2, _⟩ := q1
      rw [act_cells] at q2
      exact ⟨cs0, q2⟩
    have h1 := hel j hj
    rw [List.getElem?_eq_getElem (by omega : j < elems.length), Option.bind_eq_some_iff] at h1
    obtain ⟨cs, hc1, hy⟩ := h1
    rw [act_cells] at hc1
    have hcell := (World.cells?_some hc1).2.2
    obtain ⟨xs, m, _, hx, hcl2, hxl, hg⟩ := DataW.trod_struct Tryd.underlying28 hy
    rw [act_cells] at hcl2
    match cs, hcl2, xs, hxl with
    | [u0, u1, u2, u3], _, [y0, y1, y2, y3], _ =>
      have g0 := hg 0 _ rfl
      have g1 := hg 1 _ rfl
      have g2 := hg 2 _ rfl
      have g3 := hg 3 _ rfl
      simp [int_cells, string_cells, ints_cells] at g0 g1 g2 g3
      obtain ⟨n0, e0, _, w0⟩ := DataW.trod_int Tryd.underlying3 g0
      obtain ⟨n1, e1, _, w1⟩ := DataW.trod_int Tryd.underlying3 g1
      obtain ⟨a2, e2, _, w2⟩ := DataW.trod_string Tryd.underlying9 g2
      have g4 : ∃ zs : List Int, RdV W u3 (zs.map iv) ∧ ∀ x ∈ zs, fitsI x := by
        rcases open_ints Tryd.underlying26 Tryd.underlying3 (by kernel_rfl) g3 with ⟨hcs, _⟩ | ⟨x5, l, c, zs, hcs, _, hl, hm, hz, _, hcell5, hwz⟩
        · simp at hcs
          subst hcs
          exact ⟨[], rdv_nil _, by simp⟩
        · simp at hcs
          subst hcs
          exact ⟨_, rdv_of_ints hl hm (by simpa using hz) hcell5, fun y hy => fits_wf (hwz y (List.mem_of_mem_take hy))⟩
      obtain ⟨zs, r4, f4⟩ := g4
      simp at e0 e1 e2
      subst e0 e1 e2
      have k0 := hcell 0 (by omega)
      have k1 := hcell 1 (by omega)
      have k2 := hcell 2 (by omega)
      have k3 := hcell 3 (by omega)
      obtain ⟨b, off, s⟩ := x
      have hs : s = none := by
        obtain ⟨cs0, q2⟩ := hall 0 (by omega)
        have q3 := World.cells?_some q2
        have q4 := q3.2.2 0 (by omega)
        have hl0 : 0 < cs0.length := by have := q3.2.1; omega
        rw [List.getElem?_eq_getElem hl0] at q4
        simpa [Addr.add] using World.cell?_spot q4
      subst hs
      rw [Addr.add_lit, Addr.add_lit] at k0 k1 k2 k3
      simp only [Nat.add_zero, List.getElem?_cons_zero, List.getElem?_cons_succ] at k0 k1 k2 k3
      have := World.block_lt_of_cell? W _ k0
      exact ⟨b, off, n0, n1, a2.data.toList, u3, zs, rfl, by simpa using this, by simpa using k0, by rw [← Nat.add_assoc]; simpa using k1, by rw [← Nat.add_assoc]; rw [str_of]; simpa using k2, by rw [← Nat.add_assoc]; simpa using k3, by rw [Array.length_toList]; exact w2, r4, f4, fits_wf w1⟩
end
end Go.Proofs.YtblhgliegoickaaDoor
