/- Clash: lists of wants as they lie in memory; the law's Few. Written by wip/tools/gen23e.py. -/
import Derived.Test.YtjmfiekgpoonjaaDoorQLGC14
namespace Go.Proofs.YtjmfiekgpoonjaaDoor
open Go Go.RowKit
set_option linter.unusedVariables false
set_option linter.unusedSimpArgs false
/-- A want's two slices. -/
structure WV where
  a1 : Option Addr
  n1 : Nat
  c1 : Nat
  a2 : Option Addr
  n2 : Nat
  c2 : Nat
def WV.v1 (p : WV) : Value := .slice p.a1 p.n1 p.c1
def WV.v2 (p : WV) : Value := .slice p.a2 p.n2 p.c2
def wc (p : WV) : List Value := [.slice p.a1 p.n1 p.c1, .slice p.a2 p.n2 p.c2]
def wv0 : WV := ⟨none, 0, 0, none, 0, 0⟩
theorem wc_len (p : WV) : (wc p).length = 2 := rfl
theorem wc_one : ∀ p : WV, ∀ u ∈ wc p, u.oneCell' = true := by
  intro p u hu
  unfold wc at hu
  simp only [List.mem_cons, List.not_mem_nil, or_false] at hu
  rcases hu with rfl | rfl <;> rfl
def RdWV (w : World) (p : WV) (a : Wt) : Prop := RdS w p.v1 a.r ∧ RdS w p.v2 a.w
theorem RdWV.below {w w' : World} {p : WV} {a : Wt} (h : RdWV w p a) (g : Below w.heap.size w w') : RdWV w' p a := ⟨h.1.below g (Nat.le_refl _), h.2.below g (Nat.le_refl _)⟩
/-- A list of wants is read. -/
structure RdL (w : World) (v : Value) (ps : List WV) (L : List Wt) : Prop where
  row : RdK 2 wc w v ps
  len : ps.length = L.length
  el : ∀ i, i < L.length → RdWV w (ps.getD i wv0) (L.getD i wt0)
theorem RdL.below {w w' : World} {v : Value} {ps : List WV} {L : List Wt} (h : RdL w v ps L) {B : Nat} (g : Below B w w') (hB : w.heap.size ≤ B) : RdL w' v ps L :=
  ⟨h.row.below g hB, h.len, fun i hi => ⟨(h.el i hi).1.below g hB, (h.el i hi).2.below g hB⟩⟩
theorem rdl_cells {w : World} {ao : Option Addr} {n cap : Nat} {ps : List WV} (h : RdK 2 wc w (.slice ao n cap) ps) (j : Nat) (hj : j < ps.length) :
    ∃ b off, ao = some ⟨b, off, none⟩ ∧ b < w.heap.size ∧ w.cell? ⟨b, off + j * 2, none⟩ = some (.slice (ps.getD j wv0).a1 (ps.getD j wv0).n1 (ps.getD j wv0).c1) ∧ w.cell? ⟨b, off + j * 2 + 1, none⟩ = some (.slice (ps.getD j wv0).a2 (ps.getD j wv0).n2 (ps.getD j wv0).c2) := by
  obtain ⟨b, off, h1, h2, h3⟩ := RdK.cell wc_len h j hj
  have e : ps.getD j wv0 = ps[j] := by simp [List.getD, hj]
  refine ⟨b, off, h1, h2, ?_, ?_⟩
  · have := h3 0 (by decide)
    rw [Nat.add_zero] at this
    rw [this, e]; rfl
  · have := h3 1 (by decide)
    rw [← Nat.add_assoc] at this
    rw [this, e]; rfl
def SzL (L : List Wt) : Prop := ∀ i, i < L.length → SzW (L.getD i wt0)
def fewLW (L : List Wt) : List Wt := (L.take 66).map fewW
theorem fewLW_len (L : List Wt) : (fewLW L).length ≤ 66 := by unfold fewLW; rw [List.length_map]; exact List.length_take_le _ _
theorem fewLW_sz (L : List Wt) : SzL (fewLW L) := by
  intro i hi
  have h : (fewLW L).getD i wt0 = (fewLW L)[i] := by simp [List.getD, hi]
  rw [h]
  have hm : (fewLW L)[i] ∈ (L.take 66).map fewW := List.getElem_mem hi
  obtain ⟨x, _, hx⟩ := List.mem_map.1 hm
  rw [← hx]
  exact fewW_sz _
def apartV (v out : Value) : Prop := v.ownBlock = none ∨ v.ownBlock ≠ out.ownBlock
/-- A list of wants that the call made itself. -/
structure OwnL (w : World) (base : Nat) (out : Value) (ps : List WV) (L : List Wt) : Prop where
  row : w.ownsRow base 24 2 out ps.length (ps.flatMap wc)
  len : ps.length = L.length
  el1 : ∀ i, i < L.length → w.ownsRow base 9 1 (ps.getD i wv0).v1 (L.getD i wt0).r.length ((L.getD i wt0).r.map sv)
  el2 : ∀ i, i < L.length → w.ownsRow base 9 1 (ps.getD i wv0).v2 (L.getD i wt0).w.length ((L.getD i wt0).w.map sv)
  off1 : ∀ i, i < L.length → apartV (ps.getD i wv0).v1 out
  off2 : ∀ i, i < L.length → apartV (ps.getD i wv0).v2 out
theorem OwnL.none (w : World) (base : Nat) : OwnL w base (.slice .none 0 0) [] [] :=
  ⟨World.ownsRow_nil _ _ _ _, rfl, fun i h => absurd h (Nat.not_lt_zero _), fun i h => absurd h (Nat.not_lt_zero _), fun i h => absurd h (Nat.not_lt_zero _), fun i h => absurd h (Nat.not_lt_zero _)⟩
theorem OwnL.lens {w : World} {base : Nat} {out : Value} {ps : List WV} {L : List Wt} (h : OwnL w base out ps L) : ps.length = L.length := h.len
theorem OwnL.below {w w' : World} {base : Nat} {out : Value} {ps : List WV} {L : List Wt} (h : OwnL w base out ps L) (g : Below w.heap.size w w') : OwnL w' base out ps L :=
  ⟨own_keep h.row g, h.len, fun i hi => own_keep (h.el1 i hi) g, fun i hi => own_keep (h.el2 i hi) g, h.off1, h.off2⟩
theorem OwnL.rd {w : World} {base : Nat} {out : Value} {ps : List WV} {L : List Wt} (h : OwnL w base out ps L) : RdL w out ps L :=
  ⟨own_rdk wc_len h.row, h.len, fun i hi => ⟨own_rdv (h.el1 i hi), own_rdv (h.el2 i hi)⟩⟩
theorem apart_new {w : World} {base : Nat} {e : TypeId} {s : Nat} {v out : Value} {n : Nat} {xs : List Value} (h : w.ownsRow base e s v n xs) (ho : ∀ g, out.ownBlock = some g → g < base) : apartV v out := by
  unfold apartV
  cases ev : v.ownBlock with
  | none => exact .inl rfl
  | some g =>
    refine .inr fun e => ?_
    have := ho g e.symm
    have := (h.lt g ev).1
    omega
/-- One want more. -/
theorem OwnL.push {w w1 : World} {base b1 b2 : Nat} {out v' : Value} {ps : List WV} {L : List Wt} {p : WV} {a : Wt} {tmp : Obj} (h : OwnL w base out ps L) (hb1 : base ≤ b1) (hb2 : base ≤ b2) (hbw : base ≤ w.heap.size)
    (ho1 : ∀ g, out.ownBlock = some g → g < b1) (ho2 : ∀ g, out.ownBlock = some g → g < b2)
    (r1 : w.ownsRow b1 9 1 p.v1 a.r.length (a.r.map sv)) (r2 : w.ownsRow b2 9 1 p.v2 a.w.length (a.w.map sv))
    (hown : w1.ownsRow base 24 2 v' (ps ++ [p]).length ((ps ++ [p]).flatMap wc)) (hg : (w.alloc tmp).grownBy w1 out.ownBlock)
    (hq : v'.ownBlock = out.ownBlock ∨ v'.ownBlock = some (w.alloc tmp).heap.size) : OwnL w1 base v' (ps ++ [p]) (L ++ [a]) := by
  have R1 := own_base r1 hb1
  have R2 := own_base r2 hb2
  have A1 := apart_new (out := out) r1 ho1
  have A2 := apart_new (out := out) r2 ho2
  -- what lay apart from the row stays, and lies apart from what the row is now
  have turn : ∀ {v : Value} {n : Nat} {xs : List Value}, w.ownsRow base 9 1 v n xs → apartV v out → w1.ownsRow base 9 1 v n xs ∧ apartV v v' := by
    intro v n xs hr ha
    refine ⟨(hr.alloc tmp).kept hg ha, ?_⟩
    unfold apartV
    cases ev : v.ownBlock with
    | none => exact .inl rfl
    | some g =>
      refine .inr fun e => ?_
      rcases hq with q | q
      · rcases ha with q2 | q2
        · rw [ev] at q2; cases q2
        · exact q2 (by rw [ev, e, q])
      · rw [q] at e
        have := (hr.lt g ev).2
        simp at e; omega
  have each : ∀ i, i < (L ++ [a]).length → (i < L.length ∧ (ps ++ [p]).getD i wv0 = ps.getD i wv0 ∧ (L ++ [a]).getD i wt0 = L.getD i wt0) ∨ ((ps ++ [p]).getD i wv0 = p ∧ (L ++ [a]).getD i wt0 = a) := by
    intro i hi
    rw [List.length_append] at hi
    simp only [List.length_cons, List.length_nil] at hi
    by_cases h1 : i < L.length
    · refine .inl ⟨h1, ?_, ?_⟩
      · have : i < ps.length := by rw [h.len]; exact h1
        simp [List.getD, List.getElem?_append_left this]
      · simp [List.getD, List.getElem?_append_left h1]
    · obtain rfl : i = L.length := by omega
      refine .inr ⟨?_, ?_⟩
      · have := h.len
        simp [List.getD, ← this]
      · simp [List.getD]
  refine ⟨hown, by rw [List.length_append, List.length_append, h.len]; rfl, ?_, ?_, ?_, ?_⟩
  · intro i hi
    rcases each i hi with ⟨h1, e1, e2⟩ | ⟨e1, e2⟩
    · rw [e1, e2]; exact (turn (h.el1 i h1) (h.off1 i h1)).1
    · rw [e1, e2]; exact (turn R1 A1).1
  · intro i hi
    rcases each i hi with ⟨h1, e1, e2⟩ | ⟨e1, e2⟩
    · rw [e1, e2]; exact (turn (h.el2 i h1) (h.off2 i h1)).1
    · rw [e1, e2]; exact (turn R2 A2).1
  · intro i hi
    rcases each i hi with ⟨h1, e1, e2⟩ | ⟨e1, e2⟩
    · rw [e1]; exact (turn (h.el1 i h1) (h.off1 i h1)).2
    · rw [e1]; exact (turn R1 A1).2
  · intro i hi
    rcases each i hi with ⟨h1, e1, e2⟩ | ⟨e1, e2⟩
    · rw [e1]; exact (turn (h.el2 i h1) (h.off2 i h1)).2
    · rw [e1]; exact (turn R2 A2).2
/-- 'out = append(out, x)', out the call's own, x an element of k cells: what grows is told. -/
theorem wpList_app1o {α : Type} {enc : α → List Value} {k : Nat} {P : Program} {ops : Array Oper} {rest : List Oper} {o : Oper} {a : Act} {Q : Exit → Act → World → Prop} {w : World} (hk : ∀ x, (enc x).length = k) (hk0 : 0 < k) (w0 : World) (hgd : o.guard = none) (s x : Operand) (t : TypeId)
    (ho : o.op = .call { callee := .builtin .append, args := #[s, x], argTypes := #[t, t] })
    (base : Nat) (e : TypeId) (i : TypeInfo) (z : Value) (bytes : Nat) (ht : P.underlying t = some (.slice e)) (hi : P.info? e = some i) (hz : i.zero = some z)
    (hsize : i.size = k) (hby : i.bytes = bytes) (hzs : z.cells.size = k)
    (v : Value) (xs : List α) (hs : a.eval s = v) (hown : w.ownsRow base e k v xs.length (xs.flatMap enc)) (e' : TypeId) (y : α) (cs : List Value) (hcs : cs = enc y)
    (hx : a.eval x = .slice (some ⟨w.heap.size, 0, none⟩) 1 1) (hone : ∀ y : α, ∀ u ∈ enc y, u.oneCell' = true)
    (h63 : xs.length + 1 ≤ maxLen) (hbytes : (xs.length + 1) * bytes ≤ 140737488355328) (hbase : base ≤ w0.heap.size) (hb : Below base w0 w)
    (hK : ∀ v' w', w'.ownsRow base e k v' (xs ++ [y]).length ((xs ++ [y]).flatMap enc) → (w.alloc (.cells cs.toArray e')).grownBy w' v.ownBlock → (v'.ownBlock = v.ownBlock ∨ v'.ownBlock = some (w.alloc (.cells cs.toArray e')).heap.size) → Below base w0 w' → wpList P ops Q rest (a.put o.dst v') w') :
    wpList P ops Q (o :: rest) a (w.alloc (.cells cs.toArray e')) := by
  subst hcs
  have hb1 : base ≤ w.heap.size := Nat.le_trans hbase hb.size
  refine wpList_append_own_at _ hgd s x t ho base e i z k bytes ht hi hz hsize hby hzs hk0 v xs.length _ hs (hown.alloc _) ⟨w.heap.size, 0, none⟩ 1 1 (enc y) hx (by rw [hk, Nat.one_mul]) ?_ ?_ h63 hbytes (by simp; omega) ?_
  · intro j u hj
    have e : Addr.add ⟨w.heap.size, 0, none⟩ j = ⟨w.heap.size, j, none⟩ := by rw [Addr.add_lit, Nat.zero_add]
    rw [e, block_cell (heap_alloc_new w _) j]
    simpa using hj
  · exact hone y
  · intro v' w' h1 h2 h3 h9
    exact hK v' w' (by rw [List.length_append, List.flatMap_append]; simpa using h1) h2 h9 (grown_below (hb.alloc hb1 _) hbase (hown.alloc _) h2)
theorem own_lt0 {w : World} {base : Nat} {e : TypeId} {s : Nat} {v : Value} {n : Nat} {xs : List Value} (h : w.ownsRow base e s v n xs) : ∀ q, v.ownBlock = some q → q < w.heap.size := fun q e => (h.lt q e).2
theorem wantinfo : (Tryd.prog.info? 24).map (fun i => (i.zero, i.size, i.bytes)) = some (some (.agg #[.slice none 0 0, .slice none 0 0]), 2, 48) := by kernel_rfl
/-- What a call hands back is a list of wants. -/
def GivesL (w : World) (L : List Wt) (e : Ending) (w' : World) : Prop := ∃ v ps, e = .returned v ∧ OwnL w' w.heap.size v ps L ∧ Below w.heap.size w w'
set_option maxRecDepth 100000 in
set_option maxHeartbeats 1000000 in
theorem fewL_any (v : Value) (ps : List WV) (L : List Wt) (w : World) (h : RdL w v ps L) (hz : SzL L) :
    Calls Tryd.prog 12 #[v] w (GivesL w (fewLW L)) := by
  obtain ⟨i0, hi, hz0, hz1, hz2⟩ := info_parts wantinfo
  obtain ⟨hrow, hlen, hel⟩ := h
  obtain ⟨ao, cap, rfl, hc, hm, hr⟩ := RdK.open hrow
  have HS := Lib.hid hz
  obtain ⟨Z, hZ⟩ : ∃ Z, Z = GivesL w (fewLW L) := ⟨_, rfl⟩
  rw [← hZ]
  subst hZ
  clear hz
  by_cases hbig : 66 < L.length
  · obtain ⟨ps', hp'⟩ : ∃ ps', ps' = ps.take 66 := ⟨_, rfl⟩
    obtain ⟨L', hl'⟩ : ∃ L', L' = L.take 66 := ⟨_, rfl⟩
    have hln : ps'.length = 66 := by rw [hp', List.length_take, hlen]; omega
    have hll : L'.length = 66 := by rw [hl', List.length_take]; omega
    have hr' : RdK 2 wc w (.slice ao 66 cap) ps' := by rw [hp']; exact RdK.short wc_len hr 66 (by omega)
    have gt : ∀ i, i < 66 → ps'.getD i wv0 = ps.getD i wv0 ∧ L'.getD i wt0 = L.getD i wt0 := by
      intro i hi; rw [hp', hl']; simp [List.getD, List.getElem?_take, hi]
    have HEL := Lib.hid (show ∀ i, i < L'.length → RdWV w (ps'.getD i wv0) (L'.getD i wt0) from fun i hi => by
      obtain ⟨e1, e2⟩ := gt i (by omega)
      rw [e1, e2]; exact hel i (by omega))
    have HS := Lib.hid (show SzL L' from fun i hi => by rw [(gt i (by omega)).2]; exact HS.out i (by omega))
    have HRD := Lib.hid hr'
    have HLN := Lib.hid hln
    have HLL := Lib.hid hll
    have HL := Lib.hid hl'
    have hd1 : decide (66 < (ps.length : Int)) = true := decide_eq_true (by omega)
    have hd2 : decide (66 < ps.length) = true := decide_eq_true (by omega)
    have hpb : 66 < ps.length := by omega
    clear hr hr' hl' hp' hln hll gt hel hlen hrow
    go_enter Tryd.func12, Tryd.ntmps12
    go_wp2_with fail
    go_loopw [3, 4] (fun out i wr => ∃ (j : Nat) (qs : List WV) (M : List Wt), j ≤ 66 ∧ i = .int .i64 (j : Int) ∧ qs.length ≤ j ∧ Hid (M = (L'.take j).map fewW) ∧ OwnL wr w.heap.size out qs M ∧ Below w.heap.size w wr) (fun _ i _ => 100 - (intOf i).toNat)
    case atStart => exact ⟨0, [], [], Nat.zero_le _, rfl, Nat.le_refl _, rfl, OwnL.none _ _, Below.refl _ _⟩
    case round =>
      obtain ⟨j, qs, M, hj, rfl, hqs, HA, hown, bel⟩ := hrel
      by_cases hjn : j < 66
      · have hlt : j < ps'.length := by have := HLN.out; omega
        have hltL : j < L'.length := by have := HLL.out; omega
        obtain ⟨b, off, rfl, hb, c0, c1⟩ := rdl_cells (HRD.out.below bel (Nat.le_refl _)) j hlt
        obtain ⟨p, hp⟩ : ∃ p, p = ps'.getD j wv0 := ⟨_, rfl⟩
        obtain ⟨x, hx⟩ : ∃ x, x = L'.getD j wt0 := ⟨_, rfl⟩
        have HE := HEL.out j hltL
        have HZx := HS.out j hltL
        rw [← hp, ← hx] at HE
        rw [← hx] at HZx
        rw [← hp] at c0 c1
        have HN := Lib.hid (show M ++ [fewW x] = (L'.take (j + 1)).map fewW by rw [HA.out, List.take_succ_eq_append_getElem hltL, List.map_append, hx]; simp [List.getD, hltL])
        have WA := Lib.hid (wants_any (.slice p.a1 p.n1 p.c1) (.slice p.a2 p.n2 p.c2) x wr (HE.1.below bel (Nat.le_refl _)) (HE.2.below bel (Nat.le_refl _)) HZx)
        clear hp hx HE HZx
        go_wp2_with fail
        refine WA.out.mono ?_
        rintro e w2 ⟨a1, n1, k1, a2, n2, k2, rfl, r1, r2, g⟩
        have bel2 := chain bel g
        have own2 := hown.below g
        have hg0 := own_lt0 hown.row
        have hbs := bel.size
        clear g WA bel
        go_wp2_with (at_builtin; refine wpList_app1o wc_len (by decide) w rfl (.tmp 16) (.tmp 22) 28 rfl w.heap.size 24 i0 (.agg #[.slice none 0 0, .slice none 0 0]) 48 Tryd.underlying28 hi hz0 hz1 hz2 rfl _ _ rfl own2.row _ (⟨a1, n1, k1, a2, n2, k2⟩ : WV) _ rfl rfl wc_one (by unfold maxLen; omega) (by omega) (Nat.le_refl _) bel2 ?_; intro v' w1 hown' hg hq hb')
        exact ⟨⟨j + 1, qs ++ [⟨a1, n1, k1, a2, n2, k2⟩], M ++ [fewW x], by omega, by push_cast; rfl, by simp; omega, HN, own2.push (p := ⟨a1, n1, k1, a2, n2, k2⟩) hbs hbs bel2.size hg0 hg0 r1 r2 hown' hg hq, hb'⟩, by simp [intOf]; omega⟩
      · obtain rfl : j = 66 := by omega
        have E := Lib.hid (show M = fewLW L by rw [HA.out]; unfold fewLW; rw [HL.out, List.take_take]; rfl)
        go_wp2_with fail
        go_ret
        refine ⟨_, qs, rfl, ?_, bel⟩
        rw [← E.out]
        exact hown
  · skip
    have HLN := Lib.hid (show ps.length = L.length from hlen)
    have HLL := Lib.hid (rfl : L.length = L.length)
    have HEL := Lib.hid hel
    rw [hlen] at hr hc ⊢
    have HRD := Lib.hid hr
    have hd1 : decide (66 < (L.length : Int)) = false := decide_eq_false (by omega)
    have hd2 : decide (66 < L.length) = false := decide_eq_false hbig
    clear hr hel hlen hrow
    go_enter Tryd.func12, Tryd.ntmps12
    go_wp2_with fail
    go_loopw [3, 4] (fun out i wr => ∃ (j : Nat) (qs : List WV) (M : List Wt), j ≤ L.length ∧ i = .int .i64 (j : Int) ∧ qs.length ≤ j ∧ Hid (M = (L.take j).map fewW) ∧ OwnL wr w.heap.size out qs M ∧ Below w.heap.size w wr) (fun _ i _ => 100 - (intOf i).toNat)
    case atStart => exact ⟨0, [], [], Nat.zero_le _, rfl, Nat.le_refl _, rfl, OwnL.none _ _, Below.refl _ _⟩
    case round =>
      obtain ⟨j, qs, M, hj, rfl, hqs, HA, hown, bel⟩ := hrel
      by_cases hjn : j < L.length
      · have hlt : j < ps.length := by have := HLN.out; omega
        have hltL : j < L.length := by have := HLL.out; omega
        obtain ⟨b, off, rfl, hb, c0, c1⟩ := rdl_cells (HRD.out.below bel (Nat.le_refl _)) j hlt
        obtain ⟨p, hp⟩ : ∃ p, p = ps.getD j wv0 := ⟨_, rfl⟩
        obtain ⟨x, hx⟩ : ∃ x, x = L.getD j wt0 := ⟨_, rfl⟩
        have HE := HEL.out j hltL
        have HZx := HS.out j hltL
        rw [← hp, ← hx] at HE
        rw [← hx] at HZx
        rw [← hp] at c0 c1
        have HN := Lib.hid (show M ++ [fewW x] = (L.take (j + 1)).map fewW by rw [HA.out, List.take_succ_eq_append_getElem hltL, List.map_append, hx]; simp [List.getD, hltL])
        have WA := Lib.hid (wants_any (.slice p.a1 p.n1 p.c1) (.slice p.a2 p.n2 p.c2) x wr (HE.1.below bel (Nat.le_refl _)) (HE.2.below bel (Nat.le_refl _)) HZx)
        clear hp hx HE HZx
        go_wp2_with fail
        refine WA.out.mono ?_
        rintro e w2 ⟨a1, n1, k1, a2, n2, k2, rfl, r1, r2, g⟩
        have bel2 := chain bel g
        have own2 := hown.below g
        have hg0 := own_lt0 hown.row
        have hbs := bel.size
        clear g WA bel
        go_wp2_with (at_builtin; refine wpList_app1o wc_len (by decide) w rfl (.tmp 16) (.tmp 22) 28 rfl w.heap.size 24 i0 (.agg #[.slice none 0 0, .slice none 0 0]) 48 Tryd.underlying28 hi hz0 hz1 hz2 rfl _ _ rfl own2.row _ (⟨a1, n1, k1, a2, n2, k2⟩ : WV) _ rfl rfl wc_one (by unfold maxLen; omega) (by omega) (Nat.le_refl _) bel2 ?_; intro v' w1 hown' hg hq hb')
        exact ⟨⟨j + 1, qs ++ [⟨a1, n1, k1, a2, n2, k2⟩], M ++ [fewW x], by omega, by push_cast; rfl, by simp; omega, HN, own2.push (p := ⟨a1, n1, k1, a2, n2, k2⟩) hbs hbs bel2.size hg0 hg0 r1 r2 hown' hg hq, hb'⟩, by simp [intOf]; omega⟩
      · obtain rfl : j = L.length := by omega
        have E := Lib.hid (show M = fewLW L by rw [HA.out]; unfold fewLW; rw [List.take_of_length_le (Nat.le_refl _), List.take_of_length_le (Nat.le_of_not_lt hbig)])
        go_wp2_with fail
        go_ret
        refine ⟨_, qs, rfl, ?_, bel⟩
        rw [← E.out]
        exact hown
end Go.Proofs.YtjmfiekgpoonjaaDoor
