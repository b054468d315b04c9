/- Leaves: the list of chunks. Written by wip/tools/gen9j.py. -/
import Derived.Test.YtoagdmglchccnaaGreatDoorQRR25
import Derived.Test.YtoagdmglchccnaaGreatDoorQRR19
namespace Go.Proofs.YtoagdmglchccnaaGreatDoor
open Go Go.RowKit
attribute [local go_sem] Oper.semAt_some
set_option linter.unusedVariables false
set_option linter.unusedSimpArgs false
theorem bytes_info : (Tryz.prog.info? 115).map (fun i => (i.zero, i.size, i.bytes)) = some (some (.slice none 0 0), 1, 24) := by kernel_rfl
theorem not_row_of {W : World} {B base : Nat} (hB : B < base) {e : TypeId} {size k : Nat} {v : Value} {xs : List Value} (hr : W.ownsRow base e size v k xs) : some B ≠ v.ownBlock := by
  rcases hr.2 with ⟨rfl, _⟩ | ⟨g, cap, cur, rfl, hb, _, _⟩
  · simp [Value.ownBlock]
  · intro e'
    obtain rfl : B = g := by simpa [Value.ownBlock] using e'
    omega
theorem own_weak {W : World} {base b : Nat} (hb : b ≤ base) {e : TypeId} {size k : Nat} {v : Value} {xs : List Value} (hr : W.ownsRow base e size v k xs) : W.ownsRow b e size v k xs := by
  refine ⟨hr.1, ?_⟩
  rcases hr.2 with h | ⟨g, cap, cur, h1, h2, h3⟩
  · exact .inl h
  · exact .inr ⟨g, cap, cur, h1, Nat.le_trans hb h2, h3⟩
/-- An append to a row of one's own that a box below it holds. -/
theorem boxed_appended {W w1 : World} {n₀ b₂ B : Nat} {t e : TypeId} {size : Nat} {v v' : Value} {k m : Nat} {xs ys : List Value} {tmp : Obj}
    (hv : Boxed W B t v) (hne : B < b₂) (hrow : W.ownsRow b₂ e size v k xs) (hn₀ : b₂ ≤ W.heap.size) (hB : n₀ ≤ B)
    (hown' : w1.ownsRow b₂ e size v' m ys) (hgrow : (W.alloc tmp).grownBy w1 v.ownBlock) :
    Boxed w1 B t v ∧ Boxed (w1.setCell ⟨B, 0, none⟩ v') B t v' ∧ (w1.setCell ⟨B, 0, none⟩ v').ownsRow b₂ e size v' m ys ∧ KeepsOthers W (w1.setCell ⟨B, 0, none⟩ v') ∧ Below n₀ W (w1.setCell ⟨B, 0, none⟩ v') := by
  have hv1 : Boxed w1 B t v := (hv.alloc tmp).kept hgrow (not_row_of hne hrow)
  refine ⟨hv1, hv1.set v', hown'.kept (grownBy_setCell' w1 B v') (.inr (not_row_of hne hown').symm), ?_, ?_⟩
  · refine ((KeepsOthers.alloc W tmp).trans (KeepsOthers.of_grownBy hgrow fun j o ej hj => ?_)).trans (KeepsOthers.setCell _ _ _)
    rcases (hrow.alloc tmp).2 with ⟨rfl, _⟩ | ⟨g, cap, cur, rfl, _, hgb, _⟩
    · simp [Value.ownBlock] at ej
    · obtain rfl : g = j := by simpa [Value.ownBlock] using ej
      rw [hgb] at hj; cases hj; rfl
  · refine (((Below.refl n₀ W).alloc (by omega) tmp).grown hgrow (by simp; omega) fun j ej => ?_).setCell (p := ⟨B, 0, none⟩) hB v'
    rcases hrow.2 with ⟨rfl, _⟩ | ⟨g, cap, cur, rfl, hb, _, _⟩
    · simp [Value.ownBlock] at ej
    · obtain rfl : g = j := by simpa [Value.ownBlock] using ej
      omega
/-- Slices of bytes, each of one's own. -/
def RowB (W : World) (b : Nat) (vs : List Value) (ls : List (List UInt8)) : Prop := vs.length = ls.length ∧ ∀ (j : Nat) (u : Value), vs[j]? = some u → ∃ l : List UInt8, ls[j]? = some l ∧ W.ownsRow b 5 1 u l.length (l.map bv)
theorem rowB_nil (W : World) (b : Nat) : RowB W b [] [] := ⟨rfl, fun j u h => by simp at h⟩
theorem rowB_kept {W X : World} {b : Nat} {vs : List Value} {ls : List (List UInt8)} {row : Option Nat} (h : RowB W b vs ls) (hg : W.grownBy X row) (hn : ∀ g cur, W.heap[g]? = some (.cells cur 5 (0, 0)) → b ≤ g → row ≠ some g) : RowB X b vs ls := by
  refine ⟨h.1, fun j u hj => ?_⟩
  obtain ⟨l, h1, hr⟩ := h.2 j u hj
  refine ⟨l, h1, hr.kept hg ?_⟩
  rcases hr.2 with ⟨rfl, _⟩ | ⟨g, cap, cur, rfl, hb, hgb, _⟩
  · exact .inl rfl
  · exact .inr (fun e => hn g cur hgb hb (by simpa [Value.ownBlock] using e.symm))
theorem rowB_below {W X : World} {b : Nat} {vs : List Value} {ls : List (List UInt8)} (h : RowB W b vs ls) (hb : Below W.heap.size W X) : RowB X b vs ls := by
  refine ⟨h.1, fun j u hj => ?_⟩
  obtain ⟨l, h1, hr⟩ := h.2 j u hj
  exact ⟨l, h1, own_keep hr hb⟩
theorem rowB_snoc {W : World} {b : Nat} {vs : List Value} {ls : List (List UInt8)} {u : Value} {l : List UInt8} (h : RowB W b vs ls) (hr : W.ownsRow b 5 1 u l.length (l.map bv)) : RowB W b (vs ++ [u]) (ls ++ [l]) := by
  refine ⟨by simp [h.1], fun j x hj => ?_⟩
  by_cases hlt : j < vs.length
  · rw [List.getElem?_append_left hlt] at hj
    obtain ⟨l', h1, hr'⟩ := h.2 j x hj
    exact ⟨l', by rw [List.getElem?_append_left (by rw [← h.1]; exact hlt)]; exact h1, hr'⟩
  · rw [List.getElem?_append_right (by omega)] at hj
    have hz : j - vs.length = 0 := by
      have := (List.getElem?_eq_some_iff.1 hj).1
      simp at this; omega
    rw [hz] at hj
    simp at hj
    subst hj
    exact ⟨l, by rw [List.getElem?_append_right (by rw [← h.1]; omega), ← h.1, hz]; rfl, hr⟩
/-- A row of slices is no row of bytes. -/
theorem row_ne {W : World} {b k : Nat} {v : Value} {xs : List Value} (h : W.ownsRow b 115 1 v k xs) : ∀ (g : Nat) (cur : Array Value), W.heap[g]? = some (.cells cur 5 (0, 0)) → v.ownBlock ≠ some g := by
  intro g cur hg e
  rcases h.2 with ⟨rfl, _⟩ | ⟨g', cap, cur', rfl, _, hgb, _⟩
  · simp [Value.ownBlock] at e
  · obtain rfl : g' = g := by simpa [Value.ownBlock] using e
    rw [hgb] at hg
    simp at hg
theorem rdi_ck {W : World} {ao : Option Addr} {cap : Nat} {l : List It} (h : RdI W (.slice ao l.length cap) l) (i : Nat) : RdI W (ckV ao l.length i) (chunkAt l i) := by
  have hlen : (chunkAt l i).length = mm l.length i := by unfold chunkAt mm; simp
  by_cases hi : i < l.length
  · have e1 : i + mm l.length i - i = mm l.length i := by omega
    have e2 : (l.drop i).take (mm l.length i) = chunkAt l i := by
      unfold chunkAt mm
      apply List.ext_getElem?
      intro k
      rw [List.getElem?_take, List.getElem?_take]
      by_cases hk : k < 8
      · rw [if_pos hk]
        by_cases hk2 : k < l.length - i
        · rw [if_pos (by omega)]
        · rw [if_neg (by omega), List.getElem?_eq_none (by simp; omega)]
      · rw [if_neg hk, if_neg (by omega)]
    have h' := RdK.sliced itC_len h i (i + mm l.length i) (by omega) (by unfold mm; omega)
    rw [e1, e2] at h'
    have hne : ¬ cap = i := by
      obtain ⟨_, _, hs, g2, _⟩ := h; cases hs; omega
    rw [if_neg hne] at h'
    obtain ⟨ao1, cap1, he, h2, h3, h4, h5⟩ := h'
    injection he with q1 q2 q3
    obtain ⟨ao', cap', hs, g2, g3, g4, g5⟩ := h
    cases hs
    obtain ⟨b, off, rfl, hb, -⟩ := g5 (by omega)
    exact ⟨_, mm l.length i, by unfold ckV; rw [hlen], by rw [hlen]; exact Nat.le_refl _, by unfold mm maxLen; omega, by simp, fun hp => by rw [q1]; exact h5 hp⟩
  · have e0 : chunkAt l i = [] := by unfold chunkAt; rw [List.drop_of_length_le (by omega)]; rfl
    have m0 : mm l.length i = 0 := by unfold mm; omega
    rw [e0]
    exact ⟨_, 0, by unfold ckV; rw [m0]; rfl, by simp, by unfold maxLen; omega, by simp, by simp⟩
theorem opIn_append {F : Fence} {n : Nat} {P : Program} {o : Oper} {a : Act} {w : World} {K : Act → World → Prop} {Q : Exit → Act → World → Prop} (s x : Operand) (t ty : TypeId) (hop : o.op = Op.call { callee := Callee.builtin Builtin.append, args := #[s, x], argTypes := #[t, t] }) (hty : o.type = ty)
    (v u v' : Value) (w' : World) (hs : a.eval s = v) (hx : a.eval x = u) (hrun : (Builtin.append_ #[t, t] ty #[v, u]).run P w = .ok v' w') (hK : K (a.put o.dst v') w') : o.wpIn F n P a w K Q := by
  subst hty
  unfold Oper.wpIn
  refine ⟨?_, ?_⟩
  · simp [Oper.about, hop, resolve, Target.leads, Sem.run_pure]
  · rw [Oper.semAt_plain F _ _ (by rw [hop]; intro c hc'; cases hc')]
    simp [execOp, hop, resolve, invoke, builtin, hs, hx, hrun, Result.andThen]
    exact hK
def InvC (ao : Option Addr) (cap : Nat) (l : List It) (w : World) (pre : List Nat) (W : World) : Prop :=
  (∃ v vs, Boxed W w.heap.size 113 v ∧ W.ownsRow (w.heap.size + 3) 115 1 v vs.length vs ∧ RowB W (w.heap.size + 3) vs (pre.map fun i => encC (chunkAt l i))) ∧ Boxed W (w.heap.size + 1) 23 (.slice ao l.length cap) ∧ Boxed W (w.heap.size + 2) 3 (.int .i64 8) ∧ Below w.heap.size w W
theorem InvC.from (ao : Option Addr) (cap : Nat) (l : List It) (w : World) (B : Nat) (hB : w.heap.size ≤ B) : OwnFrom B (InvC ao cap l w) := by
  rintro s X Y row ⟨⟨v, vs, hv, hr, hR⟩, hu, hk, hb⟩ hg hrow
  have nb : ∀ {C : Nat} {t : TypeId} {x : Value}, Boxed X C t x → some C ≠ row := by
    intro C t x hx e
    obtain ⟨_, o, ho, hc⟩ := hrow C e.symm
    rw [show X.heap[C]? = _ from hx] at ho; cases ho; cases hc
  refine ⟨⟨v, vs, hv.kept hg (nb hv), hr.kept hg ?_, rowB_kept hR hg ?_⟩, hu.kept hg (nb hu), hk.kept hg (nb hk), hb.grown hg hb.size fun j e => Nat.le_trans hB (hrow j e).1⟩
  · rcases hr.2 with ⟨rfl, _⟩ | ⟨g, cap, cur, rfl, _, hgb, _⟩
    · exact .inl rfl
    · refine .inr fun e' => ?_
      obtain ⟨_, o, ho, hc⟩ := hrow g (by simpa [Value.ownBlock] using e'.symm)
      rw [hgb] at ho; cases ho; cases hc
  · intro g cur hgb _ e'
    obtain ⟨_, o, ho, hc⟩ := hrow g e'
    rw [hgb] at ho; cases ho; cases hc
theorem InvC.turn (ao : Option Addr) (cap : Nat) (l : List It) (w : World) (s : List Nat) (X Y : World) (h : InvC ao cap l w s X) (t : TwC X Y) : InvC ao cap l w s Y := by
  obtain ⟨⟨v, vs, hv, hr, hR⟩, hu, hk, hb⟩ := h
  obtain ⟨n, rfl⟩ := t
  exact ⟨⟨v, vs, boxed_drewC hv n, own_draw hr n, rowB_below hR (below_drewN (Below.refl _ _))⟩, boxed_drewC hu n, boxed_drewC hk n, below_drewN hb⟩
theorem kpC_put {n0 : Nat} {w : World} (hw : n0 + 2 < w.heap.size) (W : World) (l : Nat) (o o' : Obj) (hl : w.heap.size ≤ l) (h : W.heap[l]? = some o) (_ : o.isCells = false) (_ : o.isWalk = false) : KpC (n0 + 1) W (W.putObj l o') :=
  ⟨(grownBy_putObj' W l o').size, World.putObj_heap_other (by omega), World.putObj_heap_other (by omega)⟩
theorem twC_keeps (B' : Nat) (X Y : World) (h : TwC X Y) : KeepsFrom B' X Y := by
  obtain ⟨n, rfl⟩ := h
  exact ⟨Nat.le_refl _, fun _ _ _ h _ => h⟩
/-- A call hands back a list of lists of bytes of its own. -/
def ChR (w : World) (ls : List (List UInt8)) (e : Ending) (w' : World) : Prop := ∃ v' vs, e = .returned v' ∧ w'.ownsRow w.heap.size 115 1 v' vs.length vs ∧ RowB w' w.heap.size vs ls ∧ Below w.heap.size w w'
theorem rowB_weak {W : World} {b b' : Nat} {vs : List Value} {ls : List (List UInt8)} (h : RowB W b vs ls) (hb : b' ≤ b) : RowB W b' vs ls :=
  ⟨h.1, fun j u hj => (h.2 j u hj).imp fun l x => ⟨x.1, own_weak hb x.2⟩⟩
set_option maxRecDepth 100000 in
set_option maxHeartbeats 2000000 in
theorem chunks_yes (ao : Option Addr) (cap : Nat) (l : List It) (w : World) (tab : TabAt w) (h : RdI w (.slice ao l.length cap) l) (hl : isL l = true) (hsz : SzI l) (hwf : WfI l) :
    Calls Tryz.prog 53 #[.slice ao l.length cap] w (ChR w (chunksL l)) := by
  have IS := is9_any _ l w tab h hsz
  rw [hl] at IS
  have h64 := isL_len hl
  have hcc : l.length ≤ cap ∧ cap ≤ 9223372036854775807 := by
    obtain ⟨_, _, he, h3, h4, _⟩ := h; cases he; unfold maxLen at h4; exact ⟨h3, by omega⟩
  have hao : 0 < l.length → ∃ b off, ao = some ⟨b, off, none⟩ := by
    obtain ⟨_, _, he, h3, h4, _, h5⟩ := h; cases he
    exact fun hp => by obtain ⟨b, off, e, _⟩ := h5 hp; exact ⟨b, off, e⟩
  obtain ⟨i0, hi, hz0, hz1, hz2⟩ := info_parts bytes_info
  have ENC0 : ∀ (W : World) (i : Nat), Below w.heap.size w W → Calls Tryz.prog 84 #[ckV ao l.length i] W (fun e w' => ∃ v', e = .returned v' ∧ w'.ownsRow W.heap.size 5 1 v' (encC (chunkAt l i)).length ((encC (chunkAt l i)).map bv) ∧ Below W.heap.size W w') := by
    intro W i g
    have sub : ∀ x ∈ chunkAt l i, x ∈ l := fun x hx => List.mem_of_mem_drop (List.mem_of_mem_take hx)
    exact enc9_any _ (chunkAt l i) W (rdi_ck (h.below g (Nat.le_refl _)) i) (by unfold chunkAt; simp; omega) (fun x hx => isL_may hl x (sub x hx)) (fun x hx => hsz x (sub x hx)) (fun x hx => hwf x (sub x hx))
  have ENC := Lib.hid ENC0
  have hz : (Value.slice none 0 0).cells.size = 1 := rfl
  clear ENC0 h hsz hwf hl
  refine (callsIn_wide (n := 7)).1 ?_
  refine callsIn_of_wp_marks Tryz.func53 rfl trivial ?_ rfl
  simp only [Tryz.ntmps53, List.size_toArray, List.length_cons, List.length_nil, Nat.reduceAdd, Nat.reduceSub, Array.replicate_succ, Array.replicate_zero, List.push_toArray, List.append_toArray, List.nil_append, List.cons_append]
  gi_wp2_with (refine ⟨trivial, ?_⟩; gi_at_call 82; refine (callsIn_wide.2 IS).mono ?_; rintro e w1 ⟨rfl, g1⟩)
  gi_wp2_with (refine ⟨trivial, ?_⟩; gi_at_call 83; refine (callsIn_wide.2 (chunk_any ao l.length cap _)).mono ?_; rintro e w' ⟨rfl, rfl⟩)
  obtain ⟨W0, hW0⟩ : ∃ W0, W0 = ((w1.alloc (Obj.cells #[Value.slice none 0 0] 113)).alloc (Obj.cells #[Value.slice ao l.length cap] 23)).alloc (Obj.cells #[Value.int IntKind.i64 8] 3) := ⟨_, rfl⟩
  have z0 : W0.heap.size = w1.heap.size + 3 := by rw [hW0]; simp
  obtain ⟨p1, p2, p3⟩ := V7.three_allocs w1 (Obj.cells #[Value.slice none 0 0] 113) (Obj.cells #[Value.slice ao l.length cap] 23) (Obj.cells #[Value.int IntKind.i64 8] 3)
  rw [← hW0] at p1 p2 p3
  have b0 : Below w1.heap.size w1 W0 := by rw [hW0]; exact (((Below.refl _ w1).alloc (Nat.le_refl _) _).alloc (by simp) _).alloc (by simp; omega) _
  rw [← hW0]
  have Z0 := Lib.hid z0
  clear hW0 z0 IS
  have ES := Lib.hid (rfl : chunksL l = (starts l.length).map fun i => encC (chunkAt l i))
  refine range_law rfl (by decide) (gf := 107) (lb := #[.pointer (some ⟨w1.heap.size + 1, 0, none⟩), .pointer (some ⟨w1.heap.size + 1 + 1, 0, none⟩)]) rfl trivial (enters_of Tryz.func107 (by kernel_rfl) rfl) (fun _ => rfl)
    (chunk_gives (7 - 1) (by decide) (w1.heap.size + 1) ao l.length cap (by omega) hcc.1 hcc.2 hao W0 p2 p3)
    (fun A B h => twC_keeps _ A B h) (fun h k => h.trans k) (kpC_put (n0 := w1.heap.size) (by rw [Z0.out]; omega))
    (InvC ao cap l w1) (fun _ _ _ => False) (InvC.from _ _ _ _ _ (by rw [Z0.out]; omega)) (fun _ _ _ _ _ h _ _ => h) (InvC.turn _ _ _ _) (fun _ _ _ _ h _ => h)
    ⟨⟨_, [], p1, World.ownsRow_nil _ _ _ _, rowB_nil _ _⟩, p2, p3, b0⟩
    (fun x => { tmps := #[.slice ao l.length cap, undef, .slice none 0 0, .pointer (some ⟨w1.heap.size, 0, none⟩), ckV ao l.length x, .slice ao l.length cap, .bool true, .bool false, .slice ao l.length cap, .func (.func 107) #[] #[.pointer (some ⟨w1.heap.size + 1, 0, none⟩), .pointer (some ⟨w1.heap.size + 1 + 1, 0, none⟩)], ckV ao l.length x, undef, undef, undef, undef, undef, undef], defers := [] }) ?assign ?body ?done ?stop
  case assign =>
    intro l x W K hK
    gi_wp2
    exact hK
  case body =>
    rintro lo pre x W ⟨⟨v, vs, hv, hrow, hR⟩, hu, hk8, hB⟩ hlt
    have hc := hv.cell
    have hf := hv.frozen
    have EN := ENC.out W.drew x (Below.drew (g1.trans (hB.mono g1.size)))
    have hvl : vs.length ≤ 1000 := by have := hR.1; simp at this; omega
    obtain ⟨L, hL⟩ : ∃ L, L = encC (chunkAt l x) := ⟨_, rfl⟩
    rw [← hL] at EN
    have hLp : 0 < L.length := by rw [hL]; unfold encC; simp
    have hLX := Lib.hid hL
    clear hL
    gi_wp2
    refine wpIn_region_any (by kernel_rfl) ?_
    change wpAnyIn _ _ _ _ _ _ _ _ _ (World.drew _)
    have hcd : W.drew.cell? ⟨w1.heap.size, 0, none⟩ = some v := hc
    refine wpAnyIn_ready (rs := [0, 1]) (by kernel_rfl) (by simp) ?_
    refine AllReadyIn.cons rfl (fun K hK => ?_) ?_
    · skip
      go_simp
      refine hK _ _ ?_
      clear hK K
      refine wpAnyIn_ready (rs := [1]) (by kernel_rfl) (by simp) ?_
      refine AllReadyIn.cons rfl (fun K hK => ?_) ?_
      · skip
        go_simp
        refine hK _ _ ?_
        clear hK K
        refine wpAnyIn_ready (rs := [2]) (by kernel_rfl) (by simp) ?_
        refine AllReadyIn.cons rfl (fun K hK => ?_) ?_
        · skip
          go_simp
          refine ⟨trivial, ?_⟩
          refine (CallsIn.inRound lo (callsIn_wide.2 EN)).mono ?_
          rintro e w2 ⟨v2, rfl, o2, g2⟩; obtain ⟨gq, cq, rfl, hq1, hq2⟩ := slice_of_own o2 hLp; have hv2 : Boxed w2 w1.heap.size 113 v := (g2.block _ hv.lt).trans hv; have hc2 := hv2.cell; have hlt2 := hv2.lt; have hsz2 : W.heap.size ≤ w2.heap.size := g2.size; have hsz3 : w1.heap.size + 3 ≤ w2.heap.size := Nat.le_trans hk8.lt hsz2; have hrow2 : w2.ownsRow (w1.heap.size + 3) 115 1 v vs.length vs := own_keep (own_draw hrow 1) g2; obtain ⟨v3, w3, hrun, hown3, hgrow, -, -⟩ := run_append_own_at (P := Tryz.prog) (w2.alloc (.cells #[.slice (some ⟨gq, 0, none⟩) L.length cq] 115)) (w1.heap.size + 3) 113 113 115 i0 (.slice none 0 0) 1 24 Tryz.underlying113 hi hz0 hz1 hz2 hz (by decide) v vs.length vs (hrow2.alloc _) ⟨w2.heap.size, 0, none⟩ 1 1 [.slice (some ⟨gq, 0, none⟩) L.length cq] rfl (cell_one_new _ _ _) (by simp [Value.oneCell']) (by unfold maxLen; omega) (by omega) (by rw [World.size_alloc]; omega); obtain ⟨g', cap', rfl⟩ := ownsRow_succ hown3; obtain ⟨hv3, hv4, hr4, hk4, hb4⟩ := boxed_appended (n₀ := w1.heap.size) hv2 (by omega) hrow2 hsz3 (Nat.le_refl _) hown3 hgrow; have hc3 := hv3.cell; have hf3 := hv3.frozen
          refine hK _ _ ?_
          clear hK K
          refine wpAnyIn_ready (rs := [3]) (by kernel_rfl) (by simp) ?_
          refine AllReadyIn.cons rfl (fun K hK => ?_) ?_
          · skip
            go_simp
            refine hK _ _ ?_
            clear hK K
            refine wpAnyIn_ready (rs := [4]) (by kernel_rfl) (by simp) ?_
            refine AllReadyIn.cons rfl (fun K hK => ?_) ?_
            · skip
              refine opIn_append (.tmp 11) (.tmp 14) 113 113 rfl rfl _ _ _ _ rfl rfl hrun ?_
              refine hK _ _ ?_
              clear hK K
              refine wpAnyIn_ready (rs := [5]) (by kernel_rfl) (by simp) ?_
              refine AllReadyIn.cons rfl (fun K hK => ?_) ?_
              · skip
                go_simp
                refine hK _ _ ?_
                clear hK K
                refine wpAnyIn_done (by kernel_rfl) ?_ _
                gi_wp2
                have hu2 : Boxed w2 (w1.heap.size + 1) 23 (.slice ao l.length cap) := (g2.block _ hu.lt).trans hu
                have hu3 := (hu2.alloc _).kept hgrow (not_row_of (by omega) hrow2)
                have hu4 := hu3.kept (grownBy_setCell' w3 w1.heap.size (.slice (some ⟨g', 0, none⟩) (vs.length + 1) cap')) (by simp)
                have hj2 : Boxed w2 (w1.heap.size + 2) 3 (.int .i64 8) := (g2.block _ hk8.lt).trans hk8
                have hj3 := (hj2.alloc _).kept hgrow (not_row_of (by omega) hrow2)
                have hj4 := hj3.kept (grownBy_setCell' w3 w1.heap.size (.slice (some ⟨g', 0, none⟩) (vs.length + 1) cap')) (by simp)
                have hR2 := rowB_snoc (rowB_below hR (Below.trans (Below.drew (Below.refl _ _)) g2)) (own_weak (Nat.le_trans hk8.lt (Nat.le_refl _)) o2)
                have hR3 := rowB_kept (rowB_below hR2 ((Below.refl _ _).alloc (Nat.le_refl _) _)) hgrow (fun g cur hg _ => row_ne (hrow2.alloc _) g cur hg)
                have hR4 := rowB_kept hR3 (grownBy_setCell' w3 w1.heap.size (.slice (some ⟨g', 0, none⟩) (vs.length + 1) cap')) (fun g cur _ hb => by simp; omega)
                have ko : KeepsOthers W w2 := ⟨hsz2, fun k o h _ => (g2.block k (lt_of_block h)).trans h⟩
                refine ⟨(ko.trans hk4).from _, ⟨Nat.le_trans hsz2 hb4.size, hu4.trans hu.symm, hj4.trans hk8.symm⟩, ⟨⟨_, _, hv4, by rw [List.length_append]; exact hr4, by rw [List.map_append, List.map_singleton, ← hLX.out]; exact hR4⟩, hu4, hj4, ((Below.drew hB).trans (g2.mono hB.size)).trans hb4⟩⟩
              exact AllReadyIn.nil
            exact AllReadyIn.nil
          exact AllReadyIn.nil
        exact AllReadyIn.nil
      exact AllReadyIn.nil
    refine AllReadyIn.cons rfl (fun K hK => ?_) ?_
    · skip
      go_simp
      refine hK _ _ ?_
      clear hK K
      refine wpAnyIn_ready (rs := [0, 2]) (by kernel_rfl) (by simp) ?_
      refine AllReadyIn.cons rfl (fun K hK => ?_) ?_
      · skip
        go_simp
        refine hK _ _ ?_
        clear hK K
        refine wpAnyIn_ready (rs := [2]) (by kernel_rfl) (by simp) ?_
        refine AllReadyIn.cons rfl (fun K hK => ?_) ?_
        · skip
          go_simp
          refine ⟨trivial, ?_⟩
          refine (CallsIn.inRound lo (callsIn_wide.2 EN)).mono ?_
          rintro e w2 ⟨v2, rfl, o2, g2⟩; obtain ⟨gq, cq, rfl, hq1, hq2⟩ := slice_of_own o2 hLp; have hv2 : Boxed w2 w1.heap.size 113 v := (g2.block _ hv.lt).trans hv; have hc2 := hv2.cell; have hlt2 := hv2.lt; have hsz2 : W.heap.size ≤ w2.heap.size := g2.size; have hsz3 : w1.heap.size + 3 ≤ w2.heap.size := Nat.le_trans hk8.lt hsz2; have hrow2 : w2.ownsRow (w1.heap.size + 3) 115 1 v vs.length vs := own_keep (own_draw hrow 1) g2; obtain ⟨v3, w3, hrun, hown3, hgrow, -, -⟩ := run_append_own_at (P := Tryz.prog) (w2.alloc (.cells #[.slice (some ⟨gq, 0, none⟩) L.length cq] 115)) (w1.heap.size + 3) 113 113 115 i0 (.slice none 0 0) 1 24 Tryz.underlying113 hi hz0 hz1 hz2 hz (by decide) v vs.length vs (hrow2.alloc _) ⟨w2.heap.size, 0, none⟩ 1 1 [.slice (some ⟨gq, 0, none⟩) L.length cq] rfl (cell_one_new _ _ _) (by simp [Value.oneCell']) (by unfold maxLen; omega) (by omega) (by rw [World.size_alloc]; omega); obtain ⟨g', cap', rfl⟩ := ownsRow_succ hown3; obtain ⟨hv3, hv4, hr4, hk4, hb4⟩ := boxed_appended (n₀ := w1.heap.size) hv2 (by omega) hrow2 hsz3 (Nat.le_refl _) hown3 hgrow; have hc3 := hv3.cell; have hf3 := hv3.frozen
          refine hK _ _ ?_
          clear hK K
          refine wpAnyIn_ready (rs := [3]) (by kernel_rfl) (by simp) ?_
          refine AllReadyIn.cons rfl (fun K hK => ?_) ?_
          · skip
            go_simp
            refine hK _ _ ?_
            clear hK K
            refine wpAnyIn_ready (rs := [4]) (by kernel_rfl) (by simp) ?_
            refine AllReadyIn.cons rfl (fun K hK => ?_) ?_
            · skip
              refine opIn_append (.tmp 11) (.tmp 14) 113 113 rfl rfl _ _ _ _ rfl rfl hrun ?_
              refine hK _ _ ?_
              clear hK K
              refine wpAnyIn_ready (rs := [5]) (by kernel_rfl) (by simp) ?_
              refine AllReadyIn.cons rfl (fun K hK => ?_) ?_
              · skip
                go_simp
                refine hK _ _ ?_
                clear hK K
                refine wpAnyIn_done (by kernel_rfl) ?_ _
                gi_wp2
                have hu2 : Boxed w2 (w1.heap.size + 1) 23 (.slice ao l.length cap) := (g2.block _ hu.lt).trans hu
                have hu3 := (hu2.alloc _).kept hgrow (not_row_of (by omega) hrow2)
                have hu4 := hu3.kept (grownBy_setCell' w3 w1.heap.size (.slice (some ⟨g', 0, none⟩) (vs.length + 1) cap')) (by simp)
                have hj2 : Boxed w2 (w1.heap.size + 2) 3 (.int .i64 8) := (g2.block _ hk8.lt).trans hk8
                have hj3 := (hj2.alloc _).kept hgrow (not_row_of (by omega) hrow2)
                have hj4 := hj3.kept (grownBy_setCell' w3 w1.heap.size (.slice (some ⟨g', 0, none⟩) (vs.length + 1) cap')) (by simp)
                have hR2 := rowB_snoc (rowB_below hR (Below.trans (Below.drew (Below.refl _ _)) g2)) (own_weak (Nat.le_trans hk8.lt (Nat.le_refl _)) o2)
                have hR3 := rowB_kept (rowB_below hR2 ((Below.refl _ _).alloc (Nat.le_refl _) _)) hgrow (fun g cur hg _ => row_ne (hrow2.alloc _) g cur hg)
                have hR4 := rowB_kept hR3 (grownBy_setCell' w3 w1.heap.size (.slice (some ⟨g', 0, none⟩) (vs.length + 1) cap')) (fun g cur _ hb => by simp; omega)
                have ko : KeepsOthers W w2 := ⟨hsz2, fun k o h _ => (g2.block k (lt_of_block h)).trans h⟩
                refine ⟨(ko.trans hk4).from _, ⟨Nat.le_trans hsz2 hb4.size, hu4.trans hu.symm, hj4.trans hk8.symm⟩, ⟨⟨_, _, hv4, by rw [List.length_append]; exact hr4, by rw [List.map_append, List.map_singleton, ← hLX.out]; exact hR4⟩, hu4, hj4, ((Below.drew hB).trans (g2.mono hB.size)).trans hb4⟩⟩
              exact AllReadyIn.nil
            exact AllReadyIn.nil
          exact AllReadyIn.nil
        exact AllReadyIn.nil
      refine AllReadyIn.cons rfl (fun K hK => ?_) ?_
      · skip
        go_simp
        refine ⟨trivial, ?_⟩
        refine (CallsIn.inRound lo (callsIn_wide.2 EN)).mono ?_
        rintro e w2 ⟨v2, rfl, o2, g2⟩; obtain ⟨gq, cq, rfl, hq1, hq2⟩ := slice_of_own o2 hLp; have hv2 : Boxed w2 w1.heap.size 113 v := (g2.block _ hv.lt).trans hv; have hc2 := hv2.cell; have hlt2 := hv2.lt; have hsz2 : W.heap.size ≤ w2.heap.size := g2.size; have hsz3 : w1.heap.size + 3 ≤ w2.heap.size := Nat.le_trans hk8.lt hsz2; have hrow2 : w2.ownsRow (w1.heap.size + 3) 115 1 v vs.length vs := own_keep (own_draw hrow 1) g2; obtain ⟨v3, w3, hrun, hown3, hgrow, -, -⟩ := run_append_own_at (P := Tryz.prog) (w2.alloc (.cells #[.slice (some ⟨gq, 0, none⟩) L.length cq] 115)) (w1.heap.size + 3) 113 113 115 i0 (.slice none 0 0) 1 24 Tryz.underlying113 hi hz0 hz1 hz2 hz (by decide) v vs.length vs (hrow2.alloc _) ⟨w2.heap.size, 0, none⟩ 1 1 [.slice (some ⟨gq, 0, none⟩) L.length cq] rfl (cell_one_new _ _ _) (by simp [Value.oneCell']) (by unfold maxLen; omega) (by omega) (by rw [World.size_alloc]; omega); obtain ⟨g', cap', rfl⟩ := ownsRow_succ hown3; obtain ⟨hv3, hv4, hr4, hk4, hb4⟩ := boxed_appended (n₀ := w1.heap.size) hv2 (by omega) hrow2 hsz3 (Nat.le_refl _) hown3 hgrow; have hc3 := hv3.cell; have hf3 := hv3.frozen
        refine hK _ _ ?_
        clear hK K
        refine wpAnyIn_ready (rs := [0, 3]) (by kernel_rfl) (by simp) ?_
        refine AllReadyIn.cons rfl (fun K hK => ?_) ?_
        · skip
          go_simp
          refine hK _ _ ?_
          clear hK K
          refine wpAnyIn_ready (rs := [3]) (by kernel_rfl) (by simp) ?_
          refine AllReadyIn.cons rfl (fun K hK => ?_) ?_
          · skip
            go_simp
            refine hK _ _ ?_
            clear hK K
            refine wpAnyIn_ready (rs := [4]) (by kernel_rfl) (by simp) ?_
            refine AllReadyIn.cons rfl (fun K hK => ?_) ?_
            · skip
              refine opIn_append (.tmp 11) (.tmp 14) 113 113 rfl rfl _ _ _ _ rfl rfl hrun ?_
              refine hK _ _ ?_
              clear hK K
              refine wpAnyIn_ready (rs := [5]) (by kernel_rfl) (by simp) ?_
              refine AllReadyIn.cons rfl (fun K hK => ?_) ?_
              · skip
                go_simp
                refine hK _ _ ?_
                clear hK K
                refine wpAnyIn_done (by kernel_rfl) ?_ _
                gi_wp2
                have hu2 : Boxed w2 (w1.heap.size + 1) 23 (.slice ao l.length cap) := (g2.block _ hu.lt).trans hu
                have hu3 := (hu2.alloc _).kept hgrow (not_row_of (by omega) hrow2)
                have hu4 := hu3.kept (grownBy_setCell' w3 w1.heap.size (.slice (some ⟨g', 0, none⟩) (vs.length + 1) cap')) (by simp)
                have hj2 : Boxed w2 (w1.heap.size + 2) 3 (.int .i64 8) := (g2.block _ hk8.lt).trans hk8
                have hj3 := (hj2.alloc _).kept hgrow (not_row_of (by omega) hrow2)
                have hj4 := hj3.kept (grownBy_setCell' w3 w1.heap.size (.slice (some ⟨g', 0, none⟩) (vs.length + 1) cap')) (by simp)
                have hR2 := rowB_snoc (rowB_below hR (Below.trans (Below.drew (Below.refl _ _)) g2)) (own_weak (Nat.le_trans hk8.lt (Nat.le_refl _)) o2)
                have hR3 := rowB_kept (rowB_below hR2 ((Below.refl _ _).alloc (Nat.le_refl _) _)) hgrow (fun g cur hg _ => row_ne (hrow2.alloc _) g cur hg)
                have hR4 := rowB_kept hR3 (grownBy_setCell' w3 w1.heap.size (.slice (some ⟨g', 0, none⟩) (vs.length + 1) cap')) (fun g cur _ hb => by simp; omega)
                have ko : KeepsOthers W w2 := ⟨hsz2, fun k o h _ => (g2.block k (lt_of_block h)).trans h⟩
                refine ⟨(ko.trans hk4).from _, ⟨Nat.le_trans hsz2 hb4.size, hu4.trans hu.symm, hj4.trans hk8.symm⟩, ⟨⟨_, _, hv4, by rw [List.length_append]; exact hr4, by rw [List.map_append, List.map_singleton, ← hLX.out]; exact hR4⟩, hu4, hj4, ((Below.drew hB).trans (g2.mono hB.size)).trans hb4⟩⟩
              exact AllReadyIn.nil
            exact AllReadyIn.nil
          exact AllReadyIn.nil
        refine AllReadyIn.cons rfl (fun K hK => ?_) ?_
        · skip
          go_simp
          refine hK _ _ ?_
          clear hK K
          refine wpAnyIn_ready (rs := [0]) (by kernel_rfl) (by simp) ?_
          refine AllReadyIn.cons rfl (fun K hK => ?_) ?_
          · skip
            go_simp
            refine hK _ _ ?_
            clear hK K
            refine wpAnyIn_ready (rs := [4]) (by kernel_rfl) (by simp) ?_
            refine AllReadyIn.cons rfl (fun K hK => ?_) ?_
            · skip
              refine opIn_append (.tmp 11) (.tmp 14) 113 113 rfl rfl _ _ _ _ rfl rfl hrun ?_
              refine hK _ _ ?_
              clear hK K
              refine wpAnyIn_ready (rs := [5]) (by kernel_rfl) (by simp) ?_
              refine AllReadyIn.cons rfl (fun K hK => ?_) ?_
              · skip
                go_simp
                refine hK _ _ ?_
                clear hK K
                refine wpAnyIn_done (by kernel_rfl) ?_ _
                gi_wp2
                have hu2 : Boxed w2 (w1.heap.size + 1) 23 (.slice ao l.length cap) := (g2.block _ hu.lt).trans hu
                have hu3 := (hu2.alloc _).kept hgrow (not_row_of (by omega) hrow2)
                have hu4 := hu3.kept (grownBy_setCell' w3 w1.heap.size (.slice (some ⟨g', 0, none⟩) (vs.length + 1) cap')) (by simp)
                have hj2 : Boxed w2 (w1.heap.size + 2) 3 (.int .i64 8) := (g2.block _ hk8.lt).trans hk8
                have hj3 := (hj2.alloc _).kept hgrow (not_row_of (by omega) hrow2)
                have hj4 := hj3.kept (grownBy_setCell' w3 w1.heap.size (.slice (some ⟨g', 0, none⟩) (vs.length + 1) cap')) (by simp)
                have hR2 := rowB_snoc (rowB_below hR (Below.trans (Below.drew (Below.refl _ _)) g2)) (own_weak (Nat.le_trans hk8.lt (Nat.le_refl _)) o2)
                have hR3 := rowB_kept (rowB_below hR2 ((Below.refl _ _).alloc (Nat.le_refl _) _)) hgrow (fun g cur hg _ => row_ne (hrow2.alloc _) g cur hg)
                have hR4 := rowB_kept hR3 (grownBy_setCell' w3 w1.heap.size (.slice (some ⟨g', 0, none⟩) (vs.length + 1) cap')) (fun g cur _ hb => by simp; omega)
                have ko : KeepsOthers W w2 := ⟨hsz2, fun k o h _ => (g2.block k (lt_of_block h)).trans h⟩
                refine ⟨(ko.trans hk4).from _, ⟨Nat.le_trans hsz2 hb4.size, hu4.trans hu.symm, hj4.trans hk8.symm⟩, ⟨⟨_, _, hv4, by rw [List.length_append]; exact hr4, by rw [List.map_append, List.map_singleton, ← hLX.out]; exact hR4⟩, hu4, hj4, ((Below.drew hB).trans (g2.mono hB.size)).trans hb4⟩⟩
              exact AllReadyIn.nil
            exact AllReadyIn.nil
          exact AllReadyIn.nil
        exact AllReadyIn.nil
      exact AllReadyIn.nil
    exact AllReadyIn.nil
  case done =>
    rintro D ys W hD rfl ⟨⟨v, vs, hv, hrow, hR⟩, hu, hk8, hB⟩ hK
    have hc := hv.cell
    gi_wp2
    refine ⟨by simp, .inl ⟨_, _, rfl, run_takeDeferred hK, ?_⟩⟩
    have hD1 : w1.heap.size ≤ D := by have := Z0.out; omega
    refine ⟨_, results_tmp rfl _ _ _, v, vs, rfl, own_weak (by have := g1.size; omega) (ownsRow_putObj hrow _ hK rfl), ?_, ?_⟩
    · refine rowB_weak (rowB_kept hR (grownBy_putObj' W D _) (fun g cur hg _ e => ?_)) (by have := g1.size; omega)
      obtain rfl : D = g := by simpa using e
      rw [hK] at hg; cases hg
    · exact g1.trans ((hB.trans (belowK_b (w := w1) (Nat.le_refl _) W D _ _ (by have := Z0.out; omega) hK rfl rfl)).mono g1.size)
  case stop =>
    rintro D c pre W _ _ h _
    exact h.elim
end Go.Proofs.YtoagdmglchccnaaGreatDoor
