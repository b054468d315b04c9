/- Quorums: the list of a set. -/
import Derived.Test.YtlhdbggjablofaaDoorQ05F
namespace Go.Proofs.YtlhdbggjablofaaDoor
open Go Go.RowKit
attribute [local go_sem] Oper.semAt_some
set_option linter.unusedVariables false
set_option linter.unusedSimpArgs false
def iv (n : Nat) : Value := .int .i64 (n : Int)
theorem intinfo : (Tryd.prog.info? 3).map (fun i => (i.zero, i.size, i.bytes)) = some (some (.int .i64 0), 1, 8) := by kernel_rfl
/-- What the loop of List keeps. -/
def InvL (n0 : Nat) (w : World) (pre : List Nat) (W : World) : Prop :=
  ((∃ v, Boxed W n0 30 v ∧ W.ownsRow n0 3 1 v pre.length (pre.map iv)) ∧ ∃ u, Boxed W (n0 + 1) 29 u) ∧ Below n0 w W
theorem InvL.from (n0 : Nat) (w : World) (B : Nat) (hB : n0 ≤ B) (hB' : n0 ≤ w.heap.size) : OwnFrom B (InvL n0 w) := by
  rintro s X Y row ⟨⟨⟨v, hv, hr⟩, u, hu⟩, hb⟩ hg hrow
  have nb : ∀ {C : Nat} {t : TypeId} {x : Value}, Boxed X C t x → some C ≠ row := by
    intro C t x hx e
    obtain ⟨_, o, ho, hc⟩ := hrow C e.symm
    rw [show X.heap[C]? = _ from hx] at ho; cases ho; cases hc
  refine ⟨⟨⟨v, hv.kept hg (nb hv), hr.kept hg ?_⟩, u, hu.kept hg (nb hu)⟩, hb.grown hg (Nat.le_trans hB' hb.size) fun j e => Nat.le_trans hB (hrow j e).1⟩
  rcases hr.2 with ⟨rfl, _⟩ | ⟨g, cap, cur, rfl, _, hgb, _⟩
  · exact .inl rfl
  · refine .inr fun e' => ?_
    obtain ⟨_, o, ho, hc⟩ := hrow g (by simpa [Value.ownBlock] using e'.symm)
    rw [hgb] at ho; cases ho; cases hc
theorem InvL.turn (n0 : Nat) (w : World) (s : List Nat) (X Y : World) (h : InvL n0 w s X) (t : TwB (n0 + 1) X Y) : InvL n0 w s Y := by
  obtain ⟨⟨⟨v, hv, hr⟩, u, hu⟩, hb⟩ := h
  obtain ⟨x, rfl⟩ := t
  have g := grownBy_setCell' X (n0 + 1) x
  exact ⟨⟨⟨v, hv.kept g (by simp), hr.kept g (.inr (hu.not_row (by decide) hr).symm)⟩, x, hu.set x⟩, hb.setCell (p := ⟨n0 + 1, 0, none⟩) (by simp) x⟩
theorem kpB_put {n0 : Nat} {w : World} (hw : n0 + 1 < w.heap.size) (W : World) (l : Nat) (o o' : Obj) (hl : w.heap.size ≤ l) (h : W.heap[l]? = some o) (_ : o.isCells = false) (_ : o.isWalk = false) : KpB (n0 + 1) W (W.putObj l o') := by
  refine ⟨?_, World.putObj_heap_other (by omega), World.putObj_heap_other (by omega)⟩
  exact (grownBy_putObj' W l o').size
set_option maxRecDepth 100000 in
set_option maxHeartbeats 2000000 in
theorem list_any (s : Nat) (hs : s < 18446744073709551616) (w : World) (hT : TabAt w) :
    Calls Tryd.prog 13 #[.int .u64 (s : Int)] w fun e w' => ∃ v, e = .returned v ∧ w'.ownsRow w.heap.size 3 1 v (listN s).length ((listN s).map iv) ∧ Below w.heap.size w w' := by
  refine (callsIn_wide (n := 3)).1 ?_
  obtain ⟨i0, hi, hz0, hz1, hz2⟩ := info_parts intinfo
  refine callsIn_of_wp_marks Tryd.func13 rfl trivial ?_ rfl
  simp only [Tryd.ntmps13, List.size_toArray, List.length_cons, List.length_nil, Nat.reduceAdd, Nat.reduceSub, Array.replicate_succ, Array.replicate_zero, List.push_toArray, List.append_toArray, List.nil_append, List.cons_append]
  have HS := Lib.hid hs
  clear hs
  gi_wp2_with (refine ⟨trivial, ?_⟩; gi_at_call 25; refine (callsIn_wide.2 (numbers_any s _)).mono ?_; rintro e w' ⟨rfl, rfl⟩)
  obtain ⟨W0, hW0⟩ : ∃ W0, W0 = (w.alloc (Obj.cells #[Value.slice none 0 0] 30)).alloc (Obj.cells #[Value.int IntKind.u64 (s : Int)] 29) := ⟨_, rfl⟩
  have z0 : W0.heap.size = w.heap.size + 2 := by rw [hW0]; simp
  have bO : Boxed W0 w.heap.size 30 (.slice none 0 0) := by rw [hW0]; exact (Boxed.new w 30 (.slice none 0 0)).alloc _
  have bS : Boxed W0 (w.heap.size + 1) 29 (.int .u64 (s : Int)) := by
    have := Boxed.new (w.alloc (Obj.cells #[Value.slice none 0 0] 30)) 29 (.int .u64 (s : Int))
    rw [World.size_alloc] at this
    rw [hW0]; exact this
  have b0 : Below w.heap.size w W0 := by rw [hW0]; exact ((Below.refl _ w).alloc (Nat.le_refl _) _).alloc (by simp) _
  rw [← hW0]
  have Z0 := Lib.hid z0
  clear hW0 z0
  refine range_law rfl (by decide) (gf := 29) (lb := #[.pointer (some ⟨w.heap.size + 1, 0, none⟩)]) rfl trivial (enters_of Tryd.func29 (by kernel_rfl) rfl) (fun _ => rfl)
    (nums_gives (3 - 1) (by decide) (w.heap.size + 1) s HS.out (by omega) W0 bS (hT.below b0 hT.1))
    (fun A B ⟨v, e⟩ => by rw [e]; exact (KeepsOthers.setCell _ _ _).from _) (fun h k => h.trans k) (kpB_put (by rw [Z0.out]; omega))
    (InvL w.heap.size w) (fun _ _ _ => False) (InvL.from _ _ _ (by rw [Z0.out]; omega) (Nat.le_refl _)) (fun _ _ _ _ _ h _ _ => h) (InvL.turn _ _) (fun _ _ _ _ h _ => h)
    ⟨⟨⟨_, bO, World.ownsRow_nil _ _ _ _⟩, _, bS⟩, b0⟩
    (fun x => { tmps := #[.int .u64 (s : Int), undef, .slice none 0 0, .pointer (some ⟨w.heap.size, 0, none⟩), .int .i64 (x : Int), .int .u64 (s : Int), .func (.func 29) #[] #[.pointer (some ⟨w.heap.size + 1, 0, none⟩)], .int .i64 (x : Int), undef, undef, undef, undef, undef], defers := [] }) ?assign ?body ?done ?stop
  case assign =>
    intro l x W K hK
    gi_wp2
    exact hK
  case body =>
    rintro l pre x W ⟨⟨⟨v, hv, hrow⟩, u, hu⟩, hB⟩ hlt
    have hc := hv.cell
    gi_wp2_with (gi_at_builtin; refine wpListIn_append_own _ rfl _ _ 30 rfl w.heap.size 3 i0 (.int .i64 0) 1 8 Tryd.underlying30 hi hz0 hz1 hz2 rfl (by decide) _ _ _ rfl (hrow.alloc _) ⟨W.heap.size, 0, none⟩ 1 1 [iv x] rfl rfl (cell_one_new _ _ _) (by simp [Value.oneCell', iv]) (by unfold maxLen; omega) (by omega) (by have := hB.size; simp; omega) ?_; intro v' w1 hown' hgrow _; obtain ⟨g', cap', rfl⟩ := ownsRow_succ hown'; obtain ⟨hv1, hv2, hr2, hk2, hb2⟩ := hv.appended (by decide) hrow hB.size (Nat.le_refl _) hown' hgrow; have hc1 := hv1.cell; have hf1 := hv1.frozen)
    have hu1 : Boxed w1 (w.heap.size + 1) 29 u := (hu.alloc _).kept hgrow (hu.not_row (by decide) hrow)
    have hu2 := hu1.kept (grownBy_setCell' w1 w.heap.size (.slice (some ⟨g', 0, none⟩) (pre.length + 1) cap')) (by simp)
    refine ⟨hk2.from _, ⟨hb2.size, hu2.trans hu.symm, ?_⟩, ⟨⟨_, hv2, ?_⟩, u, hu2⟩, hB.trans hb2⟩
    · exact hb2.block 0 hT.1
    · simpa using hr2
  case done =>
    rintro D ys W hD rfl ⟨⟨⟨v, hv, hrow⟩, u, hu⟩, hB⟩ hK
    have hc := hv.cell
    gi_wp2
    refine ⟨by simp, .inl ⟨_, _, rfl, run_takeDeferred hK, ?_⟩⟩
    exact ⟨_, results_tmp rfl _ _ _, v, rfl, ownsRow_putObj hrow _ hK rfl, hB.trans (belowK_b (w := w) (Nat.le_refl _) W D _ _ (by have := Z0.out; omega) hK rfl rfl)⟩
  case stop =>
    rintro D c pre W _ _ h _
    exact h.elim
end Go.Proofs.YtlhdbggjablofaaDoor
