/- Keys: the list of a key's parts. -/
import Derived.Test.YtkcflkgfipfdfaaDoorK8H
namespace Go.Proofs.YtkcflkgfipfdfaaDoor
open Go Go.RowKit
attribute [local go_sem] Oper.semAt_some
set_option linter.unusedVariables false
set_option linter.unusedSimpArgs false
theorem strinfo : (Tryd.prog.info? 9).map (fun i => (i.zero, i.size, i.bytes)) = some (some (.string ⟨#[]⟩), 1, 16) := by kernel_rfl
theorem not_row_of {W : World} {B base : Nat} (hB : B < base) {e : TypeId} {size k : Nat} {v : Value} {xs : List Value} (hr : W.ownsRow base e size v k xs) : some B ≠ v.ownBlock := by
  rcases hr.2 with ⟨rfl, _⟩ | ⟨g, cap, cur, rfl, hb, _, _⟩
  · simp [Value.ownBlock]
  · intro e'
    obtain rfl : B = g := by simpa [Value.ownBlock] using e'
    omega
theorem own_weak {W : World} {base b : Nat} (hb : b ≤ base) {e : TypeId} {size k : Nat} {v : Value} {xs : List Value} (hr : W.ownsRow base e size v k xs) : W.ownsRow b e size v k xs := by
  refine ⟨hr.1, ?_⟩
  rcases hr.2 with h | ⟨g, cap, cur, h1, h2, h3⟩
  · exact .inl h
  · exact .inr ⟨g, cap, cur, h1, Nat.le_trans hb h2, h3⟩
/-- An append to a row of one's own that a box below it holds. -/
theorem boxed_appended {W w1 : World} {n₀ b₂ B : Nat} {t e : TypeId} {size : Nat} {v v' : Value} {k m : Nat} {xs ys : List Value} {tmp : Obj}
    (hv : Boxed W B t v) (hne : B < b₂) (hrow : W.ownsRow b₂ e size v k xs) (hn₀ : b₂ ≤ W.heap.size) (hB : n₀ ≤ B)
    (hown' : w1.ownsRow b₂ e size v' m ys) (hgrow : (W.alloc tmp).grownBy w1 v.ownBlock) :
    Boxed w1 B t v ∧ Boxed (w1.setCell ⟨B, 0, none⟩ v') B t v' ∧ (w1.setCell ⟨B, 0, none⟩ v').ownsRow b₂ e size v' m ys ∧ KeepsOthers W (w1.setCell ⟨B, 0, none⟩ v') ∧ Below n₀ W (w1.setCell ⟨B, 0, none⟩ v') := by
  have hv1 : Boxed w1 B t v := (hv.alloc tmp).kept hgrow (not_row_of hne hrow)
  refine ⟨hv1, hv1.set v', hown'.kept (grownBy_setCell' w1 B v') (.inr (not_row_of hne hown').symm), ?_, ?_⟩
  · refine ((KeepsOthers.alloc W tmp).trans (KeepsOthers.of_grownBy hgrow fun j o ej hj => ?_)).trans (KeepsOthers.setCell _ _ _)
    rcases (hrow.alloc tmp).2 with ⟨rfl, _⟩ | ⟨g, cap, cur, rfl, _, hgb, _⟩
    · simp [Value.ownBlock] at ej
    · obtain rfl : g = j := by simpa [Value.ownBlock] using ej
      rw [hgb] at hj; cases hj; rfl
  · refine (((Below.refl n₀ W).alloc (by omega) tmp).grown hgrow (by simp; omega) fun j ej => ?_).setCell (p := ⟨B, 0, none⟩) hB v'
    rcases hrow.2 with ⟨rfl, _⟩ | ⟨g, cap, cur, rfl, hb, _, _⟩
    · simp [Value.ownBlock] at ej
    · obtain rfl : g = j := by simpa [Value.ownBlock] using ej
      omega
/-- What the loop of Parts keeps. -/
def InvL (n0 : Nat) (w : World) (pre : List (List UInt8)) (W : World) : Prop :=
  ((∃ v, Boxed W n0 27 v ∧ W.ownsRow (n0 + 2) 9 1 v pre.length (pre.map sv)) ∧ ∃ u, Boxed W (n0 + 1) 9 u) ∧ Below n0 w W
theorem InvL.from (n0 : Nat) (w : World) (B : Nat) (hB : n0 ≤ B) (hB' : n0 ≤ w.heap.size) : OwnFrom B (InvL n0 w) := by
  rintro s X Y row ⟨⟨⟨v, hv, hr⟩, u, hu⟩, hb⟩ hg hrow
  have nb : ∀ {C : Nat} {t : TypeId} {x : Value}, Boxed X C t x → some C ≠ row := by
    intro C t x hx e
    obtain ⟨_, o, ho, hc⟩ := hrow C e.symm
    rw [show X.heap[C]? = _ from hx] at ho; cases ho; cases hc
  refine ⟨⟨⟨v, hv.kept hg (nb hv), hr.kept hg ?_⟩, u, hu.kept hg (nb hu)⟩, hb.grown hg (Nat.le_trans hB' hb.size) fun j e => Nat.le_trans hB (hrow j e).1⟩
  rcases hr.2 with ⟨rfl, _⟩ | ⟨g, cap, cur, rfl, _, hgb, _⟩
  · exact .inl rfl
  · refine .inr fun e' => ?_
    obtain ⟨_, o, ho, hc⟩ := hrow g (by simpa [Value.ownBlock] using e'.symm)
    rw [hgb] at ho; cases ho; cases hc
theorem InvL.turn (n0 : Nat) (w : World) (s : List (List UInt8)) (X Y : World) (h : InvL n0 w s X) (t : TwB (n0 + 1) X Y) : InvL n0 w s Y := by
  obtain ⟨⟨⟨v, hv, hr⟩, u, hu⟩, hb⟩ := h
  obtain ⟨n, x, rfl⟩ := t
  have g := grownBy_setCell' (X.drewN n) (n0 + 1) x
  have hv' := boxed_drew hv n
  have hu' := boxed_drew hu n
  have hr' : (X.drewN n).ownsRow (n0 + 2) 9 1 v s.length (s.map sv) := hr
  exact ⟨⟨⟨v, hv'.kept g (by simp), hr'.kept g (.inr (not_row_of (B := n0 + 1) (by omega) hr').symm)⟩, x, hu'.set x⟩, (below_drewN hb).setCell (p := ⟨n0 + 1, 0, none⟩) (by simp) x⟩
theorem kpB_put {n0 : Nat} {w : World} (hw : n0 + 1 < w.heap.size) (W : World) (l : Nat) (o o' : Obj) (hl : w.heap.size ≤ l) (h : W.heap[l]? = some o) (_ : o.isCells = false) (_ : o.isWalk = false) : KpB (n0 + 1) W (W.putObj l o') := by
  refine ⟨?_, World.putObj_heap_other (by omega), World.putObj_heap_other (by omega)⟩
  exact (grownBy_putObj' W l o').size
theorem tw_keeps (B B' : Nat) (X Y : World) (h : TwB B X Y) : KeepsFrom B' X Y := by
  obtain ⟨n, v, rfl⟩ := h
  have := (KeepsOthers.setCell (X.drewN n) ⟨B, 0, none⟩ v).from B'
  exact ⟨this.size, this.same⟩
set_option maxRecDepth 100000 in
set_option maxHeartbeats 2000000 in
theorem list_any (s : List UInt8) (hs : s.length ≤ maxLen) (w : World) (hT : TabAt w) :
    Calls Tryd.prog 18 #[.string (str s)] w fun e w' => ∃ v, e = .returned v ∧ w'.ownsRow w.heap.size 9 1 v (partsB s).length ((partsB s).map sv) ∧ Below w.heap.size w w' := by
  refine (callsIn_wide (n := 3)).1 ?_
  obtain ⟨i0, hi, hz0, hz1, hz2⟩ := info_parts strinfo
  refine callsIn_of_wp_marks Tryd.func18 rfl trivial ?_ rfl
  simp only [Tryd.ntmps18, List.size_toArray, List.length_cons, List.length_nil, Nat.reduceAdd, Nat.reduceSub, Array.replicate_succ, Array.replicate_zero, List.push_toArray, List.append_toArray, List.nil_append, List.cons_append]
  gi_wp2_with (refine ⟨trivial, ?_⟩; gi_at_call 32; refine (callsIn_wide.2 (parts_any s _)).mono ?_; rintro e w' ⟨rfl, rfl⟩)
  obtain ⟨W0, hW0⟩ : ∃ W0, W0 = (w.alloc (Obj.cells #[Value.slice none 0 0] 27)).alloc (Obj.cells #[Value.string (str s)] 9) := ⟨_, rfl⟩
  have z0 : W0.heap.size = w.heap.size + 2 := by rw [hW0]; simp
  have bO : Boxed W0 w.heap.size 27 (.slice none 0 0) := by rw [hW0]; exact (Boxed.new w 27 (.slice none 0 0)).alloc _
  have bS : Boxed W0 (w.heap.size + 1) 9 (.string (str s)) := by
    have := Boxed.new (w.alloc (Obj.cells #[Value.slice none 0 0] 27)) 9 (.string (str s))
    rw [World.size_alloc] at this
    rw [hW0]; exact this
  have b0 : Below w.heap.size w W0 := by rw [hW0]; exact ((Below.refl _ w).alloc (Nat.le_refl _) _).alloc (by simp) _
  rw [← hW0]
  have Z0 := Lib.hid z0
  clear hW0 z0
  refine range_law rfl (by decide) (gf := 42) (lb := #[.pointer (some ⟨w.heap.size + 1, 0, none⟩)]) rfl trivial (enters_of Tryd.func42 (by kernel_rfl) rfl) (fun _ => rfl)
    (parts_gives (3 - 1) (by decide) (w.heap.size + 1) s hs (by omega) W0 bS (hT.below b0))
    (fun A B h => tw_keeps _ _ A B h) (fun h k => h.trans k) (kpB_put (by rw [Z0.out]; omega))
    (InvL w.heap.size w) (fun _ _ _ => False) (InvL.from _ _ _ (by rw [Z0.out]; omega) (Nat.le_refl _)) (fun _ _ _ _ _ h _ _ => h) (InvL.turn _ _) (fun _ _ _ _ h _ => h)
    ⟨⟨⟨_, bO, World.ownsRow_nil _ _ _ _⟩, _, bS⟩, b0⟩
    (fun x => { tmps := #[.string (str s), undef, .slice none 0 0, .pointer (some ⟨w.heap.size, 0, none⟩), .string (str x), .string (str s), .func (.func 42) #[] #[.pointer (some ⟨w.heap.size + 1, 0, none⟩)], .string (str x), undef, undef, undef, undef, undef], defers := [] }) ?assign ?body ?done ?stop
  case assign =>
    intro l x W K hK
    gi_wp2
    exact hK
  case body =>
    rintro l pre x W ⟨⟨⟨v, hv, hrow⟩, u, hu⟩, hB⟩ hlt
    have hc := hv.cell
    gi_wp2_with (gi_at_builtin; refine wpListIn_append_own _ rfl _ _ 27 rfl (w.heap.size + 2) 9 i0 (.string ⟨#[]⟩) 1 16 Tryd.underlying27 hi hz0 hz1 hz2 rfl (by decide) _ _ _ rfl (hrow.alloc _) ⟨W.heap.size, 0, none⟩ 1 1 [sv x] rfl rfl (cell_one_new _ _ _) (by simp [Value.oneCell', sv]) (by unfold maxLen; omega) (by omega) (by have := hu.lt; simp; omega) ?_; intro v' w1 hown' hgrow _; obtain ⟨g', cap', rfl⟩ := ownsRow_succ hown'; obtain ⟨hv1, hv2, hr2, hk2, hb2⟩ := boxed_appended (n₀ := w.heap.size) hv (by omega) hrow (by have := hu.lt; omega) (Nat.le_refl _) hown' hgrow; have hc1 := hv1.cell; have hf1 := hv1.frozen)
    have hu1 : Boxed w1 (w.heap.size + 1) 9 u := (hu.alloc _).kept hgrow (not_row_of (by omega) hrow)
    have hu2 := hu1.kept (grownBy_setCell' w1 w.heap.size (.slice (some ⟨g', 0, none⟩) (pre.length + 1) cap')) (by simp)
    refine ⟨hk2.from _, ⟨hb2.size, hu2.trans hu.symm, ?_⟩, ⟨⟨_, hv2, ?_⟩, u, hu2⟩, hB.trans hb2⟩
    · exact hb2.block 0 hT.1
    · simpa using hr2
  case done =>
    rintro D ys W hD rfl ⟨⟨⟨v, hv, hrow⟩, u, hu⟩, hB⟩ hK
    have hc := hv.cell
    gi_wp2
    refine ⟨by simp, .inl ⟨_, _, rfl, run_takeDeferred hK, ?_⟩⟩
    exact ⟨_, results_tmp rfl _ _ _, v, rfl, own_weak (by omega) (ownsRow_putObj hrow _ hK rfl), hB.trans (belowK_b (w := w) (Nat.le_refl _) W D _ _ (by have := Z0.out; omega) hK rfl rfl)⟩
  case stop =>
    rintro D c pre W _ _ h _
    exact h.elim
end Go.Proofs.YtkcflkgfipfdfaaDoor
