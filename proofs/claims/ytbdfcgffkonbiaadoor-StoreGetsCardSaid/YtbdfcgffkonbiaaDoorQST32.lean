/- Span: the document's Head and Turned; short and wrong of the laws; check. -/
/- Span: check; wrong of the laws. Written by wip/tools/gen11h.py. -/
/- Span: what a round that appends keeps. -/
import Derived.Test.YtbdfcgffkonbiaaDoorQST31
import Derived.Test.YtbdfcgffkonbiaaDoorQST30
import Derived.Test.YtbdfcgffkonbiaaDoorQST28
import Derived.Test.YtbdfcgffkonbiaaDoorQST23
import Derived.RangeFuncBox
import Derived.OwnWalkIn
namespace Go.Proofs.YtbdfcgffkonbiaaDoor
open Go Go.RowKit
set_option linter.unusedVariables false
set_option linter.unusedSimpArgs false
set_option maxRecDepth 100000 in
set_option maxHeartbeats 1000000 in
theorem head_any (v : Value) (l : List It) (m : Int) (w : World) (h : RdI w v l) (h3 : l.length ≤ 3000) :
    Calls Tryd.prog 29 #[v, .int .i64 m] w fun e w' => (∃ u, e = .returned u ∧ RdI w u (l.take m.toNat)) ∧ w = w' := by
  obtain ⟨ao, cap, rfl, hc, hcm, hr⟩ := RdK.open h
  have hr : RdI w (.slice ao l.length cap) l := hr
  by_cases h0 : m < 0
  · have e0 : m.toNat = 0 := by omega
    rw [e0]
    by_cases hn : 0 < l.length
    · have HR := Lib.hid (show RdI w (.slice ao 0 cap) (l.take 0) from RdK.short itC_len hr 0 (by omega))
      clear hr h e0
      go_enter Tryd.func29, Tryd.ntmps29
      go_wp2_with fail
      go_ret
      exact ⟨⟨_, rfl, HR.out⟩, rfl⟩
    · obtain rfl : l = [] := List.eq_nil_of_length_eq_zero (by omega)
      have HR := Lib.hid (show RdI w (.slice ao 0 cap) [] from hr)
      clear hr h e0
      go_enter Tryd.func29, Tryd.ntmps29
      go_wp2_with fail
      go_ret
      exact ⟨⟨_, rfl, HR.out⟩, rfl⟩
  · obtain ⟨k, rfl⟩ : ∃ k : Nat, m = (k : Int) := ⟨m.toNat, by omega⟩
    rw [Int.toNat_natCast]
    by_cases hk : k < l.length
    · have HR := Lib.hid (show RdI w (.slice ao k cap) (l.take k) from RdK.short itC_len hr k (by omega))
      have d1 : decide ((k : Int) < (l.length : Int)) = true := decide_eq_true (by omega)
      have d2 : decide (k < l.length) = true := decide_eq_true hk
      have hkc : k ≤ cap := by omega
      clear hr h
      go_enter Tryd.func29, Tryd.ntmps29
      go_wp2_with fail
      go_ret
      exact ⟨⟨_, rfl, HR.out⟩, rfl⟩
    · have HR := Lib.hid (show RdI w (.slice ao l.length cap) (l.take k) by rw [List.take_of_length_le (by omega)]; exact hr)
      have d1 : decide ((k : Int) < (l.length : Int)) = false := decide_eq_false (by omega)
      have d2 : decide (k < l.length) = false := decide_eq_false hk
      clear hr h
      go_enter Tryd.func29, Tryd.ntmps29
      go_wp2_with fail
      go_ret
      exact ⟨⟨_, rfl, HR.out⟩, rfl⟩
end Go.Proofs.YtbdfcgffkonbiaaDoor
namespace Go.Proofs.YtbdfcgffkonbiaaDoor
open Go Go.RowKit
set_option linter.unusedVariables false
set_option linter.unusedSimpArgs false
def ckE (lv : Nat → List It) (vs : Nat → Int) (ps : List (List UInt8)) : Nat := if mayTs lv vs 16 = false then 1 else if ps.all patB = true then 0 else 3
theorem ck_no {lv : Nat → List It} {vs : Nat → Int} {ps : List (List UInt8)} (h : mayTs lv vs 16 = false) : ckE lv vs ps = 1 := by unfold ckE; rw [if_pos h]
theorem ck_ok {lv : Nat → List It} {vs : Nat → Int} {ps : List (List UInt8)} (h : mayTs lv vs 16 = true) (h2 : ps.all patB = true) : ckE lv vs ps = 0 := by unfold ckE; rw [h, if_neg (by simp), if_pos h2]
theorem ck_form {lv : Nat → List It} {vs : Nat → Int} {ps : List (List UInt8)} (h : mayTs lv vs 16 = true) (h2 : ps.all patB = false) : ckE lv vs ps = 3 := by unfold ckE; rw [h, if_neg (by simp), if_neg (by simp [h2])]
set_option maxRecDepth 100000 in
set_option maxHeartbeats 1000000 in
theorem check11_any (cs : Array Value) (lv : Nat → List It) (vs : Nat → Int) (ps : List (List UInt8)) (B cap : Nat) (w : World) (tab : TabAt w) (h : RdT w cs lv vs) (hsz : SzT lv) (hB : B < w.heap.size) (hc : ∀ i (hi : i < ps.length), w.cell? ⟨B, i, none⟩ = some (.string (str ps[i]))) (hl : ∀ p ∈ ps, p.length ≤ maxLen) (hn : ps.length ≤ 10) (hcap : ps.length ≤ cap) (hcap2 : cap ≤ 10) :
    Calls Tryd.prog 99 #[.agg cs, .slice (some ⟨B, 0, none⟩) ps.length cap] w fun e w' => e = .returned (.int .i64 (ckE lv vs ps : Int)) ∧ Below w.heap.size w w' := by
  have hs := infoTc h.size
  have q1 := heap_alloc_new w (.cells cs 26)
  have bel := (Below.refl w.heap.size w).alloc (Nat.le_refl _) (.cells cs 26)
  have MY0 := tmay_any cs lv vs _ (tab.below bel) (h.below bel (Nat.le_refl _)) hsz
  have TB := Lib.hid tab
  have HC := Lib.hid hc
  have HL := Lib.hid hl
  cases hm : mayTs lv vs 16 with
  | false =>
    rw [hm] at MY0
    have MY := Lib.hid MY0
    rw [ck_no hm]
    clear h hsz hm MY0 hc hl tab
    go_enter Tryd.func99, Tryd.ntmps99
    go_wp2_with ((with_reducible refine wpList_load_row (o := ⟨some 7, _, _, _, _, _⟩) rfl 26 (.tmp 2) rfl _ rfl _ cs (0, 0) _ q1 Tryd.underlying26 rfl hs ?_))
    refine MY.out.mono ?_
    rintro e w2 ⟨rfl, g⟩
    have bel2 := chain bel g
    clear g
    go_wp2_with fail
    go_ret
    exact ⟨rfl, bel2⟩
  | true =>
    rw [hm] at MY0
    have MY := Lib.hid MY0
    have HM := Lib.hid hm
    obtain ⟨Z, hZ⟩ : ∃ Z, Z = ckE lv vs ps := ⟨_, rfl⟩
    rw [← hZ]
    have HZ := Lib.hid hZ
    clear h hsz hm MY0 hc hl tab hZ
    go_enter Tryd.func99, Tryd.ntmps99
    go_wp2_with ((with_reducible refine wpList_load_row (o := ⟨some 7, _, _, _, _, _⟩) rfl 26 (.tmp 2) rfl _ rfl _ cs (0, 0) _ q1 Tryd.underlying26 rfl hs ?_))
    refine MY.out.mono ?_
    rintro e w2 ⟨rfl, g⟩
    have bel2 := chain bel g
    have BEL := Lib.hid bel2
    clear g bel bel2 q1
    go_wp2_with fail
    go_loopw [12] (fun i wr => ∃ (j : Nat), j ≤ ps.length ∧ i = .int .i64 (j : Int) ∧ Hid ((ps.take j).all patB = true) ∧ Below w2.heap.size w2 wr) (fun i _ => 30 - (intOf i).toNat)
    case atStart => exact ⟨0, Nat.zero_le _, rfl, Lib.hid rfl, Below.refl _ _⟩
    case round =>
      obtain ⟨j, hj, rfl, HA, bel⟩ := hrel
      have BB := chain BEL.out bel
      by_cases hlt : j < ps.length
      · have c0 := (BB.cell (p := ⟨B, j, none⟩) hB).trans (HC.out j hlt)
        obtain ⟨p, hp⟩ : ∃ p, p = ps[j]'hlt := ⟨_, rfl⟩
        rw [← hp] at c0
        have PT0 := pattern_any p (HL.out p (by rw [hp]; exact List.getElem_mem _)) wr (TB.out.below BB)
        have HX := Lib.hid (show (ps.take (j + 1)).all patB = patB p by rw [take_snoc11 hlt, List.all_append, HA.out, ← hp]; simp)
        have HM2 := Lib.hid (show patB p = false → ps.all patB = false from fun hf => by
          rw [List.all_eq_false]
          exact ⟨p, by rw [hp]; exact List.getElem_mem _, by simp [hf]⟩)
        clear hp
        cases hpp : patB p with
        | true =>
          rw [hpp] at PT0
          have PT := Lib.hid PT0
          have HX2 := Lib.hid (show (ps.take (j + 1)).all patB = true by rw [HX.out, hpp])
          clear PT0 hpp HX HM2
          go_wp2_with ((with_reducible refine PT.out.mono ?_); rintro e w5 ⟨rfl, g5⟩)
          exact ⟨⟨j + 1, by omega, by push_cast; rfl, HX2, chain bel g5⟩, by simp [intOf]; omega⟩
        | false =>
          rw [hpp] at PT0
          have PT := Lib.hid PT0
          have HF := Lib.hid (show Z = 3 by rw [HZ.out]; exact ck_form HM.out (HM2.out hpp))
          clear PT0 hpp HX HM2
          go_wp2_with ((with_reducible refine PT.out.mono ?_); rintro e w5 ⟨rfl, g5⟩)
          go_ret
          exact ⟨by rw [HF.out]; rfl, chain BB g5⟩
      · obtain rfl : j = ps.length := by omega
        have HF := Lib.hid (show Z = 0 by rw [HZ.out]; exact ck_ok HM.out (by have := HA.out; rwa [List.take_length] at this))
        go_wp2_with fail
        go_ret
        exact ⟨by rw [HF.out]; rfl, BB⟩
end Go.Proofs.YtbdfcgffkonbiaaDoor
namespace Go.Proofs.YtbdfcgffkonbiaaDoor
open Go Go.RowKit
set_option linter.unusedVariables false
set_option linter.unusedSimpArgs false
theorem not_row_of {W : World} {B base : Nat} (hB : B < base) {e : TypeId} {size k : Nat} {v : Value} {xs : List Value} (hr : W.ownsRow base e size v k xs) : some B ≠ v.ownBlock := by
  rcases hr.2 with ⟨rfl, _⟩ | ⟨g, cap, cur, rfl, hb, _, _⟩
  · simp [Value.ownBlock]
  · intro e'
    obtain rfl : B = g := by simpa [Value.ownBlock] using e'
    omega
/-- An append to a row of one's own that a box below it holds. -/
theorem boxed_appended {W w1 : World} {n₀ b₂ B : Nat} {t e : TypeId} {size : Nat} {v v' : Value} {k m : Nat} {xs ys : List Value} {tmp : Obj}
    (hv : Boxed W B t v) (hne : B < b₂) (hrow : W.ownsRow b₂ e size v k xs) (hn₀ : b₂ ≤ W.heap.size) (hB : n₀ ≤ B)
    (hown' : w1.ownsRow b₂ e size v' m ys) (hgrow : (W.alloc tmp).grownBy w1 v.ownBlock) :
    Boxed w1 B t v ∧ Boxed (w1.setCell ⟨B, 0, none⟩ v') B t v' ∧ (w1.setCell ⟨B, 0, none⟩ v').ownsRow b₂ e size v' m ys ∧ KeepsOthers W (w1.setCell ⟨B, 0, none⟩ v') ∧ Below n₀ W (w1.setCell ⟨B, 0, none⟩ v') := by
  have hv1 : Boxed w1 B t v := (hv.alloc tmp).kept hgrow (not_row_of hne hrow)
  refine ⟨hv1, hv1.set v', hown'.kept (grownBy_setCell' w1 B v') (.inr (not_row_of hne hown').symm), ?_, ?_⟩
  · refine ((KeepsOthers.alloc W tmp).trans (KeepsOthers.of_grownBy hgrow fun j o ej hj => ?_)).trans (KeepsOthers.setCell _ _ _)
    rcases (hrow.alloc tmp).2 with ⟨rfl, _⟩ | ⟨g, cap, cur, rfl, _, hgb, _⟩
    · simp [Value.ownBlock] at ej
    · obtain rfl : g = j := by simpa [Value.ownBlock] using ej
      rw [hgb] at hj; cases hj; rfl
  · refine (((Below.refl n₀ W).alloc (by omega) tmp).grown hgrow (by simp; omega) fun j ej => ?_).setCell (p := ⟨B, 0, none⟩) hB v'
    rcases hrow.2 with ⟨rfl, _⟩ | ⟨g, cap, cur, rfl, hb, _, _⟩
    · simp [Value.ownBlock] at ej
    · obtain rfl : g = j := by simpa [Value.ownBlock] using ej
      omega

theorem Tw11.own {M base : Nat} {A B : World} (h : Tw11 M A B) {size k : Nat} {v : Value} {xs : List Value} (r : A.ownsRow base 53 size v k xs) : B.ownsRow base 53 size v k xs := by
  refine ⟨r.1, ?_⟩
  rcases r.2 with h1 | ⟨g, cap, cur, h1, h2, h3, h4⟩
  · exact .inl h1
  · exact .inr ⟨g, cap, cur, h1, h2, h.same g _ h3 (fun _ cs fr e => by injection e with _ e2; exact absurd e2 (by decide)), h4⟩
theorem Tw11.cells {M : Nat} {A B : World} (h : Tw11 M A B) {g : Nat} {cs : Array Value} {t : TypeId} (ht : t ≠ 24) (q : A.heap[g]? = some (.cells cs t (0, 0))) : B.heap[g]? = some (.cells cs t (0, 0)) :=
  h.same g _ q (fun _ cs' fr e => by injection e with _ e2; exact ht e2)
theorem own_kept11 {X Y : World} {row : Option Nat} {b B size k : Nat} {e : TypeId} {v : Value} {xs : List Value} (hr : X.ownsRow b e size v k xs) (hg : X.grownBy Y row) (hrow : ∀ r, row = some r → B ≤ r ∧ ∃ o : Obj, X.heap[r]? = some o ∧ o.isCells = false) : Y.ownsRow b e size v k xs := by
  refine hr.kept hg ?_
  rcases hr.2 with ⟨rfl, _⟩ | ⟨g, cap, cur, rfl, _, hgb, _⟩
  · exact .inl rfl
  · refine .inr fun e' => ?_
    obtain ⟨_, o, ho, hc⟩ := hrow g (by simpa [Value.ownBlock] using e'.symm)
    rw [hgb] at ho; cases ho; cases hc
theorem cells_kept11 {X Y : World} {row : Option Nat} {B g : Nat} {cs : Array Value} {t : TypeId} (q : X.heap[g]? = some (.cells cs t (0, 0))) (hg : X.grownBy Y row) (hrow : ∀ r, row = some r → B ≤ r ∧ ∃ o : Obj, X.heap[r]? = some o ∧ o.isCells = false) : Y.heap[g]? = some (.cells cs t (0, 0)) := by
  refine (hg.block g (lt_of_block q) ?_).trans q
  intro e'
  obtain ⟨_, o, ho, hc⟩ := hrow g e'.symm
  rw [q] at ho; cases ho; cases hc
def fsts (l : List (It × Nat)) : List It := l.map Prod.fst
theorem fsts_ixs (l : List It) : fsts (ixs l) = l := by unfold fsts ixs; simp
theorem fsts_snoc (l : List (It × Nat)) (x : It × Nat) : fsts (l ++ [x]) = fsts l ++ [x.1] := by unfold fsts; simp
theorem fsts_len (l : List (It × Nat)) : (fsts l).length = l.length := by unfold fsts; simp
/-- What a loop has that appends to what it hands back: blocks that stay, and the row. -/
def InvO (fix : List (Nat × Obj)) (M n0 : Nat) (w : World) (pre : List (It × Nat)) (X : World) : Prop :=
  ((∀ p ∈ fix, X.heap[p.1]? = some p.2) ∧ ∃ v, X.heap[M]? = some (.cells #[v] 22 (0, 0)) ∧ X.ownsRow (M + 1) 53 5 v (fsts pre).length ((fsts pre).flatMap itC)) ∧ Below n0 w X
/-- The blocks that stay are variables of other kinds. -/
def FixOk (fix : List (Nat × Obj)) (M : Nat) : Prop := ∀ p ∈ fix, p.1 < M ∧ ∃ cs t, p.2 = .cells cs t (0, 0) ∧ t ≠ 24
section
variable {fix : List (Nat × Obj)} {M n0 : Nat} {w : World} (ok : FixOk fix M)
include ok
theorem InvO.from (hM : n0 ≤ M) (B : Nat) (hB : n0 ≤ B) (hw : n0 ≤ w.heap.size) : OwnFrom B (InvO fix M n0 w) := by
  rintro s X Y row ⟨⟨hf, v, hv, hr⟩, hb⟩ hg hrow
  refine ⟨⟨fun p hp => ?_, v, cells_kept11 hv hg hrow, own_kept11 hr hg hrow⟩, hb.grown hg (Nat.le_trans hw hb.size) fun j e => Nat.le_trans hB (hrow j e).1⟩
  obtain ⟨_, cs, t, e, _⟩ := ok p hp
  have := hf p hp
  rw [e] at this ⊢
  exact cells_kept11 this hg hrow
theorem InvO.turn (hM : n0 ≤ w.heap.size) {s : List (It × Nat)} {X Y : World} (h : InvO fix M n0 w s X) (t : Tw11 n0 X Y) : InvO fix M n0 w s Y := by
  obtain ⟨⟨hf, v, hv, hr⟩, hb⟩ := h
  refine ⟨⟨fun p hp => ?_, v, t.cells (by decide) hv, t.own hr⟩, hb.trans (t.below (Nat.le_trans hM hb.size))⟩
  obtain ⟨_, cs, ty, e, hne⟩ := ok p hp
  have := hf p hp
  rw [e] at this ⊢
  exact t.cells hne this
omit ok in
theorem InvO.below (hM : n0 ≤ w.heap.size) {s : List (It × Nat)} {X Y : World} (h : InvO fix M n0 w s X) (g : Below X.heap.size X Y) : InvO fix M n0 w s Y := by
  obtain ⟨⟨hf, v, hv, hr⟩, hb⟩ := h
  exact ⟨⟨fun p hp => (g.block _ (lt_of_block (hf p hp))).trans (hf p hp), v, (g.block _ (lt_of_block hv)).trans hv, own_keep hr g⟩, hb.trans (g.mono (Nat.le_trans hM hb.size))⟩
/-- Behind the append. -/
theorem InvO.app (hM : n0 ≤ M) {pre : List (It × Nat)} {X w1 : World} {v v' : Value} {tmp : Obj} {x : It × Nat}
    (hf : ∀ p ∈ fix, X.heap[p.1]? = some p.2) (hv : X.heap[M]? = some (.cells #[v] 22 (0, 0))) (hr : X.ownsRow (M + 1) 53 5 v (fsts pre).length ((fsts pre).flatMap itC)) (hb : Below n0 w X)
    (hown' : w1.ownsRow (M + 1) 53 5 v' ((fsts pre).length + 1) ((fsts pre).flatMap itC ++ itC x.1)) (hgrow : (X.alloc tmp).grownBy w1 v.ownBlock) :
    InvO fix M n0 w (pre ++ [x]) (w1.setCell ⟨M, 0, none⟩ v') ∧ KeepsOthers X (w1.setCell ⟨M, 0, none⟩ v') ∧ Kp11 n0 X (w1.setCell ⟨M, 0, none⟩ v') := by
  have hlM : M + 1 ≤ X.heap.size := lt_of_block hv
  obtain ⟨hv1, hv2, hr2, hk2, hb2⟩ := boxed_appended (n₀ := n0) (B := M) (b₂ := M + 1) hv (by omega) hr hlM hM hown' hgrow
  have nr : ∀ {g : Nat}, g < M + 1 → some g ≠ v.ownBlock := fun {g} hg => not_row_of hg hr
  refine ⟨⟨⟨fun p hp => ?_, v', hv2, ?_⟩, hb.trans hb2⟩, hk2, ?_⟩
  · obtain ⟨hlt, cs, t, e, _⟩ := ok p hp
    have hq := hf p hp
    rw [e] at hq ⊢
    refine (set_old (by omega)).trans ((hgrow.block _ ?_ (nr (by omega))).trans ((@heap_alloc_old _ _ _ (lt_of_block hq)).trans hq))
    have := lt_of_block hq; simp; omega
  · rw [fsts_snoc, List.length_append, List.flatMap_append]; simpa using hr2
  · refine ((Kp11.of_below ((Below.refl _ X).alloc (Nat.le_refl _) tmp)).trans (Kp11.of_grown hgrow fun r hr3 => ?_)).trans (Kp11.of_grown (row := some M) (grown_setB grown_reflB) fun r hr3 => ?_)
    · rcases (hr.alloc tmp).2 with ⟨e, _⟩ | ⟨g, cap, cur, e, hbg, hgb, _⟩
      · rw [e] at hr3; cases hr3
      · rw [e] at hr3
        obtain rfl : g = r := by simpa [Value.ownBlock] using hr3
        refine ⟨by omega, fun cs t fr hq => ?_⟩
        rw [hgb] at hq
        injection hq with hq; injection hq with _ hq _
        subst hq; decide
    · injection hr3 with hr3
      subst hr3
      refine ⟨hM, fun cs t fr hq => ?_⟩
      rw [show w1.heap[M]? = _ from hv1] at hq
      injection hq with hq; injection hq with _ hq _
      subst hq; decide
end
end Go.Proofs.YtbdfcgffkonbiaaDoor
