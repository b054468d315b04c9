/- The document's Say where nothing is recorded. Written by wip/tools/gen4i.py. -/
import Derived.Test.YtojjpnkdblaidaaR4H
namespace Go.Proofs.Ytojjpnkdblaidaa
open Go Go.RowKit Go.Maps
set_option linter.unusedVariables false
set_option linter.unusedSimpArgs false
theorem say_same {w V : World} {n : Int} {x y : Value} {z0 z1 z2 : Value} (bel : Below w.heap.size w V) (h : V.heap[w.heap.size + 2]? = some (.cells #[z0, z1, z2] 27 (0, 0))) :
    (((V.setCell ⟨w.heap.size + 1 + 1, 0, none⟩ (.int .i64 n)).setCell ⟨w.heap.size + 1 + 1, 1, none⟩ x).setCell ⟨w.heap.size + 1 + 1, 2, none⟩ y).heap[w.heap.size + 1 + 1]? = some (.cells #[.int .i64 n, x, y] 27 (0, 0)) ∧
    Below w.heap.size w (((V.setCell ⟨w.heap.size + 1 + 1, 0, none⟩ (.int .i64 n)).setCell ⟨w.heap.size + 1 + 1, 1, none⟩ x).setCell ⟨w.heap.size + 1 + 1, 2, none⟩ y) := by
  refine ⟨by simpa using set_at (i := 2) (u := y) (set_at (i := 1) (u := x) (set_at (i := 0) (u := .int .i64 n) h)), ?_⟩
  exact ((bel.setCell (by simp; omega) _).setCell (by simp; omega) _).setCell (by simp; omega) _
set_option maxRecDepth 100000 in
set_option maxHeartbeats 1000000 in
theorem refSay_out (n : Int) (rv lv : Value) (xs : List Int) (T : List St) (sp : Int) (s : St) (b0 : Nat) (w : World) (hx : xs.length ≤ 1000) (hT : T.length ≤ 1000) (hr : RdV w rv (xs.map iv)) (hwf : ∀ x ∈ T, x.Wf) (hl : w.ownsRow b0 39 5 lv T.length (T.flatMap St.cs)) (h1 : ¬ (0 ≤ sp ∧ sp < n)) :
    Calls Try.prog 11 #[.agg #[.int .i64 n, rv, lv], .int .i64 sp, s.v] w fun e w' => Below w.heap.size w w' ∧ e = .returned (.tuple #[.agg #[.int .i64 n, rv, lv], .int .i64 4]) := by
  obtain ⟨a1, c1, hrv, _⟩ := rdv_open hr
  obtain ⟨ao, cap, hlv⟩ := own_slice' hl
  have hn1 : ∃ ao m c, lv = .slice ao m c := ⟨_, _, _, hlv⟩
  obtain ⟨Wb, hW⟩ : ∃ Wb, Wb = ((w.alloc (.cells #[.int .i64 n, .slice a1 xs.length c1, .slice ao T.length cap] 27)).alloc (.cells #[.int .i64 s.a, .int .i64 s.b, .int .i64 s.c, .int .i64 s.d, .int .i64 s.e] 39)).alloc (.cells #[.int .i64 0, .slice none 0 0, .slice none 0 0] 27) := ⟨_, rfl⟩
  have Be : Below w.heap.size w Wb := by rw [hW]; exact (((Below.refl _ _).alloc (Nat.le_refl _) _).alloc (by simp) _).alloc (by simp; omega) _
  have q3 : Wb.heap[w.heap.size]? = some (.cells #[.int .i64 n, .slice a1 xs.length c1, .slice ao T.length cap] 27 (0, 0)) := by rw [hW, heap_alloc_old _ _ (by simp; omega), heap_alloc_old _ _ (by simp)]; exact heap_alloc_new _ _
  have q5 : Wb.heap[w.heap.size + 1]? = some (.cells #[.int .i64 s.a, .int .i64 s.b, .int .i64 s.c, .int .i64 s.d, .int .i64 s.e] 39 (0, 0)) := by rw [hW, heap_alloc_old _ _ (by simp)]; exact heap_alloc2_new _ _ _
  have q6 : Wb.heap[w.heap.size + 2]? = some (.cells #[.int .i64 0, .slice none 0 0, .slice none 0 0] 27 (0, 0)) := by rw [hW]; have := heap_alloc_new ((w.alloc (.cells #[.int .i64 n, .slice a1 xs.length c1, .slice ao T.length cap] 27)).alloc (.cells #[.int .i64 s.a, .int .i64 s.b, .int .i64 s.c, .int .i64 s.d, .int .i64 s.e] 39)) (.cells #[.int .i64 0, .slice none 0 0, .slice none 0 0] 27); simpa using this
  have HB := Lib.hid (fun (p : Int) (w' : World) (g : Below Wb.heap.size Wb w') => refBad_any n rv lv xs hx p w' (hr.below (chain Be g) (Nat.le_refl _)) hn1)
  have HH := Lib.hid (fun (w' : World) (g : Below Wb.heap.size Wb w') => refHas_any n rv lv T (by omega) s w' ⟨_, _, _, hrv⟩ (own_rds (own_below hl (chain Be g)) hwf (by omega)))
  have HC := Lib.hid (fun (w' : World) (g : Below Wb.heap.size Wb w') => (show w'.heap[w.heap.size]? = some (.cells #[.int .i64 n, .slice a1 xs.length c1, .slice ao T.length cap] 27 (0, 0)) ∧ w'.heap[w.heap.size + 1]? = some (.cells #[.int .i64 s.a, .int .i64 s.b, .int .i64 s.c, .int .i64 s.d, .int .i64 s.e] 39 (0, 0)) ∧ w'.heap[w.heap.size + 2]? = some (.cells #[.int .i64 0, .slice none 0 0, .slice none 0 0] 27 (0, 0)) from ⟨(g.block _ (lt_of_block q3)).trans q3, (g.block _ (lt_of_block q5)).trans q5, (g.block _ (lt_of_block q6)).trans q6⟩))
  subst hrv hlv
  have bel := Below.refl Wb.heap.size Wb
  have f3 := cells3 q3
  have f5 := cells5 q5
  have f6 := cells3 q6
  have f7 := block_frozen q6
  have lW : w.heap.size + 2 < Wb.heap.size := lt_of_block q6
  clear hr hl hwf hn1
  unfold St.v at HH
  unfold St.v
  by_cases e4 : sp < 0
  · clear h1
    go_enter Try.func11, Try.ntmps11
    go_wp2_with fail
    exact bodyPost_ret (v := .tuple #[.agg #[.int .i64 n, .slice a1 xs.length c1, .slice ao T.length cap], .int .i64 4]) (by simp [results, Try.results11, go_sem]) rfl ⟨(((Below.refl _ _).alloc (Nat.le_refl _) _).alloc (by simp) _).alloc (by simp; omega) _, rfl⟩
  · have e5 : n ≤ sp := by omega
    clear h1
    go_enter Try.func11, Try.ntmps11
    go_wp2_with fail
    exact bodyPost_ret (v := .tuple #[.agg #[.int .i64 n, .slice a1 xs.length c1, .slice ao T.length cap], .int .i64 4]) (by simp [results, Try.results11, go_sem]) rfl ⟨(((Below.refl _ _).alloc (Nat.le_refl _) _).alloc (by simp) _).alloc (by simp; omega) _, rfl⟩
set_option maxRecDepth 100000 in
set_option maxHeartbeats 1000000 in
theorem refSay_forged (n : Int) (rv lv : Value) (xs : List Int) (T : List St) (sp : Int) (s : St) (b0 : Nat) (w : World) (hx : xs.length ≤ 1000) (hT : T.length ≤ 1000) (hr : RdV w rv (xs.map iv)) (hwf : ∀ x ∈ T, x.Wf) (hl : w.ownsRow b0 39 5 lv T.length (T.flatMap St.cs)) (h1 : 0 ≤ sp) (h2 : sp < n) (h3 : s.a ≠ sp) (h4 : ¬ sp ∈ xs ∨ ¬ s.a ∈ xs) :
    Calls Try.prog 11 #[.agg #[.int .i64 n, rv, lv], .int .i64 sp, s.v] w fun e w' => Below w.heap.size w w' ∧ e = .returned (.tuple #[.agg #[.int .i64 n, rv, lv], .int .i64 19]) := by
  obtain ⟨a1, c1, hrv, _⟩ := rdv_open hr
  obtain ⟨ao, cap, hlv⟩ := own_slice' hl
  have hn1 : ∃ ao m c, lv = .slice ao m c := ⟨_, _, _, hlv⟩
  obtain ⟨Wb, hW⟩ : ∃ Wb, Wb = ((w.alloc (.cells #[.int .i64 n, .slice a1 xs.length c1, .slice ao T.length cap] 27)).alloc (.cells #[.int .i64 s.a, .int .i64 s.b, .int .i64 s.c, .int .i64 s.d, .int .i64 s.e] 39)).alloc (.cells #[.int .i64 0, .slice none 0 0, .slice none 0 0] 27) := ⟨_, rfl⟩
  have Be : Below w.heap.size w Wb := by rw [hW]; exact (((Below.refl _ _).alloc (Nat.le_refl _) _).alloc (by simp) _).alloc (by simp; omega) _
  have q3 : Wb.heap[w.heap.size]? = some (.cells #[.int .i64 n, .slice a1 xs.length c1, .slice ao T.length cap] 27 (0, 0)) := by rw [hW, heap_alloc_old _ _ (by simp; omega), heap_alloc_old _ _ (by simp)]; exact heap_alloc_new _ _
  have q5 : Wb.heap[w.heap.size + 1]? = some (.cells #[.int .i64 s.a, .int .i64 s.b, .int .i64 s.c, .int .i64 s.d, .int .i64 s.e] 39 (0, 0)) := by rw [hW, heap_alloc_old _ _ (by simp)]; exact heap_alloc2_new _ _ _
  have q6 : Wb.heap[w.heap.size + 2]? = some (.cells #[.int .i64 0, .slice none 0 0, .slice none 0 0] 27 (0, 0)) := by rw [hW]; have := heap_alloc_new ((w.alloc (.cells #[.int .i64 n, .slice a1 xs.length c1, .slice ao T.length cap] 27)).alloc (.cells #[.int .i64 s.a, .int .i64 s.b, .int .i64 s.c, .int .i64 s.d, .int .i64 s.e] 39)) (.cells #[.int .i64 0, .slice none 0 0, .slice none 0 0] 27); simpa using this
  have HB := Lib.hid (fun (p : Int) (w' : World) (g : Below Wb.heap.size Wb w') => refBad_any n rv lv xs hx p w' (hr.below (chain Be g) (Nat.le_refl _)) hn1)
  have HH := Lib.hid (fun (w' : World) (g : Below Wb.heap.size Wb w') => refHas_any n rv lv T (by omega) s w' ⟨_, _, _, hrv⟩ (own_rds (own_below hl (chain Be g)) hwf (by omega)))
  have HC := Lib.hid (fun (w' : World) (g : Below Wb.heap.size Wb w') => (show w'.heap[w.heap.size]? = some (.cells #[.int .i64 n, .slice a1 xs.length c1, .slice ao T.length cap] 27 (0, 0)) ∧ w'.heap[w.heap.size + 1]? = some (.cells #[.int .i64 s.a, .int .i64 s.b, .int .i64 s.c, .int .i64 s.d, .int .i64 s.e] 39 (0, 0)) ∧ w'.heap[w.heap.size + 2]? = some (.cells #[.int .i64 0, .slice none 0 0, .slice none 0 0] 27 (0, 0)) from ⟨(g.block _ (lt_of_block q3)).trans q3, (g.block _ (lt_of_block q5)).trans q5, (g.block _ (lt_of_block q6)).trans q6⟩))
  subst hrv hlv
  have bel := Below.refl Wb.heap.size Wb
  have f3 := cells3 q3
  have f5 := cells5 q5
  have f6 := cells3 q6
  have f7 := block_frozen q6
  have lW : w.heap.size + 2 < Wb.heap.size := lt_of_block q6
  clear hr hl hwf hn1
  unfold St.v at HH
  unfold St.v
  have e4 : ¬ sp < 0 := by omega
  have e5 : ¬ n ≤ sp := by omega
  have e1 := int_nen h3
  have e2 := int_neb h3
  have B1 := fun w1 g => HB.out sp w1 g
  have B2 := fun w1 g => HB.out s.a w1 g
  by_cases h5 : sp ∈ xs
  · rw [show decide (sp ∈ xs) = true from by simpa using h5] at B1
    rw [show decide (s.a ∈ xs) = false from by rcases h4 with h4 | h4; exact absurd h5 h4; simpa using h4] at B2
    have B1 := Lib.hid B1
    have B2 := Lib.hid B2
    clear h3 h4 h5
    go_enter Try.func11, Try.ntmps11
    go_wp2_with fail
    rw [← hW]
    refine (B1.out _ bel).mono ?_
    rintro e w1 ⟨rfl, g1⟩
    have bel := chain bel g1
    clear g1
    have q := HC.out _ bel
    have f3 := cells3 q.1
    have f5 := cells5 q.2.1
    have f6 := cells3 q.2.2
    have f7 := block_frozen q.2.2
    clear q
    go_wp2_with fail
    refine (B2.out _ bel).mono ?_
    rintro e w1 ⟨rfl, g1⟩
    have bel := chain bel g1
    clear g1
    have q := HC.out _ bel
    have f3 := cells3 q.1
    have f5 := cells5 q.2.1
    have f6 := cells3 q.2.2
    have f7 := block_frozen q.2.2
    clear q
    go_wp2_with fail
    have q := HC.out _ bel
    have fin := say_same (n := n) (x := .slice a1 xs.length c1) (y := .slice ao T.length cap) (chain Be bel) q.2.2
    obtain ⟨u1, u2, u3⟩ := cells3 fin.1
    exact bodyPost_ret (v := .tuple #[.agg #[.int .i64 n, .slice a1 xs.length c1, .slice ao T.length cap], .int .i64 19]) (by simp [results, Try.results11, go_sem, u1, u2, u3]) rfl ⟨fin.2, rfl⟩
  · rw [show decide (sp ∈ xs) = false from by simpa using h5] at B1
    have B1 := Lib.hid B1
    clear h3 h4 h5 B2
    go_enter Try.func11, Try.ntmps11
    go_wp2_with fail
    rw [← hW]
    refine (B1.out _ bel).mono ?_
    rintro e w1 ⟨rfl, g1⟩
    have bel := chain bel g1
    clear g1
    have q := HC.out _ bel
    have f3 := cells3 q.1
    have f5 := cells5 q.2.1
    have f6 := cells3 q.2.2
    have f7 := block_frozen q.2.2
    clear q
    go_wp2_with fail
    have q := HC.out _ bel
    have fin := say_same (n := n) (x := .slice a1 xs.length c1) (y := .slice ao T.length cap) (chain Be bel) q.2.2
    obtain ⟨u1, u2, u3⟩ := cells3 fin.1
    exact bodyPost_ret (v := .tuple #[.agg #[.int .i64 n, .slice a1 xs.length c1, .slice ao T.length cap], .int .i64 19]) (by simp [results, Try.results11, go_sem, u1, u2, u3]) rfl ⟨fin.2, rfl⟩
set_option maxRecDepth 100000 in
set_option maxHeartbeats 1000000 in
theorem refSay_again (n : Int) (rv lv : Value) (xs : List Int) (T : List St) (sp : Int) (s : St) (b0 : Nat) (w : World) (hx : xs.length ≤ 1000) (hT : T.length ≤ 1000) (hr : RdV w rv (xs.map iv)) (hwf : ∀ x ∈ T, x.Wf) (hl : w.ownsRow b0 39 5 lv T.length (T.flatMap St.cs)) (h1 : 0 ≤ sp) (h2 : sp < n) (h3 : s.a = sp ∨ (sp ∈ xs ∧ s.a ∈ xs)) (hm : s ∈ T) :
    Calls Try.prog 11 #[.agg #[.int .i64 n, rv, lv], .int .i64 sp, s.v] w fun e w' => Below w.heap.size w w' ∧ e = .returned (.tuple #[.agg #[.int .i64 n, rv, lv], .int .i64 0]) := by
  obtain ⟨a1, c1, hrv, _⟩ := rdv_open hr
  obtain ⟨ao, cap, hlv⟩ := own_slice' hl
  have hn1 : ∃ ao m c, lv = .slice ao m c := ⟨_, _, _, hlv⟩
  obtain ⟨Wb, hW⟩ : ∃ Wb, Wb = ((w.alloc (.cells #[.int .i64 n, .slice a1 xs.length c1, .slice ao T.length cap] 27)).alloc (.cells #[.int .i64 s.a, .int .i64 s.b, .int .i64 s.c, .int .i64 s.d, .int .i64 s.e] 39)).alloc (.cells #[.int .i64 0, .slice none 0 0, .slice none 0 0] 27) := ⟨_, rfl⟩
  have Be : Below w.heap.size w Wb := by rw [hW]; exact (((Below.refl _ _).alloc (Nat.le_refl _) _).alloc (by simp) _).alloc (by simp; omega) _
  have q3 : Wb.heap[w.heap.size]? = some (.cells #[.int .i64 n, .slice a1 xs.length c1, .slice ao T.length cap] 27 (0, 0)) := by rw [hW, heap_alloc_old _ _ (by simp; omega), heap_alloc_old _ _ (by simp)]; exact heap_alloc_new _ _
  have q5 : Wb.heap[w.heap.size + 1]? = some (.cells #[.int .i64 s.a, .int .i64 s.b, .int .i64 s.c, .int .i64 s.d, .int .i64 s.e] 39 (0, 0)) := by rw [hW, heap_alloc_old _ _ (by simp)]; exact heap_alloc2_new _ _ _
  have q6 : Wb.heap[w.heap.size + 2]? = some (.cells #[.int .i64 0, .slice none 0 0, .slice none 0 0] 27 (0, 0)) := by rw [hW]; have := heap_alloc_new ((w.alloc (.cells #[.int .i64 n, .slice a1 xs.length c1, .slice ao T.length cap] 27)).alloc (.cells #[.int .i64 s.a, .int .i64 s.b, .int .i64 s.c, .int .i64 s.d, .int .i64 s.e] 39)) (.cells #[.int .i64 0, .slice none 0 0, .slice none 0 0] 27); simpa using this
  have HB := Lib.hid (fun (p : Int) (w' : World) (g : Below Wb.heap.size Wb w') => refBad_any n rv lv xs hx p w' (hr.below (chain Be g) (Nat.le_refl _)) hn1)
  have HH := Lib.hid (fun (w' : World) (g : Below Wb.heap.size Wb w') => refHas_any n rv lv T (by omega) s w' ⟨_, _, _, hrv⟩ (own_rds (own_below hl (chain Be g)) hwf (by omega)))
  have HC := Lib.hid (fun (w' : World) (g : Below Wb.heap.size Wb w') => (show w'.heap[w.heap.size]? = some (.cells #[.int .i64 n, .slice a1 xs.length c1, .slice ao T.length cap] 27 (0, 0)) ∧ w'.heap[w.heap.size + 1]? = some (.cells #[.int .i64 s.a, .int .i64 s.b, .int .i64 s.c, .int .i64 s.d, .int .i64 s.e] 39 (0, 0)) ∧ w'.heap[w.heap.size + 2]? = some (.cells #[.int .i64 0, .slice none 0 0, .slice none 0 0] 27 (0, 0)) from ⟨(g.block _ (lt_of_block q3)).trans q3, (g.block _ (lt_of_block q5)).trans q5, (g.block _ (lt_of_block q6)).trans q6⟩))
  subst hrv hlv
  have bel := Below.refl Wb.heap.size Wb
  have f3 := cells3 q3
  have f5 := cells5 q5
  have f6 := cells3 q6
  have f7 := block_frozen q6
  have lW : w.heap.size + 2 < Wb.heap.size := lt_of_block q6
  clear hr hl hwf hn1
  unfold St.v at HH
  unfold St.v
  have e4 : ¬ sp < 0 := by omega
  have e5 : ¬ n ≤ sp := by omega
  have HM := Lib.hid (show decide (s ∈ T) = true from by simpa using hm)
  clear hm
  rcases h3 with h3 | ⟨h3, h4⟩
  · have e1 := int_eqn h3
    have e2 := int_eqb h3
    clear h3
    go_enter Try.func11, Try.ntmps11
    go_wp2_with fail
    rw [← hW]
    have hh := HH.out _ bel
    rw [HM.out] at hh
    refine hh.mono ?_
    rintro e w2 ⟨rfl, g2⟩
    have bel := chain bel g2
    clear g2 hh
    have q := HC.out _ bel
    have f3 := cells3 q.1
    have f5 := cells5 q.2.1
    have f6 := cells3 q.2.2
    have f7 := block_frozen q.2.2
    clear q
    go_wp2_with fail
    have q := HC.out _ bel
    have fin := say_same (n := n) (x := .slice a1 xs.length c1) (y := .slice ao T.length cap) (chain Be bel) q.2.2
    obtain ⟨u1, u2, u3⟩ := cells3 fin.1
    exact bodyPost_ret (v := .tuple #[.agg #[.int .i64 n, .slice a1 xs.length c1, .slice ao T.length cap], .int .i64 0]) (by simp [results, Try.results11, go_sem, u1, u2, u3]) rfl ⟨fin.2, rfl⟩
  · by_cases h5 : s.a = sp
    · have e1 := int_eqn h5
      have e2 := int_eqb h5
      clear h3 h4 h5
      go_enter Try.func11, Try.ntmps11
      go_wp2_with fail
      rw [← hW]
      have hh := HH.out _ bel
      rw [HM.out] at hh
      refine hh.mono ?_
      rintro e w2 ⟨rfl, g2⟩
      have bel := chain bel g2
      clear g2 hh
      have q := HC.out _ bel
      have f3 := cells3 q.1
      have f5 := cells5 q.2.1
      have f6 := cells3 q.2.2
      have f7 := block_frozen q.2.2
      clear q
      go_wp2_with fail
      have q := HC.out _ bel
      have fin := say_same (n := n) (x := .slice a1 xs.length c1) (y := .slice ao T.length cap) (chain Be bel) q.2.2
      obtain ⟨u1, u2, u3⟩ := cells3 fin.1
      exact bodyPost_ret (v := .tuple #[.agg #[.int .i64 n, .slice a1 xs.length c1, .slice ao T.length cap], .int .i64 0]) (by simp [results, Try.results11, go_sem, u1, u2, u3]) rfl ⟨fin.2, rfl⟩
    · have e1 := int_nen h5
      have e2 := int_neb h5
      have B1 := fun w1 g => HB.out sp w1 g
      rw [show decide (sp ∈ xs) = true from by simpa using h3] at B1
      have B1 := Lib.hid B1
      have B2 := fun w1 g => HB.out s.a w1 g
      rw [show decide (s.a ∈ xs) = true from by simpa using h4] at B2
      have B2 := Lib.hid B2
      clear h3 h4 h5
      go_enter Try.func11, Try.ntmps11
      go_wp2_with fail
      rw [← hW]
      refine (B1.out _ bel).mono ?_
      rintro e w1 ⟨rfl, g1⟩
      have bel := chain bel g1
      clear g1
      have q := HC.out _ bel
      have f3 := cells3 q.1
      have f5 := cells5 q.2.1
      have f6 := cells3 q.2.2
      have f7 := block_frozen q.2.2
      clear q
      go_wp2_with fail
      refine (B2.out _ bel).mono ?_
      rintro e w1 ⟨rfl, g1⟩
      have bel := chain bel g1
      clear g1
      have q := HC.out _ bel
      have f3 := cells3 q.1
      have f5 := cells5 q.2.1
      have f6 := cells3 q.2.2
      have f7 := block_frozen q.2.2
      clear q
      go_wp2_with fail
      have hh := HH.out _ bel
      rw [HM.out] at hh
      refine hh.mono ?_
      rintro e w2 ⟨rfl, g2⟩
      have bel := chain bel g2
      clear g2 hh
      have q := HC.out _ bel
      have f3 := cells3 q.1
      have f5 := cells5 q.2.1
      have f6 := cells3 q.2.2
      have f7 := block_frozen q.2.2
      clear q
      go_wp2_with fail
      have q := HC.out _ bel
      have fin := say_same (n := n) (x := .slice a1 xs.length c1) (y := .slice ao T.length cap) (chain Be bel) q.2.2
      obtain ⟨u1, u2, u3⟩ := cells3 fin.1
      exact bodyPost_ret (v := .tuple #[.agg #[.int .i64 n, .slice a1 xs.length c1, .slice ao T.length cap], .int .i64 0]) (by simp [results, Try.results11, go_sem, u1, u2, u3]) rfl ⟨fin.2, rfl⟩
end Go.Proofs.Ytojjpnkdblaidaa
