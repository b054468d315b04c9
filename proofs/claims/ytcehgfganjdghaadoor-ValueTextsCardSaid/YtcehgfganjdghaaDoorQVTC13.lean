/- Values: what do makes of two numbers; sum, difference, product, quotient, what is left. Written by wip/tools/gen7h.py. -/
import Derived.Test.YtcehgfganjdghaaDoorQVTC12
namespace Go.Proofs.YtcehgfganjdghaaDoor.V7
open Go.RowKit
set_option linter.unusedVariables false
set_option linter.unusedSimpArgs false
theorem four_allocs (w : World) (a b c d : Obj) :
    ((((w.alloc a).alloc b).alloc c).alloc d).heap[w.heap.size]? = some a ∧ ((((w.alloc a).alloc b).alloc c).alloc d).heap[w.heap.size + 1]? = some b ∧ ((((w.alloc a).alloc b).alloc c).alloc d).heap[w.heap.size + 2]? = some c ∧ ((((w.alloc a).alloc b).alloc c).alloc d).heap[w.heap.size + 3]? = some d := by
  have z2 : ((w.alloc a).alloc b).heap.size = w.heap.size + 2 := by simp
  have z3 : (((w.alloc a).alloc b).alloc c).heap.size = w.heap.size + 3 := by simp
  obtain ⟨h1, h2, -, -⟩ := two_allocs w a b
  refine ⟨?_, ?_, ?_, ?_⟩
  · rw [heap_alloc_old _ _ (by omega), heap_alloc_old _ _ (by omega), h1]
  · rw [heap_alloc_old _ _ (by omega), heap_alloc_old _ _ (by omega), h2]
  · rw [heap_alloc_old _ _ (by omega), ← z2, heap_alloc_new]
  · rw [← z3, heap_alloc_new]
theorem three_allocs (w : World) (a b c : Obj) :
    (((w.alloc a).alloc b).alloc c).heap[w.heap.size]? = some a ∧ (((w.alloc a).alloc b).alloc c).heap[w.heap.size + 1]? = some b ∧ (((w.alloc a).alloc b).alloc c).heap[w.heap.size + 2]? = some c := by
  have z2 : ((w.alloc a).alloc b).heap.size = w.heap.size + 2 := by simp
  obtain ⟨h1, h2, -, -⟩ := two_allocs w a b
  refine ⟨?_, ?_, ?_⟩
  · rw [heap_alloc_old _ _ (by omega), h1]
  · rw [heap_alloc_old _ _ (by omega), h2]
  · rw [← z2, heap_alloc_new]
theorem frozen3 {w : World} {B : Nat} {cs : Array Value} {t : TypeId} (h : w.heap[B]? = some (.cells cs t (0, 0))) : ∀ i, w.frozen? ⟨B, i, none⟩ = false := fun i => block_frozen h i
theorem set3 {w : World} {B n : Nat} {v : World} {a0 a1 a2 : Value} (u0 u1 u2 : Value) {t : TypeId} (h : w.heap[B]? = some (.cells #[a0, a1, a2] t (0, 0))) (hb : Below n v w) (hn : n ≤ B) :
    (((w.setCell ⟨B, 0, none⟩ u0).setCell ⟨B, 1, none⟩ u1).setCell ⟨B, 2, none⟩ u2).cell? ⟨B, 0, none⟩ = some u0 ∧ (((w.setCell ⟨B, 0, none⟩ u0).setCell ⟨B, 1, none⟩ u1).setCell ⟨B, 2, none⟩ u2).cell? ⟨B, 1, none⟩ = some u1 ∧ (((w.setCell ⟨B, 0, none⟩ u0).setCell ⟨B, 1, none⟩ u1).setCell ⟨B, 2, none⟩ u2).cell? ⟨B, 2, none⟩ = some u2 ∧
      Below n v (((w.setCell ⟨B, 0, none⟩ u0).setCell ⟨B, 1, none⟩ u1).setCell ⟨B, 2, none⟩ u2) := by
  have h3 : (((w.setCell ⟨B, 0, none⟩ u0).setCell ⟨B, 1, none⟩ u1).setCell ⟨B, 2, none⟩ u2).heap[B]? = some (.cells #[u0, u1, u2] t (0, 0)) := by
    simpa using set_at (i := 2) (u := u2) (set_at (i := 1) (u := u1) (set_at (i := 0) (u := u0) h))
  obtain ⟨c0, c1, c2⟩ := cells3 h3
  exact ⟨c0, c1, c2, ((hb.setCell (p := ⟨B, 0, none⟩) hn u0).setCell (p := ⟨B, 1, none⟩) hn u1).setCell (p := ⟨B, 2, none⟩) hn u2⟩
/-- What compute comes to, E what is expected, z and er what do hands back. -/
def cmpK (E er : Int) : Int := if E ≠ 0 then 0 else if er ≠ 0 then 0 else 2
def cmpI (E er z : Int) : Int := if E ≠ 0 then 0 else if er ≠ 0 then 0 else z
def cmpE (E er : Int) : Int := if E ≠ 0 then E else er
set_option maxRecDepth 100000 in
set_option maxHeartbeats 1000000 in
theorem compute_any (F : Nat) (z er : Int) (k i : Int) (s : List UInt8) (k' i' : Int) (s' : List UInt8) (hs : s.length ≤ maxLen) (hs' : s'.length ≤ maxLen)
    (hF : ∀ w, Calls Tryd.prog F #[.int .i64 i, .int .i64 i'] w fun e w' => e = .returned (.tuple #[.int .i64 z, .int .i64 er]) ∧ Below w.heap.size w w') (eg : ∀ args w, (callFunc F args).run Tryd.prog w = .ok (.enter F args) w) (w : World) :
    Calls Tryd.prog 96 #[.agg #[.int .i64 k, .int .i64 i, .string (str s)], .agg #[.int .i64 k', .int .i64 i', .string (str s')], .func (.func F) #[] #[]] w fun e w' => e = .returned (.tuple #[.agg #[.int .i64 (cmpK (expE 2 ⟨k, i, s⟩ ⟨k', i', s'⟩) er), .int .i64 (cmpI (expE 2 ⟨k, i, s⟩ ⟨k', i', s'⟩) er z), .string (str [])], .int .i64 (cmpE (expE 2 ⟨k, i, s⟩ ⟨k', i', s'⟩) er)]) ∧ Below w.heap.size w w' := by
  have X := fun w B hB => expect2_any 2 k i s k' i' s' hs hs' w B 30 hB
  obtain ⟨E, hE⟩ : ∃ E, E = expE 2 ⟨k, i, s⟩ ⟨k', i', s'⟩ := ⟨_, rfl⟩
  rw [← hE] at X ⊢
  have HX := Lib.hid X
  have HFF := Lib.hid hF
  clear hE X hF hs hs'
  obtain ⟨q1, q2, q3, q4⟩ := four_allocs w (.cells #[.int .i64 k, .int .i64 i, .string (str s)] 30) (.cells #[.int .i64 k', .int .i64 i', .string (str s')] 30) (.cells #[.int .i64 0, .int .i64 0, .string (str [])] 30) (.cells #[.int .i64 k, .int .i64 i, .string (str s), .int .i64 k', .int .i64 i', .string (str s')] 30)
  have bel : Below w.heap.size w ((((w.alloc (.cells #[.int .i64 k, .int .i64 i, .string (str s)] 30)).alloc (.cells #[.int .i64 k', .int .i64 i', .string (str s')] 30)).alloc (.cells #[.int .i64 0, .int .i64 0, .string (str [])] 30)).alloc (.cells #[.int .i64 k, .int .i64 i, .string (str s), .int .i64 k', .int .i64 i', .string (str s')] 30)) := ((((Below.refl _ w).alloc (Nat.le_refl _) _).alloc (by simp) _).alloc (by simp; omega) _).alloc (by simp; omega) _
  by_cases h : E = 0
  · subst h
    by_cases he : er = 0
    · subst he
      go_enter Tryd.func96, Tryd.ntmps96
      go_wp2_with fail
      refine (HX.out _ _ q4).mono ?_
      rintro e w1 ⟨rfl, g⟩
      clear q4
      replace q1 := (g.block _ (lt_of_block q1)).trans q1
      replace q2 := (g.block _ (lt_of_block q2)).trans q2
      replace q3 := (g.block _ (lt_of_block q3)).trans q3
      replace bel := chain bel g
      clear g
      obtain ⟨q1c0, q1c1, q1c2⟩ := cells3 q1
      have q1l := lt_of_block q1
      obtain ⟨q2c0, q2c1, q2c2⟩ := cells3 q2
      have q2l := lt_of_block q2
      obtain ⟨q3c0, q3c1, q3c2⟩ := cells3 q3
      have q3l := lt_of_block q3
      go_wp2_with fail
      refine (HFF.out _).mono ?_
      rintro e w1 ⟨rfl, g⟩
      clear q1c0 q1c1 q1c2 q1l
      replace q1 := (g.block _ (lt_of_block q1)).trans q1
      clear q2c0 q2c1 q2c2 q2l
      replace q2 := (g.block _ (lt_of_block q2)).trans q2
      clear q3c0 q3c1 q3c2 q3l
      replace q3 := (g.block _ (lt_of_block q3)).trans q3
      replace bel := chain bel g
      clear g
      obtain ⟨q1c0, q1c1, q1c2⟩ := cells3 q1
      have q1l := lt_of_block q1
      obtain ⟨q2c0, q2c1, q2c2⟩ := cells3 q2
      have q2l := lt_of_block q2
      obtain ⟨q3c0, q3c1, q3c2⟩ := cells3 q3
      have q3l := lt_of_block q3
      go_wp2_with fail
      refine (int_any z _).mono ?_
      rintro e w2 ⟨rfl, g⟩
      clear q1c0 q1c1 q1c2 q1l
      replace q1 := (g.block _ (lt_of_block q1)).trans q1
      clear q2c0 q2c1 q2c2 q2l
      replace q2 := (g.block _ (lt_of_block q2)).trans q2
      clear q3c0 q3c1 q3c2 q3l
      replace q3 := (g.block _ (lt_of_block q3)).trans q3
      replace bel := chain bel g
      clear g
      obtain ⟨q1c0, q1c1, q1c2⟩ := cells3 q1
      have q1l := lt_of_block q1
      obtain ⟨q2c0, q2c1, q2c2⟩ := cells3 q2
      have q2l := lt_of_block q2
      obtain ⟨q3c0, q3c1, q3c2⟩ := cells3 q3
      have q3l := lt_of_block q3
      have fz := frozen3 q3
      go_wp2_with fail
      obtain ⟨r0, r1, r2, bel2⟩ := set3 (.int .i64 2) (.int .i64 z) (.string (str [])) q3 bel (by omega)
      refine bodyPost_ret (v := .tuple #[.agg #[.int .i64 2, .int .i64 z, .string (str [])], .int .i64 0]) (by simp [results, Tryd.results96, go_sem, r0, r1, r2, str_e]) rfl ⟨?_, bel2⟩
      simp [cmpK, cmpI, cmpE]
    · have he2 : (er != 0) = true := by simpa using he
      go_enter Tryd.func96, Tryd.ntmps96
      go_wp2_with fail
      refine (HX.out _ _ q4).mono ?_
      rintro e w1 ⟨rfl, g⟩
      clear q4
      replace q1 := (g.block _ (lt_of_block q1)).trans q1
      replace q2 := (g.block _ (lt_of_block q2)).trans q2
      replace q3 := (g.block _ (lt_of_block q3)).trans q3
      replace bel := chain bel g
      clear g
      obtain ⟨q1c0, q1c1, q1c2⟩ := cells3 q1
      have q1l := lt_of_block q1
      obtain ⟨q2c0, q2c1, q2c2⟩ := cells3 q2
      have q2l := lt_of_block q2
      obtain ⟨q3c0, q3c1, q3c2⟩ := cells3 q3
      have q3l := lt_of_block q3
      go_wp2_with fail
      refine (HFF.out _).mono ?_
      rintro e w1 ⟨rfl, g⟩
      clear q1c0 q1c1 q1c2 q1l
      replace q1 := (g.block _ (lt_of_block q1)).trans q1
      clear q2c0 q2c1 q2c2 q2l
      replace q2 := (g.block _ (lt_of_block q2)).trans q2
      clear q3c0 q3c1 q3c2 q3l
      replace q3 := (g.block _ (lt_of_block q3)).trans q3
      replace bel := chain bel g
      clear g
      obtain ⟨q1c0, q1c1, q1c2⟩ := cells3 q1
      have q1l := lt_of_block q1
      obtain ⟨q2c0, q2c1, q2c2⟩ := cells3 q2
      have q2l := lt_of_block q2
      obtain ⟨q3c0, q3c1, q3c2⟩ := cells3 q3
      have q3l := lt_of_block q3
      have fz := frozen3 q3
      go_wp2_with fail
      obtain ⟨r0, r1, r2, bel2⟩ := set3 (.int .i64 0) (.int .i64 0) (.string (str [])) q3 bel (by omega)
      refine bodyPost_ret (v := .tuple #[.agg #[.int .i64 0, .int .i64 0, .string (str [])], .int .i64 er]) (by simp [results, Tryd.results96, go_sem, r0, r1, r2, str_e]) rfl ⟨?_, bel2⟩
      simp [cmpK, cmpI, cmpE, he]
  · have hE : (E != 0) = true := by simpa using h
    go_enter Tryd.func96, Tryd.ntmps96
    go_wp2_with fail
    refine (HX.out _ _ q4).mono ?_
    rintro e w1 ⟨rfl, g⟩
    clear q4
    replace q1 := (g.block _ (lt_of_block q1)).trans q1
    replace q2 := (g.block _ (lt_of_block q2)).trans q2
    replace q3 := (g.block _ (lt_of_block q3)).trans q3
    replace bel := chain bel g
    clear g
    obtain ⟨q1c0, q1c1, q1c2⟩ := cells3 q1
    have q1l := lt_of_block q1
    obtain ⟨q2c0, q2c1, q2c2⟩ := cells3 q2
    have q2l := lt_of_block q2
    obtain ⟨q3c0, q3c1, q3c2⟩ := cells3 q3
    have q3l := lt_of_block q3
    have fz := frozen3 q3
    go_wp2_with fail
    obtain ⟨r0, r1, r2, bel2⟩ := set3 (.int .i64 0) (.int .i64 0) (.string (str [])) q3 bel (by omega)
    refine bodyPost_ret (v := .tuple #[.agg #[.int .i64 0, .int .i64 0, .string (str [])], .int .i64 E]) (by simp [results, Tryd.results96, go_sem, r0, r1, r2, str_e]) rfl ⟨?_, bel2⟩
    simp [cmpK, cmpI, cmpE, h]
end Go.Proofs.YtcehgfganjdghaaDoor.V7
