/- Values: quotients of two numbers; what is expected of two values. Written by wip/tools/gen7g.py. -/
import Derived.Test.YtcehgfganjdghaaDoorQVTC11
namespace Go.Proofs.YtcehgfganjdghaaDoor.V7
open Go.RowKit
set_option linter.unusedVariables false
set_option linter.unusedSimpArgs false
def divE (x y : Int) : Int := if y = 0 then 9 else if y = -1 ∧ x = -9223372036854775808 then 8 else 0
def divN (x y : Int) : Int := if y = 0 then 0 else wrap64 (x.tdiv y)
def modE (y : Int) : Int := if y = 0 then 9 else 0
def modN (x y : Int) : Int := if y = 0 then 0 else x.tmod y
theorem over_same (b : Bool) (w : World) : Calls Tryd.prog 98 #[.bool b] w fun e w' => e = .returned (.int .i64 (if b then 8 else 0)) ∧ w' = w :=
  (over_any b w).mono fun e w' h => ⟨h.1, h.2.symm⟩
set_option maxRecDepth 100000 in
theorem divF_any (x y : Int) (w : World) :
    Calls Tryd.prog 99 #[.int .i64 x, .int .i64 y] w fun e w' => e = .returned (.tuple #[.int .i64 (divN x y), .int .i64 (divE x y)]) ∧ Below w.heap.size w w' := by
  by_cases h1 : y = 0
  · subst h1
    rw [show divN x 0 = 0 from rfl, show divE x 0 = 9 from rfl]
    go_enter Tryd.func99, Tryd.ntmps99
    go_wp2_with fail
    go_ret2
    exact ⟨rfl, Below.refl _ _⟩
  have hy0 : (y == 0) = false := by simpa using h1
  have e1 : divN x y = wrap64 (x.tdiv y) := by unfold divN; rw [if_neg h1]
  cases hz : (y == -1)
  · have hz2 : ¬ y = -1 := by simpa using hz
    have e2 : divE x y = 0 := by unfold divE; rw [if_neg h1, if_neg (fun h => hz2 h.1)]
    rw [e1, e2]
    clear e1 e2
    go_enter Tryd.func99, Tryd.ntmps99
    go_wp2_with fail
    go_quiet ((go_at_call 98; exact Calls.quiet_of_same (over_same _ _)))
    go_wp2_with fail
    go_ret2
    exact ⟨rfl, below_drewN (Below.refl _ _)⟩
  · have hz2 : y = -1 := by simpa using hz
    cases hm : (x == -9223372036854775808)
    · have hm2 : ¬ x = -9223372036854775808 := by simpa using hm
      have e2 : divE x y = 0 := by unfold divE; rw [if_neg h1, if_neg (fun h => hm2 h.2)]
      rw [e1, e2]
      clear e1 e2 hz2 hm2
      go_enter Tryd.func99, Tryd.ntmps99
      go_wp2_with fail
      go_quiet ((go_at_call 98; exact Calls.quiet_of_same (over_same _ _)))
      go_wp2_with fail
      go_ret2
      exact ⟨rfl, below_drewN (Below.refl _ _)⟩
    · have hm2 : x = -9223372036854775808 := by simpa using hm
      have e2 : divE x y = 8 := by unfold divE; rw [if_neg h1, if_pos ⟨hz2, hm2⟩]
      rw [e1, e2]
      clear e1 e2 hz2 hm2
      go_enter Tryd.func99, Tryd.ntmps99
      go_wp2_with fail
      go_quiet ((go_at_call 98; exact Calls.quiet_of_same (over_same _ _)))
      go_wp2_with fail
      go_ret2
      exact ⟨rfl, below_drewN (Below.refl _ _)⟩
set_option maxRecDepth 100000 in
theorem modF_any (x y : Int) (w : World) :
    Calls Tryd.prog 100 #[.int .i64 x, .int .i64 y] w fun e w' => e = .returned (.tuple #[.int .i64 (modN x y), .int .i64 (modE y)]) ∧ Below w.heap.size w w' := by
  by_cases h1 : y = 0
  · subst h1
    rw [show modN x 0 = 0 from rfl, show modE 0 = 9 from rfl]
    go_enter Tryd.func100, Tryd.ntmps100
    go_wp2_with fail
    go_ret2
    exact ⟨rfl, Below.refl _ _⟩
  · have hy0 : (y == 0) = false := by simpa using h1
    have e1 : modN x y = x.tmod y := by unfold modN; rw [if_neg h1]
    have e2 : modE y = 0 := by unfold modE; rw [if_neg h1]
    rw [e1, e2]
    clear e1 e2
    go_enter Tryd.func100, Tryd.ntmps100
    go_wp2_with fail
    go_ret2
    exact ⟨rfl, Below.refl _ _⟩
theorem cells6 {w : World} {B : Nat} {a0 a1 a2 a3 a4 a5 : Value} {t : TypeId} (h : w.heap[B]? = some (.cells #[a0, a1, a2, a3, a4, a5] t (0, 0))) :
    w.cell? ⟨B, 0, none⟩ = some a0 ∧ w.cell? ⟨B, 1, none⟩ = some a1 ∧ w.cell? ⟨B, 2, none⟩ = some a2 ∧ w.cell? ⟨B, 3, none⟩ = some a3 ∧ w.cell? ⟨B, 4, none⟩ = some a4 ∧ w.cell? ⟨B, 5, none⟩ = some a5 := by
  refine ⟨?_, ?_, ?_, ?_, ?_, ?_⟩
  all_goals simp [World.cell?, h]
def expE (K : Int) (a b : V) : Int := if mayB a = false then 1 else if mayB b = false then 1 else if a.k ≠ K ∨ b.k ≠ K then 10 else 0
set_option maxRecDepth 100000 in
set_option maxHeartbeats 1000000 in
theorem expect2_any (K : Int) (k i : Int) (s : List UInt8) (k' i' : Int) (s' : List UInt8) (hs : s.length ≤ maxLen) (hs' : s'.length ≤ maxLen) (w : World) (B : Nat) (t : TypeId)
    (hB : w.heap[B]? = some (.cells #[.int .i64 k, .int .i64 i, .string (str s), .int .i64 k', .int .i64 i', .string (str s')] t (0, 0))) :
    Calls Tryd.prog 68 #[.int .i64 K, .slice (some ⟨B, 0, none⟩) 2 2] w fun e w' => e = .returned (.int .i64 (expE K ⟨k, i, s⟩ ⟨k', i', s'⟩)) ∧ Below w.heap.size w w' := by
  have M1 := fun w => may_any k i s w hs
  have M2 := fun w => may_any k' i' s' w hs'
  unfold expE
  generalize mayB ⟨k, i, s⟩ = m1 at M1 ⊢
  generalize mayB ⟨k', i', s'⟩ = m2 at M2 ⊢
  simp only
  obtain ⟨R, hR⟩ : ∃ R : Int, R = if m1 = false then 1 else if m2 = false then 1 else if k ≠ K ∨ k' ≠ K then 10 else 0 := ⟨_, rfl⟩
  rw [← hR]
  have HR := Lib.hid hR
  clear hR
  obtain ⟨e1, he1⟩ : ∃ e1 : Int, e1 = if k ≠ K then 10 else 0 := ⟨_, rfl⟩
  have lB := lt_of_block hB
  have HE := Lib.hid he1
  clear hs hs' he1
  go_enter Tryd.func68, Tryd.ntmps68
  go_wp2_with fail
  go_loopw [5, 10] (fun x j wr => Below w.heap.size w wr ∧ ((x = .int .i64 0 ∧ j = .int .i64 0) ∨ (x = .int .i64 e1 ∧ j = .int .i64 1 ∧ m1 = true) ∨ (x = .int .i64 (if k ≠ K ∨ k' ≠ K then 10 else 0) ∧ j = .int .i64 2 ∧ m1 = true ∧ m2 = true)))
    (fun _ j _ => 2 - (intOf j).toNat)
  case atStart => exact ⟨Below.refl _ _, .inl ⟨rfl, rfl⟩⟩
  case round =>
    obtain ⟨bel, hj⟩ := hrel
    have q := (bel.block B lB).trans hB
    obtain ⟨c0, c1, c2, c3, c4, c5⟩ := cells6 q
    have ql := lt_of_block q
    rcases hj with ⟨rfl, rfl⟩ | ⟨rfl, rfl, rfl⟩ | ⟨rfl, rfl, rfl, rfl⟩
    · cases m1 with
      | false =>
        go_wp2_with fail
        refine (M1 _).mono ?_
        rintro e w1 ⟨rfl, g⟩
        go_wp2_with fail
        go_ret
        exact ⟨by rw [HR.out]; simp, (bel.alloc bel.size _).trans (g.mono (by simp; have := bel.size; omega))⟩
      | true =>
        have z1 := heap_alloc_new wr (.cells #[.int .i64 k, .int .i64 i, .string (str s)] 30)
        go_wp2_with fail
        refine (M1 _).mono ?_
        rintro e w1 ⟨rfl, g⟩
        have z2 := (g.block _ (by simp)).trans z1
        obtain ⟨d0, d1, d2⟩ := cells3 z2
        have bel2 := (bel.alloc bel.size (.cells #[.int .i64 k, .int .i64 i, .string (str s)] 30)).trans (g.mono (by simp; have := bel.size; omega))
        clear g z1 z2 c0 c1 c2 c3 c4 c5
        by_cases hk : k = K
        · have e0 : e1 = 0 := by rw [HE.out, if_neg (by simpa using hk)]
          have E0 := Lib.hid e0
          have hk2 : (k != K) = false := by simpa using hk
          clear e0
          go_wp2_with fail
          exact ⟨⟨bel2, .inr (.inl ⟨by rw [E0.out], by simp, by simp⟩)⟩, by simp [intOf]⟩
        · have e0 : e1 = 10 := by rw [HE.out, if_pos hk]
          have E0 := Lib.hid e0
          have hk2 : (k != K) = true := by simpa using hk
          clear e0
          go_wp2_with fail
          exact ⟨⟨bel2, .inr (.inl ⟨by rw [E0.out], by simp, by simp⟩)⟩, by simp [intOf]⟩
    · cases m2 with
      | false =>
        go_wp2_with fail
        refine (M2 _).mono ?_
        rintro e w1 ⟨rfl, g⟩
        go_wp2_with fail
        go_ret
        exact ⟨by rw [HR.out]; simp, (bel.alloc bel.size _).trans (g.mono (by simp; have := bel.size; omega))⟩
      | true =>
        have z1 := heap_alloc_new wr (.cells #[.int .i64 k', .int .i64 i', .string (str s')] 30)
        go_wp2_with fail
        refine (M2 _).mono ?_
        rintro e w1 ⟨rfl, g⟩
        have z2 := (g.block _ (by simp)).trans z1
        obtain ⟨d0, d1, d2⟩ := cells3 z2
        have bel2 := (bel.alloc bel.size (.cells #[.int .i64 k', .int .i64 i', .string (str s')] 30)).trans (g.mono (by simp; have := bel.size; omega))
        clear g z1 z2 c0 c1 c2 c3 c4 c5
        by_cases hk : k' = K
        · have e0 : (if k ≠ K ∨ k' ≠ K then (10 : Int) else 0) = e1 := by rw [HE.out]; simp [hk]
          have E0 := Lib.hid e0
          have hk2 : (k' != K) = false := by simpa using hk
          clear e0
          go_wp2_with fail
          exact ⟨⟨bel2, .inr (.inr ⟨by rw [E0.out], by simp, by simp, by simp⟩)⟩, by simp [intOf]⟩
        · have e0 : (if k ≠ K ∨ k' ≠ K then (10 : Int) else 0) = 10 := by simp [hk]
          have E0 := Lib.hid e0
          have hk2 : (k' != K) = true := by simpa using hk
          clear e0
          go_wp2_with fail
          exact ⟨⟨bel2, .inr (.inr ⟨by rw [E0.out], by simp, by simp, by simp⟩)⟩, by simp [intOf]⟩
    · obtain ⟨r, er⟩ : ∃ r : Int, r = if k ≠ K ∨ k' ≠ K then 10 else 0 := ⟨_, rfl⟩
      rw [← er]
      have ER := Lib.hid er
      clear er
      go_wp2_with fail
      go_ret
      exact ⟨by rw [HR.out, if_neg (by simp), if_neg (by simp), ← ER.out]; rfl, bel⟩
end Go.Proofs.YtcehgfganjdghaaDoor.V7
