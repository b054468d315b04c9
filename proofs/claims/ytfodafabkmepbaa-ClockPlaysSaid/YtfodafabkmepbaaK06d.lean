/- The clock's functions New, Left, Tick. -/
import Derived.Test.YtfodafabkmepbaaK06c
import Derived.Deep.RegionWith
namespace Go.Proofs.Ytfodafabkmepbaa
open Go.RowKit
set_option linter.unusedVariables false
set_option linter.unusedSimpArgs false
def leftC (c : Ck) : Int := if mayC c && c.on then c.due - c.now else 0
set_option maxRecDepth 100000 in
set_option maxHeartbeats 1000000 in
theorem left_any (c : Ck) (w : World) : Calls Try.prog 12 #[ckV c] w fun e w' => e = .returned (.int .i64 (leftC c)) ∧ Below w.heap.size w w' := by
  by_cases hm : MayP c
  · have e1 := mayC_true hm
    have hl : leftC c = if c.on then c.due - c.now else 0 := by unfold leftC; rw [e1]; rfl
    obtain ⟨n, wt, b, cp, o, d⟩ := c
    unfold MayP at hm
    simp only [] at hm hl
    obtain ⟨m1, m2, m3, m4, m5, m6, m7, m8⟩ := hm
    have H := Lib.hid e1
    have HL := Lib.hid hl
    clear e1 hl
    cases o
    · clear m7 m8
      unfold ckV
      go_enter Try.func12, Try.ntmps12
      go_wp2_with (go_at_call 11; refine (may_any ⟨n, wt, b, cp, false, d⟩ _).mono ?_; rintro e w' ⟨rfl, rfl⟩; rw [H.out])
      go_ret
      rw [HL.out]
      exact ⟨rfl, by go_grown⟩
    · obtain ⟨q1, q2⟩ := m7 rfl
      clear m8 m7
      unfold ckV
      go_enter Try.func12, Try.ntmps12
      go_wp2_with (go_at_call 11; refine (may_any ⟨n, wt, b, cp, true, d⟩ _).mono ?_; rintro e w' ⟨rfl, rfl⟩; rw [H.out])
      try go_region
      all_goals
        go_wp2
        go_ret
        rw [HL.out]
        exact ⟨rfl, by go_grown⟩
  · have e1 := mayC_false hm
    have hl : leftC c = 0 := by unfold leftC; rw [e1]; rfl
    obtain ⟨n, wt, b, cp, o, d⟩ := c
    have H := Lib.hid e1
    have HL := Lib.hid hl
    clear e1 hl hm
    unfold ckV
    go_enter Try.func12, Try.ntmps12
    go_wp2_with (go_at_call 11; refine (may_any ⟨n, wt, b, cp, o, d⟩ _).mono ?_; rintro e w' ⟨rfl, rfl⟩; rw [H.out])
    go_ret
    rw [HL.out]
    exact ⟨rfl, by go_grown⟩
def newC (b m : Int) : Ck := ⟨0, b, b, m, false, 0⟩
set_option maxRecDepth 100000 in
set_option maxHeartbeats 1000000 in
theorem new_core (b m : Int) (c' : Ck) (ER : Int) (w : World) (hw : ∀ w1, Calls Try.prog 23 #[ckV (newC b m), .func (.func 24) #[] #[]] w1 fun e w' => e = .returned (.tuple #[ckV c', .int .i64 ER]) ∧ Below w1.heap.size w1 w') :
    Calls Try.prog 8 #[.int .i64 b, .int .i64 m] w fun e w' => e = .returned (.tuple #[ckV c', .int .i64 ER]) ∧ Below w.heap.size w w' := by
  obtain ⟨n', wt', b', cp', o', d'⟩ := c'
  unfold newC ckV at hw
  unfold ckV
  have H := Lib.hid hw
  clear hw
  go_enter Try.func8, Try.ntmps8
  go_wp2_with fail
  have t2 := heap_alloc_new w (.cells #[.int .i64 0, .int .i64 0, .int .i64 0, .int .i64 0, .bool false, .int .i64 0] 23)
  have t4 : ∀ k, k < w.heap.size → (w.alloc (.cells #[.int .i64 0, .int .i64 0, .int .i64 0, .int .i64 0, .bool false, .int .i64 0] 23)).heap[k]? = w.heap[k]? := fun k hk => heap_alloc_old _ _ hk
  have t3 : (w.alloc (.cells #[.int .i64 0, .int .i64 0, .int .i64 0, .int .i64 0, .bool false, .int .i64 0] 23)).heap.size = w.heap.size + 1 := by simp
  refine (H.out _).mono ?_
  rintro e w2 ⟨rfl, g⟩
  have r1 := (g.block w.heap.size (by omega)).trans t2
  obtain ⟨b0, b1, b2, b3, b4, b5, bf⟩ := block_cells r1
  have bf0 := bf 0
  have bf1 := bf 1
  have bf2 := bf 2
  have bf3 := bf 3
  have bf4 := bf 4
  have bf5 := bf 5
  have sz := g.size
  have kept : Below w.heap.size w w2 := ⟨g.os, g.tape, g.output, by omega, fun k hk => (g.block k (by omega)).trans (t4 k hk)⟩
  have KP := Lib.hid kept
  clear bf r1 g kept t2 t3 t4 sz
  go_wp2
  refine bodyPost_ret (v := .tuple #[.agg #[.int .i64 n', .int .i64 wt', .int .i64 b', .int .i64 cp', .bool o', .int .i64 d'], .int .i64 ER]) (by simp [results, Try.results8, go_sem, b0, b1, b2, b3, b4, b5]) rfl ⟨rfl, below_set6 KP.out (by omega)⟩
theorem new_yes (b m : Int) (hm : MayP (newC b m)) (w : World) : Calls Try.prog 8 #[.int .i64 b, .int .i64 m] w fun e w' => e = .returned (.tuple #[ckV (newC b m), .int .i64 0]) ∧ Below w.heap.size w w' := by
  refine new_core b m _ 0 w (fun w1 => ?_)
  refine (with_new _ (newC b m) w1.heap.size (fun _ => True) w1 hm (Nat.le_refl _) (fun _ _ _ _ => trivial) (fun w2 h hz ho => (new1_any _ w2).mono (fun e w3 ⟨a, g⟩ => ⟨a, by subst g; exact h, by subst g; exact kept2_refl, trivial⟩))).mono ?_
  rintro e w' ⟨h1, h2, _⟩
  exact ⟨h1, h2.os, h2.tape, h2.output, h2.size, fun k hk => h2.block k hk (by omega)⟩
theorem new_no (b m : Int) (hm : ¬ MayP (newC b m)) (w : World) : Calls Try.prog 8 #[.int .i64 b, .int .i64 m] w fun e w' => e = .returned (.tuple #[ckV zeroC, .int .i64 1]) ∧ Below w.heap.size w w' :=
  new_core b m _ 1 w (fun w1 => with_no _ _ w1 hm)
/-- What Tick answers. -/
def tickV (c : Ck) : Ck × Bool × Int := if mayC c then (if c.now = 1099511627776 then (zeroC, false, 8) else (tickC c, ringsC c, 0)) else (zeroC, false, 1)
set_option maxRecDepth 100000 in
set_option maxHeartbeats 1000000 in
theorem tick_last (c : Ck) (hm : MayP c) (h : c.now = 1099511627776) (w : World) : Calls Try.prog 16 #[ckV c] w fun e w' => e = .returned (.tuple #[ckV zeroC, .bool false, .int .i64 8]) ∧ Below w.heap.size w w' := by
  have e1 := mayC_true hm
  obtain ⟨n, wt, b, cp, o, d⟩ := c
  simp only [] at h
  subst h
  have H := Lib.hid e1
  clear e1 hm
  unfold ckV
  go_enter Try.func16, Try.ntmps16
  go_wp2_with (go_at_call 11; refine (may_any ⟨1099511627776, wt, b, cp, o, d⟩ _).mono ?_; rintro e w' ⟨rfl, rfl⟩; rw [H.out])
  refine bodyPost_ret (v := .tuple #[.agg #[.int .i64 0, .int .i64 0, .int .i64 0, .int .i64 0, .bool false, .int .i64 0], .bool false, .int .i64 8]) (by simp [results, Try.results16, go_sem]) rfl ⟨rfl, ?_⟩
  go_grown
theorem set6_new {w : World} {B : Nat} {a0 a1 a2 a3 a4 a5 u0 u1 u2 u3 u4 u5 : Value} {t : TypeId} (h : w.heap[B]? = some (.cells #[a0, a1, a2, a3, a4, a5] t (0, 0))) :
    ((((((w.setCell ⟨B, 0, none⟩ u0).setCell ⟨B, 1, none⟩ u1).setCell ⟨B, 2, none⟩ u2).setCell ⟨B, 3, none⟩ u3).setCell ⟨B, 4, none⟩ u4).setCell ⟨B, 5, none⟩ u5).heap[B]? = some (.cells #[u0, u1, u2, u3, u4, u5] t (0, 0)) := by
  have s0 := (holds_set h 0 u0).1
  have s1 := (holds_set s0 1 u1).1
  have s2 := (holds_set s1 2 u2).1
  have s3 := (holds_set s2 3 u3).1
  have s4 := (holds_set s3 4 u4).1
  have s5 := (holds_set s4 5 u5).1
  simpa using s5
theorem four_allocs (w : World) (a b c d : Obj) :
    ((((w.alloc a).alloc b).alloc c).alloc d).heap[w.heap.size]? = some a ∧ ((((w.alloc a).alloc b).alloc c).alloc d).heap[w.heap.size + 1]? = some b ∧ ((((w.alloc a).alloc b).alloc c).alloc d).heap[w.heap.size + 3]? = some d ∧ ((((w.alloc a).alloc b).alloc c).alloc d).heap.size = w.heap.size + 4 ∧ ∀ k, k < w.heap.size → ((((w.alloc a).alloc b).alloc c).alloc d).heap[k]? = w.heap[k]? := by
  obtain ⟨t1, t2, t3, t4⟩ := three_allocs w a b c
  refine ⟨?_, ?_, ?_, by simp, ?_⟩
  · rw [heap_alloc_old _ _ (by omega)]; exact t1
  · rw [heap_alloc_old _ _ (by omega)]; exact t2
  · rw [← t3, heap_alloc_new]
  · intro k hk
    rw [heap_alloc_old _ _ (by omega)]; exact t4 k hk
set_option maxRecDepth 100000 in
set_option maxHeartbeats 2000000 in
theorem tick_core (c c' : Ck) (x : Bool) (ER : Int) (hn : mayC c = true → c.now < 1099511627776) (w : World)
    (hw : ∀ (w1 : World) (R : Nat), w1.heap[R]? = some (.cells #[.bool false] 4 (0, 0)) → Calls Try.prog 23 #[ckV c, .func (.func 27) #[] #[.pointer (some ⟨R, 0, none⟩)]] w1 fun e w' => e = .returned (.tuple #[ckV c', .int .i64 ER]) ∧ Kept1 w1 w' R ∧ w'.heap[R]? = some (.cells #[.bool x] 4 (0, 0))) :
    Calls Try.prog 16 #[ckV c] w fun e w' => e = .returned (.tuple #[ckV c', .bool x, .int .i64 ER]) ∧ Below w.heap.size w w' := by
  obtain ⟨n, wt, b, cp, o, d⟩ := c
  obtain ⟨n', wt', b', cp', o', d'⟩ := c'
  unfold ckV at hw ⊢
  have H := Lib.hid hw
  clear hw
  have hcase : (mayC ⟨n, wt, b, cp, o, d⟩ = true ∧ n < 1099511627776) ∨ mayC ⟨n, wt, b, cp, o, d⟩ = false := by
    cases hq : mayC ⟨n, wt, b, cp, o, d⟩
    · exact .inr rfl
    · exact .inl ⟨rfl, hn hq⟩
  clear hn
  rcases hcase with ⟨e1, hl⟩ | e1
  all_goals
    have E := Lib.hid e1
    clear e1
    go_enter Try.func16, Try.ntmps16
    go_wp2_with (go_at_call 11; refine (may_any ⟨n, wt, b, cp, o, d⟩ _).mono ?_; rintro e w' ⟨rfl, rfl⟩; rw [E.out])
    obtain ⟨t1, t2, tr, t3, t4⟩ := four_allocs w (.cells #[.int .i64 n, .int .i64 wt, .int .i64 b, .int .i64 cp, .bool o, .int .i64 d] 23) (.cells #[.int .i64 0, .int .i64 0, .int .i64 0, .int .i64 0, .bool false, .int .i64 0] 23) (.cells #[.int .i64 n, .int .i64 wt, .int .i64 b, .int .i64 cp, .bool o, .int .i64 d] 23) (.cells #[.bool false] 4)
    refine (H.out _ _ tr).mono ?_
    rintro e w2 ⟨rfl, g, gr⟩
    have r1 := (g.block (w.heap.size + 1) (by omega) (by omega)).trans t2
    have r0 := (g.block w.heap.size (by omega) (by omega)).trans t1
    obtain ⟨b0, b1, b2, b3, b4, b5, bf⟩ := block_cells r1
    obtain ⟨a0, a1, a2, a3, a4, a5, af⟩ := block_cells r0
    have q0 : w2.cell? ⟨w.heap.size + 1 + 1 + 1, 0, none⟩ = some (.bool x) := by have gr' : w2.heap[w.heap.size + 1 + 1 + 1]? = _ := gr; simp [World.cell?, gr']
    have R0 := Lib.hid r0
    have bf0 := bf 0
    have bf1 := bf 1
    have bf2 := bf 2
    have bf3 := bf 3
    have bf4 := bf 4
    have bf5 := bf 5
    have af0 := af 0
    have af1 := af 1
    have af2 := af 2
    have af3 := af 3
    have af4 := af 4
    have af5 := af 5
    have sz := g.size
    have kept : Below w.heap.size w w2 := ⟨g.os, g.tape, g.output, by omega, fun k hk => (g.block k (by omega) (by omega)).trans (t4 k hk)⟩
    have KP := Lib.hid kept
    have lt0 : w.heap.size + 4 ≤ w2.heap.size := by omega
    clear bf af r1 r0 g gr kept t1 t2 t3 t4 tr sz
    go_wp2
    obtain ⟨W3, hW3⟩ : ∃ W3, W3 = (((((w2.setCell ⟨w.heap.size, 0, none⟩ (.int .i64 n')).setCell ⟨w.heap.size, 1, none⟩ (.int .i64 wt')).setCell ⟨w.heap.size, 2, none⟩ (.int .i64 b')).setCell ⟨w.heap.size, 3, none⟩ (.int .i64 cp')).setCell ⟨w.heap.size, 4, none⟩ (.bool o')).setCell ⟨w.heap.size, 5, none⟩ (.int .i64 d') := ⟨_, rfl⟩
    rw [← hW3]
    have r3 : W3.heap[w.heap.size]? = some (.cells #[.int .i64 n', .int .i64 wt', .int .i64 b', .int .i64 cp', .bool o', .int .i64 d'] 23 (0, 0)) := by rw [hW3]; exact set6_new R0.out
    obtain ⟨x0, x1, x2, x3, x4, x5, _⟩ := block_cells r3
    have same : ∀ k, k ≠ w.heap.size → W3.heap[k]? = w2.heap[k]? := fun k hk => by rw [hW3]; exact set6_old hk
    have K3 : Below w.heap.size w W3 := by rw [hW3]; exact below_set6 KP.out (Nat.le_refl _)
    have e1 : W3.heap[w.heap.size + 1]? = w2.heap[w.heap.size + 1]? := same _ (by omega)
    have e3 : W3.heap[w.heap.size + 1 + 1 + 1]? = w2.heap[w.heap.size + 1 + 1 + 1]? := same _ (by omega)
    have y0 : W3.cell? ⟨w.heap.size + 1, 0, none⟩ = _ := (World.cell?_of_block (w := w2) e1).trans b0
    have y1 : W3.cell? ⟨w.heap.size + 1, 1, none⟩ = _ := (World.cell?_of_block (w := w2) e1).trans b1
    have y2 : W3.cell? ⟨w.heap.size + 1, 2, none⟩ = _ := (World.cell?_of_block (w := w2) e1).trans b2
    have y3 : W3.cell? ⟨w.heap.size + 1, 3, none⟩ = _ := (World.cell?_of_block (w := w2) e1).trans b3
    have y4 : W3.cell? ⟨w.heap.size + 1, 4, none⟩ = _ := (World.cell?_of_block (w := w2) e1).trans b4
    have y5 : W3.cell? ⟨w.heap.size + 1, 5, none⟩ = _ := (World.cell?_of_block (w := w2) e1).trans b5
    have z0 : W3.frozen? ⟨w.heap.size + 1, 0, none⟩ = false := (World.frozen?_of_block (w := w2) e1).trans bf0
    have z1 : W3.frozen? ⟨w.heap.size + 1, 1, none⟩ = false := (World.frozen?_of_block (w := w2) e1).trans bf1
    have z2 : W3.frozen? ⟨w.heap.size + 1, 2, none⟩ = false := (World.frozen?_of_block (w := w2) e1).trans bf2
    have z3 : W3.frozen? ⟨w.heap.size + 1, 3, none⟩ = false := (World.frozen?_of_block (w := w2) e1).trans bf3
    have z4 : W3.frozen? ⟨w.heap.size + 1, 4, none⟩ = false := (World.frozen?_of_block (w := w2) e1).trans bf4
    have z5 : W3.frozen? ⟨w.heap.size + 1, 5, none⟩ = false := (World.frozen?_of_block (w := w2) e1).trans bf5
    have q3 : W3.cell? ⟨w.heap.size + 1 + 1 + 1, 0, none⟩ = some (.bool x) := (World.cell?_of_block (w := w2) e3).trans q0
    have K3H := Lib.hid K3
    clear same e1 e3 b0 b1 b2 b3 b4 b5 a0 a1 a2 a3 a4 a5 bf0 bf1 bf2 bf3 bf4 bf5 af0 af1 af2 af3 af4 af5 q0 KP K3 hW3 H lt0 R0 r3
    go_region
    all_goals
      go_wp2
      refine bodyPost_ret (v := .tuple #[.agg #[.int .i64 n', .int .i64 wt', .int .i64 b', .int .i64 cp', .bool o', .int .i64 d'], .bool x, .int .i64 ER]) (by simp [results, Try.results16, go_sem, y0, y1, y2, y3, y4, y5]) rfl ⟨rfl, ?_⟩
      with_reducible refine Below.drew ?_
      exact below_set6 K3H.out (by omega)
theorem kept1_of_below {w w' : World} {R : Nat} (h : Below w.heap.size w w') : Kept1 w w' R := ⟨h.size, h.os, h.tape, h.output, fun k hk _ => h.block k hk⟩
theorem tick_no (c : Ck) (hm : ¬ MayP c) (w : World) : Calls Try.prog 16 #[ckV c] w fun e w' => e = .returned (.tuple #[ckV zeroC, .bool false, .int .i64 1]) ∧ Below w.heap.size w w' :=
  tick_core c _ false 1 (fun h => by rw [mayC_false hm] at h; cases h) w fun w1 R hR => (with_no c _ w1 hm).mono fun e w' ⟨h1, h2⟩ => ⟨h1, kept1_of_below h2, (h2.block R (lt_of_block hR)).trans hR⟩
theorem tick_yes (c : Ck) (hm : MayP c) (hl : c.now < 1099511627776) (w : World) : Calls Try.prog 16 #[ckV c] w fun e w' => e = .returned (.tuple #[ckV (tickC c), .bool (ringsC c), .int .i64 0]) ∧ Below w.heap.size w w' := by
  refine tick_core c _ _ 0 (fun _ => hl) w fun w1 R hR => ?_
  have hlt := lt_of_block hR
  have m5 : 0 ≤ c.now := by have := hm; unfold MayP at this; exact this.2.2.2.2.1
  exact with_tick c (tickC c) ⟨R, 0, none⟩ R (fun w2 => w2.heap[R]? = some (.cells #[.bool (ringsC c)] 4 (0, 0))) w1 hm (by omega) (fun w2 w3 h h2 => (h R hlt).trans h2)
    (fun w2 h hz ho => (tick1_any c w1.heap.size R (by omega) w2 h ((ho R hlt).trans hR) m5 hl).mono fun e w3 ⟨a, b, r, s1, s2, s3, s4, s5⟩ => ⟨a, b, ⟨s1, s2, s3, s4, s5⟩, r⟩)
end Go.Proofs.Ytfodafabkmepbaa
