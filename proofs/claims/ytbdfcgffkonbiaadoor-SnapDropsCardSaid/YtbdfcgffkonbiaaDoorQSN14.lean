/- Leaves: Get, Put, Delete. Written by wip/tools/gen9f.py. -/
import Derived.Test.YtbdfcgffkonbiaaDoorQSN13
import Derived.Test.YtbdfcgffkonbiaaDoorQSN6
namespace Go.Proofs.YtbdfcgffkonbiaaDoor
open Go Go.RowKit
set_option linter.unusedVariables false
set_option linter.unusedSimpArgs false
theorem it_eq_no (x y : It) (h : x ≠ y) (w : World) : (binOp .eql 53 (itV x) (itV y)).run Tryd.prog w = .ok (.bool false) w := by
  obtain ⟨a, ⟨b, c, d⟩, e⟩ := x
  obtain ⟨a', ⟨b', c', d'⟩, e'⟩ := y
  unfold itV
  go_simp
  by_cases h1 : a = a'
  · by_cases h2 : b = b'
    · by_cases h3 : c = c'
      · by_cases h4 : d = d'
        · by_cases h5 : e = e'
          · exact absurd (by rw [h1, h2, h3, h4, h5]) h
          · simp [h1, h2, h3, h4, h5, str_tl]
        · simp [h1, h2, h3, h4, str_tl]
      · simp [h1, h2, h3, str_tl]
    · simp [h1, h2, str_tl]
  · simp [h1, str_tl]
theorem put5 {w : World} {B : Nat} {a0 a1 a2 a3 a4 : Value} (u0 u1 u2 u3 u4 : Value) {t : TypeId} (h : w.heap[B]? = some (.cells #[a0, a1, a2, a3, a4] t (0, 0))) :
    (((((w.setCell ⟨B, 0, none⟩ u0).setCell ⟨B, 1, none⟩ u1).setCell ⟨B, 2, none⟩ u2).setCell ⟨B, 3, none⟩ u3).setCell ⟨B, 4, none⟩ u4).heap[B]? = some (.cells #[u0, u1, u2, u3, u4] t (0, 0)) := by
  simpa using set_at (i := 4) (u := u4) (set_at (i := 3) (u := u3) (set_at (i := 2) (u := u2) (set_at (i := 1) (u := u1) (set_at (i := 0) (u := u0) h))))
theorem put5_below {n : Nat} {w0 w : World} {B : Nat} (u0 u1 u2 u3 u4 : Value) (h : Below n w0 w) (hB : n ≤ B) : Below n w0 (((((w.setCell ⟨B, 0, none⟩ u0).setCell ⟨B, 1, none⟩ u1).setCell ⟨B, 2, none⟩ u2).setCell ⟨B, 3, none⟩ u3).setCell ⟨B, 4, none⟩ u4) :=
  ((((h.setCell (p := ⟨B, 0, none⟩) hB _).setCell (p := ⟨B, 1, none⟩) hB _).setCell (p := ⟨B, 2, none⟩) hB _).setCell (p := ⟨B, 3, none⟩) hB _).setCell (p := ⟨B, 4, none⟩) hB _
theorem set5 {w : World} {B n : Nat} {v : World} {a0 a1 a2 a3 a4 : Value} (u0 u1 u2 u3 u4 : Value) {t : TypeId} (h : w.heap[B]? = some (.cells #[a0, a1, a2, a3, a4] t (0, 0))) (hb : Below n v w) (hn : n ≤ B) :
    (((((w.setCell ⟨B, 0, none⟩ u0).setCell ⟨B, 1, none⟩ u1).setCell ⟨B, 2, none⟩ u2).setCell ⟨B, 3, none⟩ u3).setCell ⟨B, 4, none⟩ u4).cell? ⟨B, 0, none⟩ = some u0 ∧ (((((w.setCell ⟨B, 0, none⟩ u0).setCell ⟨B, 1, none⟩ u1).setCell ⟨B, 2, none⟩ u2).setCell ⟨B, 3, none⟩ u3).setCell ⟨B, 4, none⟩ u4).cell? ⟨B, 1, none⟩ = some u1 ∧ (((((w.setCell ⟨B, 0, none⟩ u0).setCell ⟨B, 1, none⟩ u1).setCell ⟨B, 2, none⟩ u2).setCell ⟨B, 3, none⟩ u3).setCell ⟨B, 4, none⟩ u4).cell? ⟨B, 2, none⟩ = some u2 ∧ (((((w.setCell ⟨B, 0, none⟩ u0).setCell ⟨B, 1, none⟩ u1).setCell ⟨B, 2, none⟩ u2).setCell ⟨B, 3, none⟩ u3).setCell ⟨B, 4, none⟩ u4).cell? ⟨B, 3, none⟩ = some u3 ∧ (((((w.setCell ⟨B, 0, none⟩ u0).setCell ⟨B, 1, none⟩ u1).setCell ⟨B, 2, none⟩ u2).setCell ⟨B, 3, none⟩ u3).setCell ⟨B, 4, none⟩ u4).cell? ⟨B, 4, none⟩ = some u4 ∧ Below n v (((((w.setCell ⟨B, 0, none⟩ u0).setCell ⟨B, 1, none⟩ u1).setCell ⟨B, 2, none⟩ u2).setCell ⟨B, 3, none⟩ u3).setCell ⟨B, 4, none⟩ u4) := by
  obtain ⟨c0, c1, c2, c3, c4, -⟩ := block_cells5 (put5 u0 u1 u2 u3 u4 h)
  exact ⟨c0, c1, c2, c3, c4, put5_below u0 u1 u2 u3 u4 hb hn⟩
theorem atL_found {l : List It} {k : List UInt8} (h : isL l = true) : (foundL l k = true ∧ ∃ hp : posL l k < l.length, l[posL l k].key = k ∧ atL l k = some l[posL l k]) ∨ (foundL l k = false ∧ (∀ hp : posL l k < l.length, l[posL l k].key ≠ k) ∧ atL l k = none) := by
  have hs := isL_sorted h
  cases hf : foundL l k with
  | true =>
    obtain ⟨hp, hk⟩ := found_yes hf
    exact .inl ⟨rfl, hp, hk, pos_at hs hp hk⟩
  | false =>
    have hk := found_no hf
    exact .inr ⟨rfl, hk, at_none hs hk⟩
/-- Slices of items in a block of their own, as lists. -/
theorem rdls_mk {W : World} {g n : Nat} {cs : Array Value} {T : TypeId} {ls : List (List It)} (hq : W.heap[g]? = some (.cells cs T (0, 0))) (hn : ls.length = n) (h10 : n ≤ 10) (h : ∀ j (hj : j < ls.length), ∃ A, cs[j]? = some A ∧ RdI W A ls[j]) : RdLs W (.slice (some ⟨g, 0, none⟩) n n) ls := by
  subst hn
  refine ⟨_, _, rfl, Nat.le_refl _, by unfold maxLen; omega, Lib.hid fun j hj => ?_⟩
  obtain ⟨A, h1, h2⟩ := h j hj
  obtain ⟨a2, c2, rfl, h3, h4, h5⟩ := RdK.open h2
  exact ⟨g, 0, a2, c2, rfl, lt_of_block hq, by rw [Nat.zero_add, block_cell hq j]; exact h1, h3, h4, h5⟩
theorem rdi_one {W : World} {g : Nat} {x : It} {cs : List Value} {T : TypeId} (hq : W.heap[g]? = some (.cells cs.toArray T (0, 0))) (hcs : cs = itC x) : RdI W (.slice (some ⟨g, 0, none⟩) 1 1) [x] := by
  subst hcs
  refine ⟨_, 1, rfl, by simp, by unfold maxLen; omega, by simp, fun _ => ⟨g, 0, rfl, lt_of_block hq, fun t ht => ?_⟩⟩
  rw [Nat.zero_add, block_cell hq t]
  simp
def itZ : Value := .agg #[.string (str []), .int .i64 0, .int .i64 0, .string (str []), .int .i64 0]
/-- What Get hands back. -/
def getT (l : List It) (k : List UInt8) : Value := if isL l = true then (match atL l k with | some x => .tuple #[itV x, .bool true] | none => .tuple #[itZ, .bool false]) else .tuple #[itZ, .bool false]
theorem getT_no {l : List It} {k : List UInt8} (h : isL l = false) : getT l k = .tuple #[itZ, .bool false] := by unfold getT; rw [h]; rfl
theorem getT_none {l : List It} {k : List UInt8} (h1 : isL l = true) (h : atL l k = none) : getT l k = .tuple #[itZ, .bool false] := by unfold getT; rw [if_pos h1, h]
theorem getT_some {l : List It} {k : List UInt8} {x : It} (h1 : isL l = true) (h : atL l k = some x) : getT l k = .tuple #[itV x, .bool true] := by unfold getT; rw [if_pos h1, h]
set_option maxRecDepth 100000 in
set_option maxHeartbeats 1000000 in
theorem lget_any (v : Value) (l : List It) (k : List UInt8) (w : World) (tab : TabAt w) (h : RdI w v l) (hsz : SzI l) :
    Calls Tryd.prog 98 #[v, .string (str k)] w fun e w' => e = .returned (getT l k) ∧ Below w.heap.size w w' := by
  obtain ⟨ao, cap, rfl, hc, hm, hr⟩ := RdK.open h
  have HRD := Lib.hid (show RdI w (.slice ao l.length cap) l from hr)
  have q0 := heap_alloc_new w (.cells #[.string (str []), .int .i64 0, .int .i64 0, .string (str []), .int .i64 0] 53)
  have B0 := (Below.refl w.heap.size w).alloc (Nat.le_refl _) (.cells #[.string (str []), .int .i64 0, .int .i64 0, .string (str []), .int .i64 0] 53)
  have T0 := tab.below B0
  have IS0 := fun W (t : TabAt W) (h : RdI W (.slice ao l.length cap) l) => is9_any _ l W t h hsz
  obtain ⟨R, hR⟩ : ∃ R, R = getT l k := ⟨_, rfl⟩
  rw [← hR]
  clear h hr
  cases hl : isL l with
  | false =>
    simp only [hl] at IS0
    have IS := Lib.hid IS0
    have HG := Lib.hid (hR.trans (getT_no hl))
    clear hR hl IS0
    go_enter Tryd.func98, Tryd.ntmps98
    go_wp2_with fail
    refine (IS.out _ T0 (HRD.out.below B0 (Nat.le_refl _))).mono ?_
    rintro e w2 ⟨rfl, g2⟩
    have q2 := (g2.block _ (lt_of_block q0)).trans q0
    obtain ⟨d0, d1, d2, d3, d4, dz⟩ := block_cells5 q2
    have B2 := chain B0 g2
    clear g2
    clear q0
    go_wp2_with fail
    obtain ⟨r0, r1, r2, r3, r4, bel9⟩ := set5 (.string (str [])) (.int .i64 0) (.int .i64 0) (.string (str [])) (.int .i64 0) q2 B2 (Nat.le_refl _)
    refine bodyPost_ret (v := .tuple #[.agg #[.string (str []), .int .i64 0, .int .i64 0, .string (str []), .int .i64 0], .bool false]) (by simp [results, Tryd.results98, go_sem, r0, r1, r2, r3, r4, str_e]) rfl ⟨by rw [HG.out]; rfl, bel9⟩
  | true =>
    simp only [hl] at IS0
    have IS := Lib.hid IS0
    have h64 := isL_len hl
    have hso := Lib.hid (isL_sorted hl)
    rcases atL_found (k := k) hl with ⟨hf, hp, hk, hat⟩ | ⟨hf, hk, hat⟩
    · have FD0 := fun W (h : RdI W (.slice ao l.length cap) l) => find_any _ l k W h h64 hso.out
      simp only [hf] at FD0
      have HG := Lib.hid (hR.trans (getT_some hl hat))
      obtain ⟨p, hpp⟩ : ∃ p, p = posL l k := ⟨_, rfl⟩
      obtain ⟨x, hx⟩ : ∃ x, x = l[posL l k]'hp := ⟨_, rfl⟩
      have HX := Lib.hid (show ∀ h : p < l.length, l[p] = x by intro h; rw [hx]; congr 1)
      have hpl : p < l.length := by rw [hpp]; exact hp
      simp only [← hpp] at FD0
      rw [← hx] at HG
      have FD := Lib.hid FD0
      clear hR hl IS0 hf hk hat FD0 hx hpp hp
      go_enter Tryd.func98, Tryd.ntmps98
      go_wp2_with fail
      refine (IS.out _ T0 (HRD.out.below B0 (Nat.le_refl _))).mono ?_
      rintro e w2 ⟨rfl, g2⟩
      have q2 := (g2.block _ (lt_of_block q0)).trans q0
      obtain ⟨d0, d1, d2, d3, d4, dz⟩ := block_cells5 q2
      have B2 := chain B0 g2
      clear g2
      go_wp2_with fail
      refine (FD.out _ (HRD.out.below B2 (Nat.le_refl _))).mono ?_
      rintro e w3 ⟨rfl, n3, hw3⟩
      have g3 : Below w2.heap.size w2 w3 := by rw [hw3]; exact below_drewN (Below.refl _ _)
      have q3 := (g3.block _ (lt_of_block q2)).trans q2
      obtain ⟨d0, d1, d2, d3, d4, dz⟩ := block_cells5 q3
      have B3 := chain B2 g3
      have hrd := HRD.out.below B3 (Nat.le_refl _)
      obtain ⟨b, off, rfl, hb, c0, c1, c2, c3, c4⟩ := rdi_cells hrd p hpl
      rw [HX.out hpl] at c0 c1 c2 c3 c4
      clear q0 q2 g3 hw3 hrd
      go_wp2_with fail
      obtain ⟨r0, r1, r2, r3, r4, bel9⟩ := set5 (.string (str x.key)) (.int .i64 x.v.k) (.int .i64 x.v.i) (.string (str x.v.s)) (.int .i64 x.ver) q3 B3 (Nat.le_refl _)
      refine bodyPost_ret (v := .tuple #[.agg #[.string (str x.key), .int .i64 x.v.k, .int .i64 x.v.i, .string (str x.v.s), .int .i64 x.ver], .bool true]) (by simp [results, Tryd.results98, go_sem, r0, r1, r2, r3, r4, str_e]) rfl ⟨by rw [HG.out]; rfl, bel9⟩
    · have FD0 := fun W (h : RdI W (.slice ao l.length cap) l) => find_any _ l k W h h64 hso.out
      simp only [hf] at FD0
      have HG := Lib.hid (hR.trans (getT_none hl hat))
      obtain ⟨p, hpp⟩ : ∃ p, p = posL l k := ⟨_, rfl⟩
      simp only [← hpp] at FD0
      have FD := Lib.hid FD0
      clear hR hl IS0 hf hk hat FD0 hpp
      go_enter Tryd.func98, Tryd.ntmps98
      go_wp2_with fail
      refine (IS.out _ T0 (HRD.out.below B0 (Nat.le_refl _))).mono ?_
      rintro e w2 ⟨rfl, g2⟩
      have q2 := (g2.block _ (lt_of_block q0)).trans q0
      obtain ⟨d0, d1, d2, d3, d4, dz⟩ := block_cells5 q2
      have B2 := chain B0 g2
      clear g2
      go_wp2_with fail
      refine (FD.out _ (HRD.out.below B2 (Nat.le_refl _))).mono ?_
      rintro e w3 ⟨rfl, n3, hw3⟩
      have g3 : Below w2.heap.size w2 w3 := by rw [hw3]; exact below_drewN (Below.refl _ _)
      have q3 := (g3.block _ (lt_of_block q2)).trans q2
      obtain ⟨d0, d1, d2, d3, d4, dz⟩ := block_cells5 q3
      have B3 := chain B2 g3
      clear q0 q2 g3 hw3
      go_wp2_with fail
      obtain ⟨r0, r1, r2, r3, r4, bel9⟩ := set5 (.string (str [])) (.int .i64 0) (.int .i64 0) (.string (str [])) (.int .i64 0) q3 B3 (Nat.le_refl _)
      refine bodyPost_ret (v := .tuple #[.agg #[.string (str []), .int .i64 0, .int .i64 0, .string (str []), .int .i64 0], .bool false]) (by simp [results, Tryd.results98, go_sem, r0, r1, r2, r3, r4, str_e]) rfl ⟨by rw [HG.out]; rfl, bel9⟩
end Go.Proofs.YtbdfcgffkonbiaaDoor
