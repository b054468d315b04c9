/- Count and All, by the ring. -/
import Derived.Test.YtojjpnkdblaidaaR4D
import Derived.Lib.SliceRun
namespace Go.Proofs.Ytojjpnkdblaidaa
open Go Go.RowKit Go.Maps
set_option linter.unusedVariables false
set_option linter.unusedSimpArgs false
theorem RG.shape {w : World} {base B M n : Nat} {bad : Nat → Bool} {sv : Value} {L : List St} (h : RG w base B M n bad sv L) : ∃ ao cap, sv = .slice ao L.length cap ∧ L.length ≤ cap ∧ cap ≤ maxLen ∧ (0 < L.length → ∃ g, ao = some ⟨g, 0, none⟩) := by
  rcases h.row.2 with ⟨e1, e2⟩ | ⟨g, cap, cur, e1, _, _, e2, e3, _⟩
  · exact ⟨none, 0, by rw [e1, e2], by omega, by decide, fun hp => by omega⟩
  · exact ⟨_, cap, e1, e2, e3, fun _ => ⟨g, rfl⟩⟩
set_option maxRecDepth 100000 in
theorem count_any (base B M n : Nat) (bad : Nat → Bool) (sv : Value) (L : List St) (w : World) (h : RG w base B M n bad sv L) :
    Calls Try.prog 18 #[.pointer (some ⟨B, 0, none⟩)] w fun e w' => e = .returned (.int .i64 (L.length : Int)) ∧ w = w' := by
  have hc := h.cells
  obtain ⟨ao, cap, hsv, _⟩ := h.shape
  rw [hsv] at hc
  clear h hsv
  go_enter Try.func18, Try.ntmps18
  go_wp2_with fail
  go_ret
  exact ⟨rfl, rfl⟩
theorem flat_len (L : List St) : (L.flatMap St.cs).length = L.length * 5 := by
  induction L with
  | nil => rfl
  | cons s L ih => rw [List.flatMap_cons, List.length_append, ih, List.length_cons, Nat.add_mul]; simp [St.cs]; omega
theorem flat_one (L : List St) : ∀ u ∈ L.flatMap St.cs, u.oneCell' = true := by
  intro u hu
  obtain ⟨s, _, h⟩ := List.mem_flatMap.1 hu
  exact st_one s u h
/-- What is handed back of it: a row of its own. -/
def AllP (w : World) (L : List St) (e : Ending) (w' : World) : Prop :=
  Below w.heap.size w w' ∧ ∃ v, e = .returned v ∧ w'.ownsRow w.heap.size 39 5 v L.length (L.flatMap St.cs)
set_option maxRecDepth 100000 in
theorem clone_any (base : Nat) (sv : Value) (L : List St) (hlen : L.length ≤ 1000) (w : World) (h : w.ownsRow base 39 5 sv L.length (L.flatMap St.cs)) :
    Calls Try.prog 22 #[sv] w (AllP w L) := by
  obtain ⟨i0, hi0, hz0, hz1, hz2⟩ := info_parts st_info
  rcases h.2 with ⟨e1, e2⟩ | ⟨g, cap, cur, e1, hbg, hg, e2, e3, e4, e5⟩
  · subst e1
    have eL : L = [] := List.eq_nil_of_length_eq_zero e2
    subst eL
    clear h
    have qT : ∀ (w : World), (binOp .eql 25 (.slice none 0 0) (.slice none 0 0)).run Try.prog w = .ok (.bool true) w := fun w => Lib.run_eql_slice_nil w _ _ none 0 0 0 0 Try.underlying25
    go_enter Try.func22, Try.ntmps22
    go_wp2_with fail
    go_ret
    exact ⟨Below.refl _ _, _, rfl, World.ownsRow_nil _ _ _ _⟩
  · subst e1
    have HC : ∀ (j : Nat) (u : Value), (L.flatMap St.cs)[j]? = some u → (w.alloc (.cells #[] 39)).cell? ((⟨g, 0, none⟩ : Addr).add j) = some u := by
      intro j u hj
      have h1 := h.cells (g := g) rfl j u hj
      exact (World.cell?_of_block (heap_alloc_old w _ (by rw [Addr.add_lit]; exact lt_of_block hg))).trans h1
    have HC := Lib.hid HC
    have hlL := flat_len L
    have honeL := flat_one L
    have HL := Lib.hid hlL
    have HO := Lib.hid honeL
    clear h hlL honeL
    have qT : ∀ (w : World) (n c : Nat), (binOp .eql 25 (.slice (some ⟨g, 0, none⟩) n c) (.slice none 0 0)).run Try.prog w = .ok (.bool false) w := fun w n c => Lib.run_eql_slice_nil w _ _ (some ⟨g, 0, none⟩) n c 0 0 Try.underlying25
    go_enter Try.func22, Try.ntmps22
    go_wp2_with (at_builtin; refine wpList_append_own _ rfl (.tmp 5) (.tmp 6) 25 rfl w.heap.size 39 i0 (.agg #[.int .i64 0, .int .i64 0, .int .i64 0, .int .i64 0, .int .i64 0]) 5 40 Try.underlying25 hi0 hz0 hz1 hz2 rfl (by decide) _ 0 [] rfl (World.ownsRow_lit _ #[] 0 (Nat.le_refl _) (by decide) rfl) ⟨g, 0, none⟩ L.length cap (L.flatMap St.cs) rfl HL.out HC.out HO.out (by unfold maxLen; omega) (by omega) (by simp) ?_; intro v1 w1 o1 g1 _; rw [Nat.zero_add, List.nil_append] at o1)
    go_ret
    exact ⟨(((Below.refl w.heap.size w).alloc (Nat.le_refl _) (.cells #[] 39)).grown g1 (by simp) (by intro k hk; cases hk; exact Nat.le_refl _)), _, rfl, o1⟩
set_option maxRecDepth 100000 in
theorem all_any (base B M n : Nat) (bad : Nat → Bool) (sv : Value) (L : List St) (w : World) (h : RG w base B M n bad sv L) :
    Calls Try.prog 17 #[.pointer (some ⟨B, 0, none⟩)] w (AllP w L) := by
  have hc := h.cells
  have C := clone_any base sv L h.len w h.row
  obtain ⟨ao, cap, hsv, _⟩ := h.shape
  rw [hsv] at hc C
  clear h hsv
  go_enter Try.func17, Try.ntmps17
  go_wp2_with fail
  refine C.mono ?_
  rintro e w1 ⟨g, v, rfl, o1⟩
  obtain ⟨b1, n1, c1, rfl⟩ : ∃ ao n c, v = .slice ao n c := by
    rcases o1.2 with ⟨rfl, _⟩ | ⟨g, cap, cur, rfl, _⟩
    · exact ⟨_, _, _, rfl⟩
    · exact ⟨_, _, _, rfl⟩
  go_wp2_with fail
  go_ret
  exact ⟨g, _, rfl, o1⟩
end Go.Proofs.Ytojjpnkdblaidaa
