/- Choose: the chapter's changes; the chapter's examples. -/
import Derived.Test.YtgmblgpfgdfnaaaQMM44
import Derived.Test.YtgmblgpfgdfnaaaQMM45
namespace Go.Proofs.Ytgmblgpfgdfnaaa
open Go Go.RowKit
set_option linter.unusedVariables false
set_option linter.unusedSimpArgs false
set_option maxRecDepth 100000

theorem rdk_block31 {α : Type} {enc : α → List Value} {k : Nat} (hk : ∀ x, (enc x).length = k) {w : World} {g : Nat} {l : List α} {t : TypeId} (h : w.heap[g]? = some (.cells (l.flatMap enc).toArray t (0, 0))) (hm : l.length ≤ maxLen) : RdK k enc w (.slice (some ⟨g, 0, none⟩) l.length l.length) l :=
  ⟨_, l.length, rfl, Nat.le_refl _, hm, by simp, fun _ => ⟨g, 0, rfl, lt_of_block h, fun i hi => by rw [Nat.zero_add, block_cell h i]; simp⟩⟩
def sv0 : Sv := ⟨none, 0, 0⟩
def thrL (B : Nat) : List Cg := [⟨0, 0, 0, 0, sv0, ⟨some ⟨B, 0, none⟩, 1, 1⟩, [⟨2, 0, 5, [], sv0⟩]⟩, ⟨1, 0, 0, 0, sv0, ⟨some ⟨B + 1, 0, none⟩, 1, 1⟩, [⟨2, 1, 6, [], sv0⟩]⟩, ⟨2, 0, 0, 0, sv0, sv0, []⟩]
theorem thr_may (B : Nat) : MayP 4 (thrL B) := by
  refine ⟨by decide, (by show (3 : Int) ≤ 3; decide), fun c hc => ?_, ?_⟩
  · simp only [thrL, List.mem_cons, List.not_mem_nil, or_false] at hc
    rcases hc with rfl | rfl | rfl <;> rfl
  · unfold thrL
    simp
theorem thr_low (B : Nat) : lowZ (thrL B) = (0, 0) := rfl
theorem thr_hi (B : Nat) : hiF (lowZ (thrL B)).1 (allC (thrL B)) = (lowZ (thrL B)).1 + ((2 : Nat) : Int) := rfl
theorem thr_1 (B : Nat) : chL (thrL B) 1 = [.int .i64 1, .int .i64 0, .string (⟨#[]⟩), .bool true] := rfl
theorem thr_2 (B : Nat) : chL (thrL B) 2 = [.int .i64 2, .int .i64 6, .string (⟨#[]⟩), .bool false] := rfl
theorem thr_up : upN 0 2 = [1, 2] := rfl
def GivesT3 (w : World) (e : Ending) (w' : World) : Prop := e = .returned (.slice (some ⟨w.heap.size + 1 + 1, 0, none⟩) 3 3) ∧ RdCg w' (.slice (some ⟨w.heap.size + 1 + 1, 0, none⟩) 3 3) (thrL w.heap.size) ∧ Below w.heap.size w w'
set_option maxHeartbeats 2000000 in
theorem three_any31 (w : World) : Calls Try.prog 42 #[] w (GivesT3 w) := by
  obtain ⟨Z, hZ⟩ : ∃ Z, Z = GivesT3 w := ⟨_, rfl⟩
  rw [← hZ]
  have HZ := Lib.hid hZ
  clear hZ
  go_enter Try.func42, Try.ntmps42
  go_wp2_with fail
  obtain ⟨W, hW⟩ : ∃ W, W = ((w.alloc (.cells #[.int .i64 2, .int .i64 0, .int .i64 5, .string { data := #[] }, .slice none 0 0] 58)).alloc (.cells #[.int .i64 2, .int .i64 1, .int .i64 6, .string { data := #[] }, .slice none 0 0] 58)).alloc (.cells #[.int .i64 0, .int .i64 0, .int .i64 0, .int .i64 0, .slice none 0 0, .slice (some ⟨w.heap.size, 0, none⟩) 1 1, .int .i64 1, .int .i64 0, .int .i64 0, .int .i64 0, .slice none 0 0, .slice (some ⟨w.heap.size + 1, 0, none⟩) 1 1, .int .i64 2, .int .i64 0, .int .i64 0, .int .i64 0, .slice none 0 0, .slice none 0 0] 56) := ⟨_, rfl⟩
  obtain ⟨t1, ⟨t4, t5⟩, t3, tz⟩ := three_allocs31 w W _ _ _ hW
  have hb : Below w.heap.size w W := by rw [hW]; exact (((Below.refl _ _).alloc (Nat.le_refl _) _).alloc (by simp) _).alloc (by simp; omega) _
  rw [← hW]
  show Z (.returned (.slice (some ⟨w.heap.size + 1 + 1, 0, none⟩) 3 3)) _
  rw [HZ.out]
  have hm : (1 : Nat) ≤ maxLen := by unfold maxLen; omega
  have hm3 : (3 : Nat) ≤ maxLen := by unfold maxLen; omega
  have ok0 : sv0.ok := ⟨Nat.le_refl _, by unfold sv0 maxLen; simp⟩
  refine ⟨rfl, ⟨rdk_block31 (l := thrL w.heap.size) cgC_len t5 hm3, fun c hc => ?_⟩, hb⟩
  simp only [thrL, List.mem_cons, List.not_mem_nil, or_false] at hc
  rcases hc with rfl | rfl | rfl
  · refine ⟨ok0, rdk_block31 (l := [⟨2, 0, 5, [], sv0⟩]) ceC_len t1 hm, fun x hx => ?_⟩
    simp only [List.mem_cons, List.not_mem_nil, or_false] at hx
    subst hx
    exact ⟨ok0, Nat.zero_le _⟩
  · refine ⟨ok0, rdk_block31 (l := [⟨2, 1, 6, [], sv0⟩]) ceC_len t4 hm, fun x hx => ?_⟩
    simp only [List.mem_cons, List.not_mem_nil, or_false] at hx
    subst hx
    exact ⟨ok0, Nat.zero_le _⟩
  · exact ⟨ok0, rdk_nil _, fun x hx => by cases hx⟩
theorem ch3_any (B : Nat) (v : Value) (w : World) (h : RdCg w v (thrL B)) : Calls Try.prog 41 #[v, .int .i64 4] w fun e w' => (∃ b off k, e = .returned (.tuple #[.slice (some ⟨b, off, none⟩) 2 k, .int .i64 0]) ∧
    w'.cell? ⟨b, off, none⟩ = some (.int .i64 1) ∧ w'.cell? ⟨b, off + 1, none⟩ = some (.int .i64 0) ∧ w'.cell? ⟨b, off + 2, none⟩ = some (.string ⟨#[]⟩) ∧ w'.cell? ⟨b, off + 3, none⟩ = some (.bool true) ∧
    w'.cell? ⟨b, off + 1 * 4, none⟩ = some (.int .i64 2) ∧ w'.cell? ⟨b, off + 1 * 4 + 1, none⟩ = some (.int .i64 6) ∧ w'.cell? ⟨b, off + 1 * 4 + 2, none⟩ = some (.string ⟨#[]⟩) ∧ w'.cell? ⟨b, off + 1 * 4 + 3, none⟩ = some (.bool false) ∧ b < w'.heap.size) ∧ Below w.heap.size w w' := by
  refine (choices_yes 4 (thrL B) v w h (thr_may B) 2 (thr_hi B) (by decide)).mono ?_
  rintro e w' ⟨⟨v', rfl, hr⟩, g⟩
  refine ⟨?_, g⟩
  have hr2 : RdK 4 (chL (thrL B)) w' v' [1, 2] := hr
  obtain ⟨ao, cap, rfl, hc1, hc2, hr3⟩ := hr2.open
  obtain ⟨b, off, rfl, hlt, hc⟩ := RdK.cell (chL_len _) hr3 0 (by decide)
  obtain ⟨b', off', hab, -, hc'⟩ := RdK.cell (chL_len _) hr3 1 (by decide)
  injection hab with hab
  injection hab with h1 h2
  subst h1
  subst h2
  refine ⟨b, off, cap, rfl, ?_, ?_, ?_, ?_, ?_, ?_, ?_, ?_, hlt⟩
  · have := hc 0 (by decide); simpa [thr_1] using this
  · have := hc 1 (by decide); simpa [thr_1] using this
  · have := hc 2 (by decide); simpa [thr_1] using this
  · have := hc 3 (by decide); simpa [thr_1] using this
  · have := hc' 0 (by decide); simpa [thr_2] using this
  · exact hc' 1 (by decide)
  · exact hc' 2 (by decide)
  · exact hc' 3 (by decide)
/-- The choices of the examples, in memory. -/
structure ChF (w : World) (b off : Nat) : Prop where
  c0 : w.cell? ⟨b, off, none⟩ = some (.int .i64 1)
  c1 : w.cell? ⟨b, off + 1, none⟩ = some (.int .i64 0)
  c2 : w.cell? ⟨b, off + 2, none⟩ = some (.string ⟨#[]⟩)
  c3 : w.cell? ⟨b, off + 3, none⟩ = some (.bool true)
  d0 : w.cell? ⟨b, off + 1 * 4, none⟩ = some (.int .i64 2)
  d1 : w.cell? ⟨b, off + 1 * 4 + 1, none⟩ = some (.int .i64 6)
  d2 : w.cell? ⟨b, off + 1 * 4 + 2, none⟩ = some (.string ⟨#[]⟩)
  d3 : w.cell? ⟨b, off + 1 * 4 + 3, none⟩ = some (.bool false)
  lt : b < w.heap.size
theorem ChF.below {w w' : World} {b off : Nat} (h : ChF w b off) (g : Below w.heap.size w w') : ChF w' b off :=
  ⟨(g.cell (p := ⟨b, _, none⟩) h.lt).trans h.c0, (g.cell (p := ⟨b, _, none⟩) h.lt).trans h.c1, (g.cell (p := ⟨b, _, none⟩) h.lt).trans h.c2, (g.cell (p := ⟨b, _, none⟩) h.lt).trans h.c3, (g.cell (p := ⟨b, _, none⟩) h.lt).trans h.d0, (g.cell (p := ⟨b, _, none⟩) h.lt).trans h.d1, (g.cell (p := ⟨b, _, none⟩) h.lt).trans h.d2, (g.cell (p := ⟨b, _, none⟩) h.lt).trans h.d3, Nat.lt_of_lt_of_le h.lt g.size⟩
set_option maxHeartbeats 2000000 in
theorem awake31_any (w : World) : Calls Try.prog 23 #[] w fun e w' => e = .returned (.bool true) ∧ Below w.heap.size w w' := by
  have TH := Lib.hid (fun w' => three_any31 w')
  have CH := Lib.hid (fun B v w' h => ch3_any B v w' h)
  have LO := Lib.hid (fun (B : Nat) (v : Value) (w' : World) (h : RdCg w' v (thrL B)) => (show Calls Try.prog 24 #[v, .int .i64 4] w' fun e w'' => e = .returned (.tuple #[.int .i64 0, .int .i64 0, .int .i64 0]) ∧ Below w'.heap.size w' w'' from low_yes 4 (thrL B) v w' h (thr_may B)))
  have AT := Lib.hid (fun B v w' h => atP_no 4 (thrL B) v 17 w' h (thr_may B) (by decide) (.inr (by rw [thr_low]; decide)))
  have bel := Below.refl w.heap.size w
  go_enter Try.func23, Try.ntmps23
  have CC := Lib.hid (show True from trivial)
  go_wp2_with (first | ((with_reducible refine (TH.out _).mono ?_); rintro e w1 ⟨rfl, h1, g1⟩; (have bel := chain bel g1); (try have CC := CC.below g1); (clear g1)) | ((with_reducible refine (CH.out _ _ _ h1).mono ?_); rintro e w2 ⟨⟨b, off, k, rfl, c0, c1, c2, c3, d0, d1, d2, d3, hlt⟩, g2⟩; (have CC : ChF w2 b off := ⟨c0, c1, c2, c3, d0, d1, d2, d3, hlt⟩); (have bel := chain bel g2); (clear g2 h1 c0 c1 c2 c3 d0 d1 d2 d3 hlt)) | ((with_reducible refine (LO.out _ _ _ h1).mono ?_); rintro e w3 ⟨rfl, g3⟩; (have bel := chain bel g3); (have CC := CC.below g3); (clear g3 h1)) | ((with_reducible refine (AT.out _ _ _ h1).mono ?_); rintro e w4 ⟨rfl, g4⟩; (have bel := chain bel g4); (have CC := CC.below g4); (obtain ⟨c0, c1, c2, c3, d0, d1, d2, d3, hlt⟩ := CC.below ((Below.refl _ w4).alloc (Nat.le_refl _) (.cells #[.int .i64 0, .int .i64 0, .string (str []), .bool false] 63)))))
  go_ret
  exact ⟨rfl, bel.alloc bel.size _⟩
end Go.Proofs.Ytgmblgpfgdfnaaa
