/- The law ClockDoes, for every clock. -/
import Derived.Test.YtgopmffekhhmjaaK06m
namespace Go.Proofs.Ytgopmffekhhmjaa
open Go.RowKit
set_option linter.unusedVariables false
theorem does_any (c : Ck) (W : World) (hd : I64 c.due) : Calls Try.prog 4 #[ckV c] W fun e w' => e = .returned (.bool true) ∧ Below W.heap.size W w' := by
  obtain ⟨n, wt, b, cp, o, d⟩ := c
  have S6 := rmay_any ⟨n, wt, b, cp, o, d⟩ hd
  by_cases hm : MayP ⟨n, wt, b, cp, o, d⟩
  · rw [mayC_true hm] at S6
    have hm0 := hm
    unfold MayP at hm0
    simp only [] at hm0
    obtain ⟨m1, m2, m3, m4, m5, m6, m7, m8⟩ := hm0
    have S1 := start_yes _ hm
    have S2 := stop_yes _ hm
    have S4 := double_yes _ hm
    have S5 := reset_yes _ hm
    have R1 : ∀ w, _ := fun w => rat_pos (n := n) (wt := wt) (b := b) (cp := cp) (o := o) (d := d) (l := wt) m5 m6 (by omega) (by omega) w
    have R2 : ∀ w, _ := fun w => rat_zero (n := n) (wt := wt) (b := b) (cp := cp) (o := o) (d := d) m5 m6 w
    have R3 := rdouble_any _ hm
    have R4 := rreset_any _ hm
    simp only [ckV] at S1 S2 S4 S5 S6 R3 R4
    generalize (if cp < 2 * wt then cp else 2 * wt) = v2 at S4 R3
    generalize (if o = true then if n + b < d then n + b else d else d) = dz at S5 R4
    by_cases hn : n = 1099511627776
    · have S3 := tick_last _ hm hn
      simp only [ckV, zeroC] at S3
      subst hn
      generalize (1099511627776 + wt : Int) = v5 at S1 R1
      simp only [ckV]
      exact does_last wt b cp d v2 dz v5 o W S1 S2 S3 S4 S5 S6 R1 R2 R3 R4
    · have hl : n < 1099511627776 := by omega
      have S3 := tick_yes _ hm hl
      have R5 := rtick_any _ hm hl
      generalize tickC ⟨n, wt, b, cp, o, d⟩ = T at S3 R5
      generalize ringsC ⟨n, wt, b, cp, o, d⟩ = rg at S3 R5
      obtain ⟨p0, p1, p2, p3, p4, p5⟩ := T
      simp only [ckV] at S3 R5
      simp only [ckV]
      exact does_yes wt b cp d n v2 dz p0 p1 p2 p3 p5 o p4 rg W (by simpa using hn) S1 S2 S3 S4 S5 S6 R1 R2 R3 R4 R5
  · rw [mayC_false hm] at S6
    have S1 := start_no _ hm
    have S2 := stop_no _ hm
    have S3 := tick_no _ hm
    have S4 := double_no _ hm
    have S5 := reset_no _ hm
    simp only [ckV, zeroC] at S1 S2 S3 S4 S5 S6
    simp only [ckV]
    exact does_no wt b cp d n o W S1 S2 S3 S4 S5 S6
theorem does_row (c : Ck) (W : World) (hd : I64 c.due) : Calls Try.prog 4 #[ckV c] W fun e w' => e = .returned (.bool true) ∧ Below W.heap.size W w' := does_any c W hd
end Go.Proofs.Ytgopmffekhhmjaa
