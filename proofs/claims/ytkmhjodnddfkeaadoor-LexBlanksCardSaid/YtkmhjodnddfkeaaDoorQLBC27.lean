/- Lex: what is quoted is one token. Written by wip/tools/gen16t.py. -/
import Derived.Test.YtkmhjodnddfkeaaDoorQLBC26
namespace Go.Proofs.YtkmhjodnddfkeaaDoor
open Go Go.RowKit
set_option linter.unusedVariables false
set_option linter.unusedSimpArgs false
theorem tx_esc {d e : UInt8} {l : List UInt8} (h : charQ (d :: l) = (e, 0, 2)) : txS (92 :: d :: l) = txA [e] 2 (txS l) := by
  obtain ⟨-, t2⟩ := tx_step 92 (d :: l) (by decide)
  have hc : charP 92 (d :: l) = (e, 0, 2) := by
    unfold charP
    rw [if_neg (by decide), if_neg (by decide)]
    exact h
  rw [hc] at t2
  exact (t2 rfl).1
theorem tx_plain {c : UInt8} {l : List UInt8} (h34 : c ≠ 34) (h92 : c ≠ 92) (hin : ¬ (c.toNat < 32 ∨ 126 < c.toNat)) : txS (c :: l) = txA [c] 1 (txS l) := by
  obtain ⟨-, t2⟩ := tx_step c l h34
  have hc : charP c l = (c, 0, 1) := by
    unfold charP
    rw [if_neg hin, if_pos h92]
  rw [hc] at t2
  exact (t2 rfl).1
theorem tx_quo : ∀ (s t z : List UInt8), quoF s = some t → txS (t ++ 34 :: z) = .inr (s, t.length + 1)
  | [], t, z, h => by
    obtain rfl : [] = t := Option.some.inj h
    exact tx_quote z
  | c :: r, t, z, h => by
    by_cases hb : c ≠ 10 ∧ (c.toNat < 32 ∨ 126 < c.toNat)
    · rw [quo_bad hb] at h; cases h
    · rw [quo_step hb] at h
      cases hr : quoF r with
      | none => rw [hr] at h; cases h
      | some t1 =>
        rw [hr] at h
        obtain rfl : quoC c ++ t1 = t := Option.some.inj h
        have ih := tx_quo r t1 z hr
        unfold quoC
        by_cases h10 : c = 10
        · subst h10
          rw [if_pos rfl]
          show txS (92 :: 110 :: (t1 ++ 34 :: z)) = _
          rw [tx_esc (e := 10) ((if_neg (by decide)).trans ((if_neg (by decide)).trans (if_pos rfl))), ih]
          simp [txA]; omega
        · rw [if_neg h10]
          by_cases hq : c = 34 ∨ c = 92
          · rw [if_pos hq]
            show txS (92 :: c :: (t1 ++ 34 :: z)) = _
            have e : charQ (c :: (t1 ++ 34 :: z)) = (c, 0, 2) := by
              rcases hq with h | h
              · subst h; rfl
              · subst h; rfl
            rw [tx_esc e, ih]
            simp [txA]; omega
          · rw [if_neg hq]
            show txS (c :: (t1 ++ 34 :: z)) = _
            rw [tx_plain (fun e => hq (.inl e)) (fun e => hq (.inr e)) (fun e => hb ⟨h10, e⟩), ih]
            simp [txA, Nat.add_comm, Nat.add_assoc]
theorem quoF_len : ∀ (s t : List UInt8), quoF s = some t → t.length ≤ 2 * s.length
  | [], t, h => by
    obtain rfl : [] = t := Option.some.inj h
    exact Nat.le_refl _
  | c :: r, t, h => by
    by_cases hb : c ≠ 10 ∧ (c.toNat < 32 ∨ 126 < c.toNat)
    · rw [quo_bad hb] at h; cases h
    · rw [quo_step hb] at h
      cases hr : quoF r with
      | none => rw [hr] at h; cases h
      | some t1 =>
        rw [hr] at h
        obtain rfl : quoC c ++ t1 = t := Option.some.inj h
        have ih := quoF_len r t1 hr
        have := quo_len c
        rw [List.length_append, List.length_cons]
        omega
theorem sk_blank : ∀ (b z : List UInt8) (c : UInt8), (∀ x ∈ b, blankB x = true) → blankB c = false → (c == 35) = false → skS false (b ++ c :: z) = b.length
  | [], z, c, _, h1, h2 => by
    show skS false (c :: z) = 0
    unfold skS
    rw [h1, h2]; rfl
  | x :: b, z, c, h, h1, h2 => by
    show skS false (x :: (b ++ c :: z)) = _
    unfold skS
    rw [h x (List.mem_cons_self ..), if_pos rfl, sk_blank b z c (fun y hy => h y (List.mem_cons_of_mem _ hy)) h1 h2]
    rfl
theorem toks_quo {s t b : List UInt8} (hq : quoF s = some t) (hs : s.length ≤ 64) (hb : ∀ c ∈ b, blankB c = true) (hl : b.length ≤ 4) :
    toksP (b ++ (34 :: t ++ [34]) ++ [35]) = .inr [⟨3, b.length, s, 0⟩, ⟨0, b.length + t.length + 3, [], 0⟩] := by
  have ht := quoF_len s t hq
  obtain ⟨x, hx⟩ : ∃ x, x = b ++ (34 :: t ++ [34]) ++ [35] := ⟨_, rfl⟩
  have hx2 : x = b ++ 34 :: (t ++ 34 :: [35]) := by rw [hx]; simp
  have hxl : x.length = b.length + t.length + 3 := by rw [hx2]; simp; omega
  rw [← hx]
  have h0 : skS false x = b.length := by rw [hx2]; exact sk_blank b _ 34 hb (by decide) (by decide)
  have hd : x.drop b.length = 34 :: (t ++ 34 :: [35]) := by rw [hx2]; exact List.drop_left
  have ho : oneP (x.drop b.length) = .inr (⟨3, s, 0⟩, t.length + 2) := by
    rw [hd]
    have htx := tx_quo s t [35] hq
    unfold oneP
    simp only
    rw [if_neg (by decide), if_neg (by decide)]
    first | rw [if_pos trivial, htx] | rw [if_pos rfl, htx]
    simp only
    rw [if_neg (by omega)]
  have hd2 : x.drop (b.length + (t.length + 2)) = [35] := by
    rw [← List.drop_drop, hd]
    show List.drop (t.length + 1) (t ++ 34 :: [35]) = [35]
    rw [← List.drop_drop, List.drop_left]
    rfl
  unfold toksP
  rw [if_neg (by omega), h0, toks_more (by omega) ho (by decide), hd2]
  rw [toks_end (by rw [hxl]; show _ ≤ b.length + (t.length + 2) + 1; omega)]
  simp only [tkA, List.cons_append, List.nil_append, hxl]
end Go.Proofs.YtkmhjodnddfkeaaDoor
