/- Lex: the widened text has the same tokens. Written by wip/tools/gen16w.py. -/
import Derived.Test.YtkmhjodnddfkeaaDoorQLBC28
namespace Go.Proofs.YtkmhjodnddfkeaaDoor
open Go Go.RowKit
set_option linter.unusedVariables false
set_option linter.unusedSimpArgs false
theorem sk_f (c : UInt8) (r : List UInt8) : skS false (c :: r) = if blankB c then skS false r + 1 else if c == 35 then skS true r + 1 else 0 := rfl
theorem sk_t (c : UInt8) (r : List UInt8) : skS true (c :: r) = if c == 10 then skS false r + 1 else skS true r + 1 := rfl
theorem sk_app : ∀ (g : List UInt8) (b : Bool) (X Y : List UInt8), skS b (g ++ X) = g.length → (X ≠ [] ∨ Y = []) → skS b (g ++ Y) = g.length + skS false Y
  | [], b, X, Y, h, hxy => by
    rcases hxy with hx | hy
    · cases X with
      | nil => exact absurd rfl hx
      | cons c r =>
        cases b with
        | true =>
          exfalso
          rw [List.nil_append] at h
          unfold skS at h
          split at h <;> simp at h
        | false => simp
    · subst hy
      cases b <;> rfl
  | c :: g, b, X, Y, h, hxy => by
    rw [List.cons_append] at h ⊢
    rw [List.length_cons] at h ⊢
    cases b with
    | false =>
      rw [sk_f] at h ⊢
      by_cases h1 : blankB c = true
      · rw [if_pos h1] at h ⊢
        rw [sk_app g false X Y (by omega) hxy]; omega
      · rw [if_neg h1] at h ⊢
        by_cases h2 : (c == 35) = true
        · rw [if_pos h2] at h ⊢
          rw [sk_app g true X Y (by omega) hxy]; omega
        · rw [if_neg h2] at h; omega
    | true =>
      rw [sk_t] at h ⊢
      by_cases h2 : (c == 10) = true
      · rw [if_pos h2] at h ⊢
        rw [sk_app g false X Y (by omega) hxy]; omega
      · rw [if_neg h2] at h ⊢
        rw [sk_app g true X Y (by omega) hxy]; omega
theorem remL_len : remL.length = 14 := rfl
theorem sk_remL (Z : List UInt8) : skS false (remL ++ Z) = 14 + skS false Z := by
  have : skS false (remL ++ Z) = skS false Z + 1 + 1 + 1 + 1 + 1 + 1 + 1 + 1 + 1 + 1 + 1 + 1 + 1 + 1 := rfl
  omega
theorem sk_head {c : UInt8} {r : List UInt8} (h : skS false (c :: r) ≠ 0) : (blankB c || c == 35) = true := by
  unfold skS at h
  by_cases h1 : blankB c = true
  · rw [h1]; rfl
  · rw [if_neg h1] at h
    by_cases h2 : (c == 35) = true
    · rw [h2]; simp
    · rw [if_neg h2] at h; exact absurd rfl h
theorem tok_start {c : UInt8} {r Z : List UInt8} {y : Tk × Nat} (h : oneP (c :: r) = .inr y) : skS false (c :: Z) = 0 := by
  by_cases hb : (blankB c || c == 35) = true
  · exfalso
    have : c = 32 ∨ c = 9 ∨ c = 10 ∨ c = 35 := by
      simp only [blankB, Bool.or_eq_true, beq_iff_eq] at hb
      rcases hb with (h | h | h) | h <;> simp [h]
    have two : ∀ l : List UInt8, signB (c :: l) = false := by
      intro l
      unfold signB
      rw [Bool.eq_false_iff]
      intro e
      rw [List.contains_iff_mem] at e
      simp only [sign2, sign1, List.cons_append, List.nil_append, List.mem_cons, List.not_mem_nil, or_false, List.cons.injEq] at e
      rcases this with h | h | h | h <;> (subst h; revert e; simp)
    have h1 : letB c = false := by rcases this with h | h | h | h <;> (subst h; decide)
    have h2 : digB c = false := by rcases this with h | h | h | h <;> (subst h; decide)
    have h3 : c ≠ 34 := by rcases this with h | h | h | h <;> (subst h; decide)
    unfold oneP at h
    simp only at h
    rw [if_neg (by rw [h1]; decide), if_neg (by rw [h2]; decide), if_neg h3] at h
    rw [if_neg (by rintro ⟨-, q⟩; rw [List.take_succ_cons, two] at q; cases q), if_neg (by rw [List.take_succ_cons, two]; decide)] at h
    cases h
  · unfold skS
    rw [Bool.or_eq_true] at hb
    rw [if_neg (fun e => hb (.inl e)), if_neg (fun e => hb (.inr e))]
def wideF (s : List UInt8) : List Tp → List UInt8
  | x :: y :: r => remL ++ ((s.drop x.at_).take (y.at_ - x.at_) ++ wideF s (y :: r))
  | _ => []
def endT (s : List UInt8) : Tp := ⟨0, s.length, [], 0⟩
def strip (x : Tp) : Nat × List UInt8 × Int := (x.kd, x.t, x.i)
def ascL (m : Nat) : List Tp → Prop
  | x :: y :: r => x.at_ < y.at_ ∧ y.at_ ≤ m ∧ ascL m (y :: r)
  | _ => True
theorem wide_toks (s : List UInt8) : ∀ (f a k : Nat) (l : List Tp), toksF f s a k = .inr l → a ≤ s.length → s.length < f + a →
    (∃ y r, l ++ [endT s] = y :: r ∧ y.at_ = a) ∧ (l ≠ [] → a < s.length) ∧ ascL s.length (l ++ [endT s]) ∧
    ∀ (u : List UInt8) (P f' : Nat), u.drop P = wideF s (l ++ [endT s]) → P ≤ u.length → u.length < f' + P → ∃ l', toksF f' u (P + skS false (u.drop P)) k = .inr l' ∧ l'.map strip = l.map strip
  | 0, a, k, l, h, ha, hf => by omega
  | f + 1, a, k, l, h, ha, hf => by
    by_cases hlt : a < s.length
    case neg =>
      rw [toks_end (by omega)] at h
      injection h with h
      subst h
      refine ⟨⟨_, _, rfl, by show s.length = a; omega⟩, fun e => absurd rfl e, trivial, ?_⟩
      intro u P f' hu hP hf'
      have hu0 : u.drop P = [] := hu
      have : u.length ≤ P := by rw [← List.drop_eq_nil_iff]; exact hu0
      exact ⟨[], toks_end (by omega), rfl⟩
    cases ho : oneP (s.drop a) with
    | inl e => rw [toks_err hlt ho] at h; cases h
    | inr y =>
      obtain ⟨x, n⟩ := y
      by_cases hk : k = 1024
      · rw [toks_full hlt ho hk] at h; cases h
      · rw [toks_more hlt ho hk] at h
        have hd : s.drop a = s[a] :: s.drop (a + 1) := List.drop_eq_getElem_cons hlt
        have hn : 1 ≤ n ∧ n ≤ (s.drop a).length := by
          rw [hd] at ho ⊢
          exact (one_facts _ _).2 x n ho
        rw [List.length_drop] at hn
        obtain ⟨G, hG⟩ : ∃ G, G = (s.drop (a + n)).take (skS false (s.drop (a + n))) := ⟨_, rfl⟩
        have hsk := sk_le (s.drop (a + n)) false
        have hGl : G.length = skS false (s.drop (a + n)) := by rw [hG, List.length_take]; omega
        rw [List.length_drop] at hsk
        rw [← hGl] at h
        obtain ⟨a', ha'⟩ : ∃ a', a' = a + n + G.length := ⟨_, rfl⟩
        rw [← ha'] at h
        have ha's : a' ≤ s.length := by omega
        have hGS : s.drop (a + n) = G ++ s.drop a' := by
          have e : s.drop a' = (s.drop (a + n)).drop (skS false (s.drop (a + n))) := by rw [List.drop_drop, ha', hGl]
          rw [e, hG]
          exact (List.take_append_drop _ _).symm
        obtain ⟨T, hT⟩ : ∃ T, T = (s.drop a).take n := ⟨_, rfl⟩
        have hTl : T.length = n := by rw [hT, List.length_take, List.length_drop]; omega
        have hTG : s.drop a = T ++ (G ++ s.drop a') := by
          rw [hT, ← hGS, ← List.drop_drop]
          exact (List.take_append_drop _ _).symm
        cases h1 : toksF f s a' (k + 1) with
        | inl z => rw [h1] at h; cases h
        | inr l1 =>
          rw [h1] at h
          injection h with h
          subst h
          obtain ⟨⟨y, r, hy, hya⟩, hne, hasc, ih⟩ := wide_toks s f a' (k + 1) l1 h1 ha's (by omega)
          have hcut : (s.drop a).take (a' - a) = T ++ G := by
            rw [hTG, ← List.append_assoc]
            exact List.take_left' (by rw [List.length_append, hTl]; omega)
          have hwide : wideF s (([⟨x.kd, a, x.t, x.i⟩] ++ l1) ++ [endT s]) = remL ++ ((T ++ G) ++ wideF s (l1 ++ [endT s])) := by
            rw [List.append_assoc, hy]
            show remL ++ ((s.drop a).take (y.at_ - a) ++ wideF s (y :: r)) = _
            rw [hya, hcut]
          refine ⟨⟨_, _, rfl, rfl⟩, fun _ => hlt, ?_, ?_⟩
          · rw [List.append_assoc, hy]
            rw [hy] at hasc
            exact ⟨by rw [hya]; show a < a'; omega, by rw [hya]; exact ha's, hasc⟩
          · intro u P f' hu hP hf'
            obtain ⟨V, hV⟩ : ∃ V, V = wideF s (l1 ++ [endT s]) := ⟨_, rfl⟩
            rw [hwide, ← hV] at hu
            obtain ⟨c, T1, hTc⟩ : ∃ c T1, T = c :: T1 := by
              cases T with
              | nil => simp at hTl; omega
              | cons c T1 => exact ⟨c, T1, rfl⟩
            have hsk0 : skS false ((T ++ G) ++ V) = 0 := by
              rw [hTc]
              rw [hTG, hTc] at ho
              exact tok_start ho
            rw [hu, sk_remL, hsk0]
            have hul : u.length - P = 14 + (n + G.length + V.length) := by
              have := congrArg List.length hu
              rw [List.length_drop] at this
              simp only [List.length_append, remL_len, hTl] at this
              omega
            have hu1 : u.drop (P + (14 + 0)) = T ++ (G ++ V) := by
              rw [← List.drop_drop, hu]
              show List.drop 14 (remL ++ (T ++ G ++ V)) = T ++ (G ++ V)
              rw [List.drop_left' remL_len, List.append_assoc]
            obtain ⟨f1, rfl⟩ : ∃ f1, f' = f1 + 1 := ⟨f' - 1, by omega⟩
            have hV2 : s.drop a' ≠ [] ∨ V = [] := by
              cases l1 with
              | nil => right; rw [hV]; rfl
              | cons z l2 =>
                left
                have := hne (by simp)
                intro e
                rw [List.drop_eq_nil_iff] at e
                omega
            have hstop : stopB (G ++ V) = true := by
              cases G with
              | nil =>
                rw [List.nil_append, hV]
                cases l1 with
                | nil => rfl
                | cons z l2 =>
                  cases l2 <;> rfl
              | cons g G1 =>
                show (blankB g || g == 35) = true
                have : skS false (s.drop (a + n)) ≠ 0 := by rw [← hGl]; simp
                rw [hGS] at this
                exact sk_head this
            have ho2 : oneP (u.drop (P + (14 + 0))) = .inr (x, n) := by
              rw [hu1, ← hTl]
              refine one_ext (X := G ++ s.drop a') ?_ hstop
              rw [← hTG, hTl, ho]
            have hskG : skS false (G ++ V) = G.length + skS false V := sk_app G false (s.drop a') V (by rw [← hGS, hGl]) hV2
            have hu2 : u.drop (P + (14 + 0) + n) = G ++ V := by
              rw [← List.drop_drop, hu1]
              exact List.drop_left' hTl
            have hu3 : u.drop (P + (14 + 0) + n + G.length) = V := by
              rw [← List.drop_drop, hu2]
              exact List.drop_left
            obtain ⟨l', e1, e2⟩ := ih u (P + (14 + 0) + n + G.length) f1 (by rw [hu3, hV]) (by omega) (by omega)
            refine ⟨⟨x.kd, P + (14 + 0), x.t, x.i⟩ :: l', ?_, ?_⟩
            · rw [toks_more (by omega) ho2 hk, hu2, hskG]
              rw [hu3] at e1
              rw [show P + (14 + 0) + n + (G.length + skS false V) = P + (14 + 0) + n + G.length + skS false V by omega, e1]
              rfl
            · rw [List.map_cons, e2]
              rfl
/-- The widened text: the same tokens, or it is too long. -/
theorem wide_same {s : List UInt8} {L : List Tp} (h : toksP s = .inr L) : (∃ l, L = l ++ [endT s]) ∧ ascL s.length L ∧ s.length ≤ 4096 ∧
    ((4096 < (wideF s L).length ∧ toksP (wideF s L) = .inl (5, 4096)) ∨ ∃ M, toksP (wideF s L) = .inr M ∧ M.map strip = L.map strip) := by
  unfold toksP at h
  by_cases hs : 4096 < s.length
  · rw [if_pos hs] at h; cases h
  · rw [if_neg hs] at h
    cases h1 : toksF (s.length + 1) s (skS false s) 0 with
    | inl z => rw [h1] at h; cases h
    | inr l =>
      rw [h1] at h
      injection h with h
      have e : L = l ++ [endT s] := h.symm
      obtain ⟨-, -, hasc, ih⟩ := wide_toks s (s.length + 1) (skS false s) 0 l h1 (sk_le s false) (by omega)
      rw [← e] at hasc ih
      refine ⟨⟨l, e⟩, hasc, by omega, ?_⟩
      by_cases hw : 4096 < (wideF s L).length
      · exact .inl ⟨hw, by unfold toksP; rw [if_pos hw]⟩
      · right
        obtain ⟨l', e1, e2⟩ := ih (wideF s L) 0 ((wideF s L).length + 1) rfl (Nat.zero_le _) (by omega)
        rw [List.drop_zero, Nat.zero_add] at e1
        refine ⟨l' ++ [endT (wideF s L)], ?_, ?_⟩
        · unfold toksP
          rw [if_neg hw, e1]
          rfl
        · rw [e, List.map_append, List.map_append, e2]
          rfl
end Go.Proofs.YtkmhjodnddfkeaaDoor
