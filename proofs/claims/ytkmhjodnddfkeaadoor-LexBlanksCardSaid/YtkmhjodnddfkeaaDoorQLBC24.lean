/- Lex: Tokens. Written by wip/tools/gen16l.py. -/
import Derived.Test.YtkmhjodnddfkeaaDoorQLBC23
namespace Go.Proofs.YtkmhjodnddfkeaaDoor
open Go Go.RowKit
set_option linter.unusedVariables false
set_option linter.unusedSimpArgs false
set_option maxRecDepth 100000
theorem below_grown {w x y : World} {p : Nat} (h : Below p w x) (g : x.grownBy y (some p)) (hp : p ≤ x.heap.size) : Below p w y :=
  ⟨g.os.trans h.os, g.tape.trans h.tape, g.output.trans h.output, Nat.le_trans h.size g.size, fun k hk => (g.block k (by omega) (by simp; omega)).trans (h.block k hk)⟩
theorem tok_parts : ∃ i, Tryd.prog.info? 33 = some i ∧ i.zero = some (.agg #[.int .i64 0, .int .i64 0, .string ⟨#[]⟩, .int .i64 0]) ∧ i.size = 4 ∧ i.bytes = 40 := by
  have h := tok_info
  cases hi : Tryd.prog.info? 33 with
  | none => rw [hi] at h; cases h
  | some i =>
    rw [hi] at h
    simp only [Option.map_some, Option.some.injEq, Prod.mk.injEq] at h
    exact ⟨i, rfl, h.1, h.2.1, h.2.2⟩
set_option maxHeartbeats 4000000 in
theorem tokens_any (s : List UInt8) (w : World) (tab : TabX w) : Calls Tryd.prog 12 #[.string (str s)] w (GivesT w (toksP s)) := by
  obtain ⟨i0, hi, hz0, hz1, hz2⟩ := tok_parts
  have hsz := str_size s
  obtain ⟨R, hR⟩ : ∃ R, R = toksP s := ⟨_, rfl⟩
  rw [← hR]
  obtain ⟨Z, hZ⟩ : ∃ Z, Z = GivesT w R := ⟨_, rfl⟩
  rw [← hZ]
  have HZ := Lib.hid hZ
  have HR := Lib.hid hR
  clear hR hZ
  by_cases hs : s.length ≤ 4096
  case neg =>
    have hs1 : (4096 : Int) < (s.length : Int) := by omega
    go_enter Tryd.func12, Tryd.ntmps12
    go_wp2
    rw [HZ.out, HR.out]
    unfold toksP
    rw [if_pos (by omega)]
    exact ⟨rfl, Below.refl _ _⟩
  have hs1 : ¬ (4096 : Int) < (s.length : Int) := by omega
  have SK := Lib.hid (fun a w' (h : Lx w' w.heap.size s a) ha => skip_any w.heap.size s a w' h ha hs)
  have RE := Lib.hid (fun a w' c r (h : Lx w' w.heap.size s a) hcr => reader_any w.heap.size s a w' h c r hcr)
  have h3 : 3 ≤ w.heap.size := tab.2.1
  have RA := Lib.hid (fun a w' c r (h : Lx w' w.heap.size s a) hcr (t : TabX w') => read_any w.heap.size s a w' h c r hcr hs t h3)
  have TAB := Lib.hid tab
  have l0 : Lx (w.alloc (.cells #[.string (str s), .int .i64 0] 48)) w.heap.size s 0 := heap_alloc_new w _
  have b0 : Below w.heap.size w (w.alloc (.cells #[.string (str s), .int .i64 0] 48)) := (Below.refl w.heap.size w).alloc (Nat.le_refl _) _
  obtain ⟨W0, hW0⟩ : ∃ W, W = w.alloc (.cells #[.string (str s), .int .i64 0] 48) := ⟨_, rfl⟩
  have HW0 := Lib.hid hW0
  rw [← hW0] at l0 b0
  obtain ⟨p, hp⟩ : ∃ p, p = w.heap.size := ⟨_, rfl⟩
  have HP := Lib.hid hp
  rw [← hp] at SK RE RA l0 b0 h3
  clear hW0 tab hp
  go_enter Tryd.func12, Tryd.ntmps12
  go_upto_region 4 with (fail)
  rw [← HW0.out, ← HP.out]
  go_wp2_with ((with_reducible refine (SK.out 0 _ l0 (Nat.zero_le _)).mono ?_); rintro e w1 ⟨rfl, l1, g1⟩)
  have HSK := Lib.hid (show skS false s = 0 + skS false (s.drop 0) by rw [List.drop_zero, Nat.zero_add])
  rw [← HSK.out] at l1
  have b1 := below_grown b0 g1 (by have := b0.size; have := lt_of_block l0; omega)
  have hle : skS false s ≤ s.length := sk_le s false
  obtain ⟨a0, ha0⟩ : ∃ a0, a0 = skS false s := ⟨_, rfl⟩
  rw [← ha0] at l1 hle
  have HA0 := Lib.hid ha0
  clear l0 b0 g1 HSK HW0 ha0
  go_loopw [6] (fun l wr => ∃ (f j : Nat) (xs : List Tp), j ≤ s.length ∧ Hid (s.length < f + j) ∧ Lx wr p s j ∧ xs.length ≤ 1024 ∧ Hid (wr.ownsRow (p + 1) 33 4 l xs.length (xs.flatMap tpC)) ∧ Hid (toksF (s.length + 1) s a0 0 = tkA xs (toksF f s j xs.length)) ∧ Hid (Below p w wr)) (fun _ wr => s.length - atOf p wr)
  case atStart => exact ⟨s.length + 1, a0, [], hle, Lib.hid (by omega), l1, Nat.zero_le _, Lib.hid (World.ownsRow_nil _ _ _ _), Lib.hid (tkA_nil _).symm, Lib.hid b1⟩
  case round =>
    clear l1 b1 hle
    obtain ⟨f, j, xs, hjs, HF, q0, hxs, HOW, HT, HB⟩ := hrel
    have hat := Lib.hid (atOf_lx q0)
    obtain ⟨va, vc, rfl⟩ := own_val HOW.out
    obtain ⟨c0, c1, cf⟩ := block_cells2 q0
    have hlp := lt_of_block q0
    by_cases hlt : j < s.length
    · have h1 : ((j : Int) < (s.length : Int)) := by omega
      have h2 : decide ((j : Int) < (s.length : Int)) = true := decide_eq_true h1
      have hd : s.drop j = s[j] :: s.drop (j + 1) := List.drop_eq_getElem_cons hlt
      obtain ⟨c, hc⟩ : ∃ c, c = s[j] := ⟨_, rfl⟩
      obtain ⟨r, hr⟩ : ∃ r, r = s.drop (j + 1) := ⟨_, rfl⟩
      rw [← hc, ← hr] at hd
      have HD := Lib.hid hd
      have RE1 := Lib.hid (fun w' (h : Lx w' p s j) => RE.out j w' c r h HD.out)
      have RA1 := Lib.hid (fun w' (h : Lx w' p s j) (t : TabX w') => RA.out j w' c r h HD.out t)
      have EG := fn_enters c
      obtain ⟨FN, hFN⟩ : ∃ F, F = fnOf c := ⟨_, rfl⟩
      rw [← hFN] at RE1 RA1 EG
      obtain ⟨of1, of2⟩ := one_facts c r
      rw [← HD.out] at of1 of2
      obtain ⟨f0, rfl⟩ : ∃ f0, f = f0 + 1 := ⟨f - 1, by have := HF.out; omega⟩
      obtain ⟨X, hX⟩ : ∃ X, X = oneP (s.drop j) := ⟨_, rfl⟩
      rw [← hX] at RA1 of1 of2
      clear hc hr hd hFN
      cases X with
      | inl er =>
        have her := of1 er rfl
        have he0 : ((er : Int) == 0) = false := by simp; omega
        have he1 : ((er : Int) != 0) = true := by simp; omega
        have HRR := Lib.hid (show R = .inl (er, j) by rw [HR.out]; unfold toksP; rw [if_neg (by omega), ← HA0.out, HT.out, toks_err hlt hX.symm]; rfl)
        clear of1 of2 hX her
        have hge : ∀ w', Lx w' p s j → TabX w' → Calls Tryd.prog FN #[.pointer (some ⟨p, 0, none⟩)] w' fun e w'' => e = .returned (.tuple #[.agg #[.int .i64 0, .int .i64 0, .string ⟨#[]⟩, .int .i64 0], .int .i64 (er : Int)]) ∧ w'.grownBy w'' (some p) := RA1.out
        have GE := Lib.hid hge
        clear hge RA1
        go_wp2_with (first | ((with_reducible refine (RE1.out _ q0).mono ?_); rintro e w2 ⟨rfl, b2⟩; (have l2 := q0.below b2); (have B2 : Hid (Below p w w2) := Lib.hid (HB.out.trans (b2.mono (Nat.le_of_lt hlp)))); (have T2 : Hid (TabX w2) := Lib.hid (TAB.out.below (HP.out ▸ B2.out)))) | ((with_reducible refine (GE.out _ l2 T2.out).mono ?_); rintro e w3 ⟨rfl, g3⟩))
        rw [HZ.out, HRR.out]
        refine ⟨rfl, ?_⟩
        rw [← HP.out]
        have B3 := below_grown B2.out g3 (Nat.le_of_lt (lt_of_block l2))
        exact B3.alloc (by have := B3.size; have := HP.out; omega) _
      | inr X =>
        obtain ⟨⟨kd, t, iv⟩, n⟩ := X
        obtain ⟨n1, n2⟩ := of2 _ n rfl
        rw [List.length_drop] at n2
        have GE : Hid (∀ w', Lx w' p s j → TabX w' → Calls Tryd.prog FN #[.pointer (some ⟨p, 0, none⟩)] w' fun e w'' => (e = .returned (.tuple #[.agg #[.int .i64 (kd : Int), .int .i64 0, .string (str t), .int .i64 iv], .int .i64 0]) ∧ Lx w'' p s (j + n)) ∧ w'.grownBy w'' (some p)) := Lib.hid RA1.out
        by_cases hfull : xs.length = 1024
        · have HRR := Lib.hid (show R = .inl (5, j) by rw [HR.out]; unfold toksP; rw [if_neg (by omega), ← HA0.out, HT.out, toks_full hlt hX.symm hfull]; rfl)
          have hf1 : ((xs.length : Int) == 1024) = true := by rw [hfull]; rfl
          clear of1 of2 hX RA1 hfull
          go_wp2_with (first | ((with_reducible refine (RE1.out _ q0).mono ?_); rintro e w2 ⟨rfl, b2⟩; (have l2 := q0.below b2); (have B2 : Hid (Below p w w2) := Lib.hid (HB.out.trans (b2.mono (Nat.le_of_lt hlp)))); (have T2 : Hid (TabX w2) := Lib.hid (TAB.out.below (HP.out ▸ B2.out)))) | ((with_reducible refine (GE.out _ l2 T2.out).mono ?_); rintro e w3 ⟨⟨rfl, l3⟩, g3⟩))
          rw [HZ.out, HRR.out]
          refine ⟨rfl, ?_⟩
          rw [← HP.out]
          have B3 := below_grown B2.out g3 (Nat.le_of_lt (lt_of_block l2))
          exact B3.alloc (by have := B3.size; have := HP.out; omega) _
        · have HTM := Lib.hid (toks_more (f := f0) hlt hX.symm hfull)
          have hf1 : ((xs.length : Int) == 1024) = false := by simp; omega
          have hxl : xs.length < 1024 := by omega
          clear of1 of2 hX RA1 hfull
          go_wp2_with (first | ((with_reducible refine (RE1.out _ q0).mono ?_); rintro e w2 ⟨rfl, b2⟩; (have l2 := q0.below b2); (have B2 : Hid (Below p w w2) := Lib.hid (HB.out.trans (b2.mono (Nat.le_of_lt hlp)))); (have T2 : Hid (TabX w2) := Lib.hid (TAB.out.below (HP.out ▸ B2.out)))) | ((with_reducible refine (GE.out _ l2 T2.out).mono ?_); rintro e w3 ⟨⟨rfl, l3⟩, g3⟩); (have own4 : Hid ((w3.alloc (.cells #[.int .i64 (kd : Int), .int .i64 (j : Int), .string (str t), .int .i64 iv] 33)).ownsRow (p + 1) 33 4 (.slice va xs.length vc) xs.length (xs.flatMap tpC)) := Lib.hid (HOW.out.kept (grown_transB (grown_transB (grown_none b2) g3) (grown_none ((Below.refl w3.heap.size w3).alloc (Nat.le_refl _) _))) (.inr (fun e => by have := (HOW.out.lt p e).1; omega)))); (have hs4 : p + 1 ≤ (w3.alloc (.cells #[.int .i64 (kd : Int), .int .i64 (j : Int), .string (str t), .int .i64 iv] 33)).heap.size := by (have hs5 := lt_of_block l3); simp; omega) | (at_builtin; refine wpList_app1g16 (enc := tpC) tpC_len (by decide) _ rfl (.tmp 50) (.tmp 52) 29 rfl (p + 1) 33 i0 (.agg #[.int .i64 0, .int .i64 0, .string ⟨#[]⟩, .int .i64 0]) 40 Tryd.underlying29 hi hz0 hz1 hz2 rfl _ xs rfl own4.out 33 ⟨kd, j, t, iv⟩ _ rfl (Eq.trans (b := Value.slice (some ⟨w3.heap.size + 1, 0, none⟩) 1 1) rfl (by rw [show (w3.alloc (.cells #[.int .i64 (kd : Int), .int .i64 (j : Int), .string (str t), .int .i64 iv] 33)).heap.size = w3.heap.size + 1 by simp])) tpC_one (by unfold maxLen; omega) (by omega) hs4 (Below.refl _ _) ?_; intro v2 w5 own5 bel5 gr5; (have l5 : Lx w5 p s (j + n) := (bel5.block p (Nat.lt_succ_self p)).trans ((heap_alloc_old _ _ (lt_of_block l3)).trans l3))) | ((with_reducible refine (SK.out (j + n) _ l5 (by omega)).mono ?_); rintro e w6 ⟨rfl, l6, g6⟩))
          have hk5 := sk_le (s.drop (j + n)) false
          rw [List.length_drop] at hk5
          have B3 := below_grown B2.out g3 (Nat.le_of_lt (lt_of_block l2))
          have B5 := (B3.alloc (Nat.le_trans (by rw [HP.out]; exact Nat.le_refl _) B3.size) (.cells #[.int .i64 (kd : Int), .int .i64 (j : Int), .string (str t), .int .i64 iv] 33)).trans (bel5.mono (Nat.le_succ p))
          have B6 := below_grown B5 g6 (Nat.le_of_lt (lt_of_block l5))
          refine ⟨⟨f0, j + n + skS false (s.drop (j + n)), xs ++ [⟨kd, j, t, iv⟩], by omega, Lib.hid (by have := HF.out; omega), l6, by rw [List.length_append, List.length_singleton]; omega, Lib.hid (own5.kept g6 (.inr (fun e => by have := (own5.lt p e).1; omega))), Lib.hid ?_, Lib.hid B6⟩, by rw [atOf_lx l6, hat.out]; omega⟩
          rw [HT.out, HTM.out, tkA_tkA, List.length_append]
          rfl
    · have h1 : ¬ ((j : Int) < (s.length : Int)) := by omega
      have h2 : decide ((j : Int) < (s.length : Int)) = false := decide_eq_false h1
      obtain rfl : j = s.length := by omega
      have HRR := Lib.hid (show R = .inr (xs ++ [⟨0, s.length, [], 0⟩]) by rw [HR.out]; unfold toksP; rw [if_neg (by omega), ← HA0.out, HT.out, toks_end (Nat.le_refl _)]; simp [tkA])
      go_wp2_with (at_builtin; refine wpList_app1g16 (enc := tpC) tpC_len (by decide) _ rfl (.tmp 54) (.tmp 58) 29 rfl (p + 1) 33 i0 (.agg #[.int .i64 0, .int .i64 0, .string ⟨#[]⟩, .int .i64 0]) 40 Tryd.underlying29 hi hz0 hz1 hz2 rfl _ xs rfl HOW.out 33 ⟨0, s.length, [], 0⟩ _ rfl rfl tpC_one (by unfold maxLen; omega) (by omega) hlp (Below.refl _ _) ?_; intro v2 w5 own5 bel5 gr5)
      rw [HZ.out, HRR.out]
      refine ⟨⟨_, rfl, own_rdk tpC_len own5, by rw [List.length_append, List.length_singleton]; omega⟩, ?_⟩
      rw [← HP.out]
      exact HB.out.trans (bel5.mono (Nat.le_succ p))
end Go.Proofs.YtkmhjodnddfkeaaDoor
