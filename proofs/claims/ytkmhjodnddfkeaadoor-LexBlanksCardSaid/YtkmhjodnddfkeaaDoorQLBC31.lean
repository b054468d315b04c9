/- Lex: LexBlanks, its walk. Written by wip/tools/gen16y.py. -/
import Derived.Test.YtkmhjodnddfkeaaDoorQLBC30
namespace Go.Proofs.YtkmhjodnddfkeaaDoor
open Go Go.RowKit
set_option linter.unusedVariables false
set_option linter.unusedSimpArgs false
set_option maxRecDepth 100000
theorem blanks_err (s0 s : List UInt8) (e p : Nat) (w : World) (hs : s = s0.take 600) (hT : toksP s = .inl (e, p)) (hm : s0.length ≤ maxLen) (tab : TabX w) : Calls Tryd.prog 6 #[.string (str s0)] w fun e w' => e = .returned (.bool true) ∧ Below w.heap.size w w' := by
  have hsz := str_size s0
  have hm9 : s0.length ≤ 9223372036854775807 := hm
  have AW := Lib.hid (fun w' (t : TabX w') => awake_any w' t)
  have he := toksP_ne hT
  have i1 : ((e : Int) != 0) = true := by simp; omega
  have TK := tokens_any s w tab
  rw [hT] at TK
  have TK1 : Hid (Calls Tryd.prog 12 #[.string (str s)] w fun x w'' => x = .returned (.tuple #[.slice none 0 0, .int .i64 (e : Int), .int .i64 (p : Int)]) ∧ Below w.heap.size w w'') := Lib.hid TK
  have TAB := Lib.hid tab
  clear tab TK he hT
  by_cases h100 : 600 < s0.length
  · have h1 : ((600 : Int) < (s0.length : Int)) := by omega
    have hx : (str s0).extract 0 600 = str s := by rw [str_extract, hs]; rfl
    clear hs h100
    go_enter Tryd.func6, Tryd.ntmps6
    go_wp2_with (first | ((with_reducible refine (TK1.out).mono ?_); rintro e w1 ⟨rfl, b1⟩; (have B1 := Lib.hid b1); (have T1 := Lib.hid (TAB.out.below b1)); clear b1) | ((with_reducible refine (AW.out _ T1.out).mono ?_); rintro e w5 ⟨rfl, b5⟩))
    go_ret
    exact ⟨rfl, B1.out.trans (b5.mono B1.out.size)⟩
  · have h1 : ¬ ((600 : Int) < (s0.length : Int)) := by omega
    obtain rfl : s = s0 := by rw [hs]; exact List.take_of_length_le (by omega)
    clear hs h100
    go_enter Tryd.func6, Tryd.ntmps6
    go_wp2_with (first | ((with_reducible refine (TK1.out).mono ?_); rintro e w1 ⟨rfl, b1⟩; (have B1 := Lib.hid b1); (have T1 := Lib.hid (TAB.out.below b1)); clear b1) | ((with_reducible refine (AW.out _ T1.out).mono ?_); rintro e w5 ⟨rfl, b5⟩))
    go_ret
    exact ⟨rfl, B1.out.trans (b5.mono B1.out.size)⟩
set_option maxHeartbeats 8000000 in
theorem blanks_ok (s0 s : List UInt8) (L : List Tp) (w : World) (hs : s = s0.take 600) (hT : toksP s = .inr L) (hm : s0.length ≤ maxLen) (tab : TabX w) : Calls Tryd.prog 6 #[.string (str s0)] w fun e w' => e = .returned (.bool true) ∧ Below w.heap.size w w' := by
  have hsz0 := str_size s0
  have hsz := str_size s
  have hm9 : s0.length ≤ 9223372036854775807 := hm
  have hs600 : s.length ≤ 600 := by rw [hs]; exact List.length_take_le _ _
  have AW := Lib.hid (fun w' (t : TabX w') => awake_any w' t)
  obtain ⟨⟨l, hl⟩, hasc, -, hwide⟩ := wide_same hT
  obtain ⟨N1, hN1⟩ : ∃ N1, N1 = l.length := ⟨_, rfl⟩
  obtain ⟨N, hN⟩ : ∃ N, N = L.length := ⟨_, rfl⟩
  have hNN : N = N1 + 1 := by rw [hN, hl, List.length_append, List.length_singleton, hN1]
  have hlast : L.getD N1 tp0 = endT s := by rw [hl, hN1]; simp [List.getD]
  have TK := tokens_any s w tab
  rw [hT] at TK
  have hN1025 : N ≤ 1025 ∨ True := .inr trivial
  have TK1 : Hid (Calls Tryd.prog 12 #[.string (str s)] w fun x w'' => (∃ ao cap, x = .returned (.tuple #[.slice ao N cap, .int .i64 0, .int .i64 0]) ∧ Hid (RdK 4 tpC w'' (.slice ao N cap) L) ∧ N ≤ 1025) ∧ Below w.heap.size w w'') := Lib.hid (TK.mono (by
    rintro e w'' ⟨⟨v, rfl, rd, hlen⟩, b⟩
    obtain ⟨ao, cap, rfl, -, -, rd2⟩ := rd.open
    rw [← hN] at rd2 hlen ⊢
    exact ⟨⟨ao, cap, rfl, Lib.hid rd2, hlen⟩, b⟩))
  have TAB := Lib.hid tab
  have HASC := Lib.hid hasc
  have HWIDE := Lib.hid hwide
  have HLN := Lib.hid hN
  have HNN := Lib.hid hNN
  have HLAST := Lib.hid hlast
  have Y0 : (N : Int) - 1 = (N1 : Int) := by rw [hNN]; push_cast; omega
  have hN1N : N1 < N := by omega
  have hNp : ¬ ((N : Int) < 1) := by omega
  have hNpd : decide ((N : Int) < 1) = false := decide_eq_false hNp
  clear tab TK hT hN1025 hwide hasc hN hl hN1 hlast hNN
  by_cases h100 : 600 < s0.length
  case pos =>
    have h1 : ((600 : Int) < (s0.length : Int)) := by omega
    have hx : (str s0).extract 0 600 = str s := by rw [str_extract, hs]; rfl
    clear hs h100
    go_enter Tryd.func6, Tryd.ntmps6
    go_upto_region 6 with ((with_reducible refine (TK1.out).mono ?_); rintro e w1 ⟨⟨ao, cap, rfl, RD, hNb⟩, b1⟩; (have B1 := Lib.hid b1); (have T1 := Lib.hid (TAB.out.below b1)); clear b1)
    obtain ⟨b, off, rfl, hbw, hc⟩ := rd_base RD.out (by rw [← HLN.out]; omega)
    have HCC := Lib.hid hc
    have c0 : w1.cell? ⟨b, off + N1 * 4, none⟩ = some (.int .i64 0) := by have := (hc N1 (by rw [← HLN.out]; exact hN1N)).1; rw [HLAST.out] at this; exact this
    have c1 : w1.cell? ⟨b, off + N1 * 4 + 1, none⟩ = some (.int .i64 (s.length : Int)) := by have := (hc N1 (by rw [← HLN.out]; exact hN1N)).2.1; rw [HLAST.out] at this; exact this
    have c2 : w1.cell? ⟨b, off + N1 * 4 + 2, none⟩ = some (.string ⟨#[]⟩) := by have := (hc N1 (by rw [← HLN.out]; exact hN1N)).2.2.1; rw [HLAST.out] at this; exact this
    have c3 : w1.cell? ⟨b, off + N1 * 4 + 3, none⟩ = some (.int .i64 0) := by have := (hc N1 (by rw [← HLN.out]; exact hN1N)).2.2.2; rw [HLAST.out] at this; exact this
    clear hc
    go_upto_region 8 with fail
    clear c0 c1 c2 c3
    go_wp2_with fail
    clear Y0
    go_loopw [6, 7] (fun wd i wr => ∃ (j : Nat) (A : List UInt8), j ≤ N1 ∧ i = .int .i64 (j : Int) ∧ wd = .string (str A) ∧ A.length ≤ 614 * j ∧ Hid (wideF s L = A ++ wideF s (L.drop j)) ∧ Hid (Below w1.heap.size w1 wr)) (fun _ i _ => N1 - (intOf i).toNat)
    case atStart => exact ⟨0, [], Nat.zero_le _, rfl, rfl, Nat.zero_le _, Lib.hid rfl, Lib.hid (Below.refl _ _)⟩
    case round =>
      obtain ⟨j, A, hj, rfl, rfl, hA, HW, HBX⟩ := hrel
      obtain ⟨O, hO⟩ : ∃ O, O = str A := ⟨_, rfl⟩
      have HO := Lib.hid hO
      rw [← hO]
      have hA2 : A.length ≤ 628736 := by omega
      have hOs : O.size = A.length := by rw [hO, str_size]
      obtain ⟨a1, ha1⟩ : ∃ a1, a1 = j + 1 := ⟨_, rfl⟩
      have Y1 : (j : Int) + 1 = (a1 : Int) := by rw [ha1]; push_cast; rfl
      have Ew : IntKind.i64.wrap (a1 : Int) = (a1 : Int) := by rw [IntKind.wrap_i64]; omega
      have HA1 := Lib.hid ha1
      have hbr : b < wr.heap.size := Nat.lt_of_lt_of_le hbw HBX.out.size
      by_cases hlt : j < N1
      · have h2 : ((a1 : Int) < (N : Int)) := by omega
        have h2d : decide ((a1 : Int) < (N : Int)) = true := decide_eq_true h2
        obtain ⟨hpq, hqs⟩ := asc_at L j HASC.out (by rw [← HLN.out]; omega)
        have hws := wide_step s L j (by rw [← HLN.out]; omega)
        rw [← ha1] at hpq hqs hws
        have c1 : wr.cell? ⟨b, off + j * 4 + 1, none⟩ = some (.int .i64 ((L.getD j tp0).at_ : Int)) := (HBX.out.cell (p := ⟨b, off + j * 4 + 1, none⟩) hbw).trans (HCC.out j (by rw [← HLN.out]; omega)).2.1
        have d1 : wr.cell? ⟨b, off + a1 * 4 + 1, none⟩ = some (.int .i64 ((L.getD a1 tp0).at_ : Int)) := (HBX.out.cell (p := ⟨b, off + a1 * 4 + 1, none⟩) hbw).trans (HCC.out a1 (by rw [← HLN.out]; omega)).2.1
        obtain ⟨p, hp⟩ : ∃ p, p = (L.getD j tp0).at_ := ⟨_, rfl⟩
        obtain ⟨q, hq⟩ : ∃ q, q = (L.getD a1 tp0).at_ := ⟨_, rfl⟩
        rw [← hp, ← hq] at hpq hws
        rw [← hq] at hqs d1
        rw [← hp] at c1
        obtain ⟨t, ht⟩ : ∃ t, t = (s.drop p).take (q - p) := ⟨_, rfl⟩
        have HTT := Lib.hid ht.symm
        have htl : t.length ≤ 600 := by rw [ht, List.length_take, List.length_drop]; omega
        obtain ⟨S1, hS1⟩ : ∃ S1, S1 = (⟨#[32, 35, 32, 97, 32, 114, 101, 109, 97, 114, 107, 32, 10, 9]⟩ : ByteArray) ++ str t := ⟨_, rfl⟩
        have hS1e : S1 = str (remL ++ t) := by rw [hS1]; exact str_append remL t
        have hS1s : S1.size = 14 + t.length := by rw [hS1e, str_size, List.length_append, remL_len]
        have hts : (str t).size = t.length := str_size t
        obtain ⟨O2, hO2⟩ : ∃ O2, O2 = O ++ S1 := ⟨_, rfl⟩
        have HO2 := Lib.hid (show O2 = str (A ++ (remL ++ t)) by rw [hO2, hO, hS1e, str_append])
        have HW2 := Lib.hid (show wideF s L = (A ++ (remL ++ t)) ++ wideF s (L.drop a1) by rw [HW.out, hws, ← ht]; simp only [List.append_assoc])
        have hbw' := hbw
        replace hbw := hbr
        replace hS1 := hS1.symm
        replace hO2 := hO2.symm
        have i1 : ¬ ((p : Int) < 0) := by omega
        have i2 : ¬ ((q : Int) ≤ (p : Int)) := by omega
        have i3 : ¬ ((s.length : Int) < (q : Int)) := by omega
        have i1d : decide ((p : Int) < 0) = false := decide_eq_false i1
        have i2d : decide ((q : Int) ≤ (p : Int)) = false := decide_eq_false i2
        have i2n : decide (q ≤ p) = false := decide_eq_false (by omega)
        have i3n : decide (s.length < q) = false := decide_eq_false (by omega)
        have m1 : ¬ (9223372036854775807 < 14 + t.length) := by omega
        have m2 : ¬ (9223372036854775807 < A.length + (14 + t.length)) := by omega
        have i3d : decide ((s.length : Int) < (q : Int)) = false := decide_eq_false i3
        replace hpq : p ≤ q := by omega
        have haN : a1 ≤ N1 := by omega
        have hjN : j < N := by omega
        have haN2 : a1 < N := by omega
        clear hO ha1 hp hq hws ht hS1e
        go_wp2
        refine g_start (by kernel_rfl) ?_
        refine g_take (i := 0) (d := (some 53)) (v := ?_) rfl rfl (by kernel_rfl) (fun _ _ _ h => h) (by rfl) (fun w' hb' => ?_) ?_
        rotate_left
        · (try go_simp); (try with_reducible rfl)
        try simp only [Act.put, List.setIfInBounds_toArray, List.set_cons_zero, List.set_cons_succ]
        refine g_take (i := 1) (d := (some 54)) (v := ?_) rfl rfl (by kernel_rfl) (fun _ _ _ h => h) (by rfl) (fun w' hb' => ?_) ?_
        rotate_left
        · (try go_simp); (try with_reducible rfl)
        try simp only [Act.put, List.setIfInBounds_toArray, List.set_cons_zero, List.set_cons_succ]
        refine g_take (i := 2) (d := (some 55)) (v := ?_) rfl rfl (by kernel_rfl) (fun _ _ _ h => h) (by rfl) (fun w' hb' => ?_) ?_
        rotate_left
        · (try go_simp); (try with_reducible rfl)
        try simp only [Act.put, List.setIfInBounds_toArray, List.set_cons_zero, List.set_cons_succ]
        refine g_take (i := 3) (d := (some 56)) (v := ?_) rfl rfl (by kernel_rfl) (fun _ _ _ h => h) (by rfl) (fun w' hb' => ?_) ?_
        rotate_left
        · (try go_simp); (try with_reducible rfl)
        try simp only [Act.put, List.setIfInBounds_toArray, List.set_cons_zero, List.set_cons_succ]
        refine g_take (i := 4) (d := (some 57)) (v := ?_) rfl rfl (by kernel_rfl) (fun _ _ _ h => h) (by rfl) (fun w' hb' => ?_) ?_
        rotate_left
        · have z := (hb'.cell (p := ⟨b, off + j * 4 + 1, none⟩) hbw).trans c1; (try go_simp); (try with_reducible rfl)
        try simp only [Act.put, List.setIfInBounds_toArray, List.set_cons_zero, List.set_cons_succ]
        refine g_take (i := 5) (d := (some 58)) (v := ?_) rfl rfl (by kernel_rfl) (fun _ _ _ h => h) (by rfl) (fun w' hb' => ?_) ?_
        rotate_left
        · (try go_simp); (try with_reducible rfl)
        try simp only [Act.put, List.setIfInBounds_toArray, List.set_cons_zero, List.set_cons_succ]
        refine g_take (i := 6) (d := (some 59)) (v := ?_) rfl rfl (by kernel_rfl) (fun _ _ _ h => h) (by rfl) (fun w' hb' => ?_) ?_
        rotate_left
        · (try go_simp); (try with_reducible rfl)
        try simp only [Act.put, List.setIfInBounds_toArray, List.set_cons_zero, List.set_cons_succ]
        refine g_take (i := 7) (d := (some 60)) (v := ?_) rfl rfl (by kernel_rfl) (fun _ _ _ h => h) (by rfl) (fun w' hb' => ?_) ?_
        rotate_left
        · (try go_simp); (try with_reducible rfl)
        try simp only [Act.put, List.setIfInBounds_toArray, List.set_cons_zero, List.set_cons_succ]
        refine g_take (i := 8) (d := (some 61)) (v := ?_) rfl rfl (by kernel_rfl) (fun _ _ _ h => h) (by rfl) (fun w' hb' => ?_) ?_
        rotate_left
        · (try go_simp); (try with_reducible rfl)
        try simp only [Act.put, List.setIfInBounds_toArray, List.set_cons_zero, List.set_cons_succ]
        refine g_take (i := 9) (d := (some 62)) (v := ?_) rfl rfl (by kernel_rfl) (fun _ _ _ h => h) (by rfl) (fun w' hb' => ?_) ?_
        rotate_left
        · (try go_simp); (try with_reducible rfl)
        try simp only [Act.put, List.setIfInBounds_toArray, List.set_cons_zero, List.set_cons_succ]
        refine g_take (i := 10) (d := (some 63)) (v := ?_) rfl rfl (by kernel_rfl) (fun _ _ _ h => h) (by rfl) (fun w' hb' => ?_) ?_
        rotate_left
        · (try go_simp); (try with_reducible rfl)
        try simp only [Act.put, List.setIfInBounds_toArray, List.set_cons_zero, List.set_cons_succ]
        refine g_take (i := 11) (d := (some 64)) (v := ?_) rfl rfl (by kernel_rfl) (fun _ _ _ h => h) (by rfl) (fun w' hb' => ?_) ?_
        rotate_left
        · have z := (hb'.cell (p := ⟨b, off + j * 4 + 1, none⟩) hbw).trans c1; (try go_simp); (try with_reducible rfl)
        try simp only [Act.put, List.setIfInBounds_toArray, List.set_cons_zero, List.set_cons_succ]
        refine g_take (i := 12) (d := (some 65)) (v := ?_) rfl rfl (by kernel_rfl) (fun _ _ _ h => h) (by rfl) (fun w' hb' => ?_) ?_
        rotate_left
        · (try go_simp); (try with_reducible rfl)
        try simp only [Act.put, List.setIfInBounds_toArray, List.set_cons_zero, List.set_cons_succ]
        refine g_take (i := 13) (d := (some 66)) (v := ?_) rfl rfl (by kernel_rfl) (fun _ _ _ h => h) (by rfl) (fun w' hb' => ?_) ?_
        rotate_left
        · (try go_simp); (try with_reducible rfl)
        try simp only [Act.put, List.setIfInBounds_toArray, List.set_cons_zero, List.set_cons_succ]
        refine g_take (i := 14) (d := (some 67)) (v := ?_) rfl rfl (by kernel_rfl) (fun _ _ _ h => h) (by rfl) (fun w' hb' => ?_) ?_
        rotate_left
        · (try go_simp); (try with_reducible rfl)
        try simp only [Act.put, List.setIfInBounds_toArray, List.set_cons_zero, List.set_cons_succ]
        refine g_take (i := 15) (d := (some 68)) (v := ?_) rfl rfl (by kernel_rfl) (fun _ _ _ h => h) (by rfl) (fun w' hb' => ?_) ?_
        rotate_left
        · (try go_simp); (try with_reducible rfl)
        try simp only [Act.put, List.setIfInBounds_toArray, List.set_cons_zero, List.set_cons_succ]
        refine g_take (i := 16) (d := (some 69)) (v := ?_) rfl rfl (by kernel_rfl) (fun _ _ _ h => h) (by rfl) (fun w' hb' => ?_) ?_
        rotate_left
        · (try go_simp); (try with_reducible rfl)
        try simp only [Act.put, List.setIfInBounds_toArray, List.set_cons_zero, List.set_cons_succ]
        refine g_take (i := 17) (d := (some 70)) (v := ?_) rfl rfl (by kernel_rfl) (fun _ _ _ h => h) (by rfl) (fun w' hb' => ?_) ?_
        rotate_left
        · have z := (hb'.cell (p := ⟨b, off + a1 * 4 + 1, none⟩) hbw).trans d1; (try go_simp); (try with_reducible rfl)
        try simp only [Act.put, List.setIfInBounds_toArray, List.set_cons_zero, List.set_cons_succ]
        refine g_take (i := 18) (d := (some 71)) (v := ?_) rfl rfl (by kernel_rfl) (fun _ _ _ h => h) (by rfl) (fun w' hb' => ?_) ?_
        rotate_left
        · (try go_simp); (try with_reducible rfl)
        try simp only [Act.put, List.setIfInBounds_toArray, List.set_cons_zero, List.set_cons_succ]
        refine g_take (i := 19) (d := (some 72)) (v := ?_) rfl rfl (by kernel_rfl) (fun _ _ _ h => h) (by rfl) (fun w' hb' => ?_) ?_
        rotate_left
        · (try go_simp); (try with_reducible rfl)
        try simp only [Act.put, List.setIfInBounds_toArray, List.set_cons_zero, List.set_cons_succ]
        refine g_take (i := 20) (d := (some 73)) (v := ?_) rfl rfl (by kernel_rfl) (fun _ _ _ h => h) (by rfl) (fun w' hb' => ?_) ?_
        rotate_left
        · (try go_simp); (try with_reducible rfl)
        try simp only [Act.put, List.setIfInBounds_toArray, List.set_cons_zero, List.set_cons_succ]
        refine g_take (i := 21) (d := (some 74)) (v := ?_) rfl rfl (by kernel_rfl) (fun _ _ _ h => h) (by rfl) (fun w' hb' => ?_) ?_
        rotate_left
        · (try go_simp); (try with_reducible rfl)
        try simp only [Act.put, List.setIfInBounds_toArray, List.set_cons_zero, List.set_cons_succ]
        refine g_take (i := 22) (d := (some 75)) (v := ?_) rfl rfl (by kernel_rfl) (fun _ _ _ h => h) (by rfl) (fun w' hb' => ?_) ?_
        rotate_left
        · (try go_simp); (try with_reducible rfl)
        try simp only [Act.put, List.setIfInBounds_toArray, List.set_cons_zero, List.set_cons_succ]
        refine g_take (i := 23) (d := (some 76)) (v := ?_) rfl rfl (by kernel_rfl) (fun _ _ _ h => h) (by rfl) (fun w' hb' => ?_) ?_
        rotate_left
        · (try go_simp); (try with_reducible rfl)
        try simp only [Act.put, List.setIfInBounds_toArray, List.set_cons_zero, List.set_cons_succ]
        refine g_take (i := 24) (d := (some 77)) (v := ?_) rfl rfl (by kernel_rfl) (fun _ _ _ h => h) (by rfl) (fun w' hb' => ?_) ?_
        rotate_left
        · (try go_simp); (try with_reducible rfl)
        try simp only [Act.put, List.setIfInBounds_toArray, List.set_cons_zero, List.set_cons_succ]
        refine g_take (i := 25) (d := (some 78)) (v := ?_) rfl rfl (by kernel_rfl) (fun _ _ _ h => h) (by rfl) (fun w' hb' => ?_) ?_
        rotate_left
        · (try go_simp); (try with_reducible rfl)
        try simp only [Act.put, List.setIfInBounds_toArray, List.set_cons_zero, List.set_cons_succ]
        refine g_take (i := 26) (d := (some 79)) (v := ?_) rfl rfl (by kernel_rfl) (fun _ _ _ h => h) (by rfl) (fun w' hb' => ?_) ?_
        rotate_left
        · have z := (hb'.cell (p := ⟨b, off + a1 * 4 + 1, none⟩) hbw).trans d1; (try go_simp); (try with_reducible rfl)
        try simp only [Act.put, List.setIfInBounds_toArray, List.set_cons_zero, List.set_cons_succ]
        refine g_take (i := 27) (d := (some 80)) (v := ?_) rfl rfl (by kernel_rfl) (fun _ _ _ h => h) (by rfl) (fun w' hb' => ?_) ?_
        rotate_left
        · (try go_simp); (try with_reducible rfl)
        try simp only [Act.put, List.setIfInBounds_toArray, List.set_cons_zero, List.set_cons_succ]
        refine g_take (i := 28) (d := (some 81)) (v := ?_) rfl rfl (by kernel_rfl) (fun _ _ _ h => h) (by rfl) (fun w' hb' => ?_) ?_
        rotate_left
        · (try go_simp); (try with_reducible rfl)
        try simp only [Act.put, List.setIfInBounds_toArray, List.set_cons_zero, List.set_cons_succ]
        refine g_take (i := 29) (d := (some 82)) (v := ?_) rfl rfl (by kernel_rfl) (fun _ _ _ h => h) (by rfl) (fun w' hb' => ?_) ?_
        rotate_left
        · (try go_simp); (try with_reducible rfl)
        try simp only [Act.put, List.setIfInBounds_toArray, List.set_cons_zero, List.set_cons_succ]
        refine g_take (i := 30) (d := (some 83)) (v := ?_) rfl rfl (by kernel_rfl) (fun _ _ _ h => h) (by rfl) (fun w' hb' => ?_) ?_
        rotate_left
        · (try go_simp); (try with_reducible rfl)
        try simp only [Act.put, List.setIfInBounds_toArray, List.set_cons_zero, List.set_cons_succ]
        refine g_done (by kernel_rfl) ?_
        obtain ⟨W3, hW3⟩ : ∃ W, W = wr.drew := ⟨_, rfl⟩
        replace hbw : b < W3.heap.size := by rw [hW3]; exact hbw
        replace c1 : W3.cell? ⟨b, off + j * 4 + 1, none⟩ = some (.int .i64 (p : Int)) := by rw [hW3]; exact c1
        replace d1 : W3.cell? ⟨b, off + a1 * 4 + 1, none⟩ = some (.int .i64 (q : Int)) := by rw [hW3]; exact d1
        have BW3 : Hid (Below w1.heap.size w1 W3) := Lib.hid (by rw [hW3]; exact Below.drew HBX.out)
        replace HBX := BW3
        rw [← hW3]
        clear hW3
        go_wp2_with fail
        refine g_start (by kernel_rfl) ?_
        refine g_take (i := 0) (d := (some 84)) (v := ?_) rfl rfl (by kernel_rfl) (fun _ _ _ h => h) (by rfl) (fun w' hb' => ?_) ?_
        rotate_left
        · (try go_simp); (try with_reducible rfl)
        try simp only [Act.put, List.setIfInBounds_toArray, List.set_cons_zero, List.set_cons_succ]
        refine g_take (i := 1) (d := (some 85)) (v := ?_) rfl rfl (by kernel_rfl) (fun _ _ _ h => h) (by rfl) (fun w' hb' => ?_) ?_
        rotate_left
        · (try go_simp); (try with_reducible rfl)
        try simp only [Act.put, List.setIfInBounds_toArray, List.set_cons_zero, List.set_cons_succ]
        refine g_take (i := 2) (d := (some 86)) (v := ?_) rfl rfl (by kernel_rfl) (fun _ _ _ h => h) (by rfl) (fun w' hb' => ?_) ?_
        rotate_left
        · (try go_simp); (try with_reducible rfl)
        try simp only [Act.put, List.setIfInBounds_toArray, List.set_cons_zero, List.set_cons_succ]
        refine g_take (i := 3) (d := (some 87)) (v := ?_) rfl rfl (by kernel_rfl) (fun _ _ _ h => h) (by rfl) (fun w' hb' => ?_) ?_
        rotate_left
        · (try go_simp); (try with_reducible rfl)
        try simp only [Act.put, List.setIfInBounds_toArray, List.set_cons_zero, List.set_cons_succ]
        refine g_take (i := 4) (d := (some 88)) (v := ?_) rfl rfl (by kernel_rfl) (fun _ _ _ h => h) (by rfl) (fun w' hb' => ?_) ?_
        rotate_left
        · (try go_simp); (try with_reducible rfl)
        try simp only [Act.put, List.setIfInBounds_toArray, List.set_cons_zero, List.set_cons_succ]
        refine g_take (i := 5) (d := (some 89)) (v := ?_) rfl rfl (by kernel_rfl) (fun _ _ _ h => h) (by rfl) (fun w' hb' => ?_) ?_
        rotate_left
        · (try go_simp); (try with_reducible rfl)
        try simp only [Act.put, List.setIfInBounds_toArray, List.set_cons_zero, List.set_cons_succ]
        refine g_take (i := 6) (d := (some 90)) (v := ?_) rfl rfl (by kernel_rfl) (fun _ _ _ h => h) (by rfl) (fun w' hb' => ?_) ?_
        rotate_left
        · have z := (hb'.cell (p := ⟨b, off + j * 4 + 1, none⟩) hbw).trans c1; (try go_simp); (try with_reducible rfl)
        try simp only [Act.put, List.setIfInBounds_toArray, List.set_cons_zero, List.set_cons_succ]
        refine g_take (i := 7) (d := (some 91)) (v := ?_) rfl rfl (by kernel_rfl) (fun _ _ _ h => h) (by rfl) (fun w' hb' => ?_) ?_
        rotate_left
        · (try go_simp); (try with_reducible rfl)
        try simp only [Act.put, List.setIfInBounds_toArray, List.set_cons_zero, List.set_cons_succ]
        refine g_take (i := 8) (d := (some 92)) (v := ?_) rfl rfl (by kernel_rfl) (fun _ _ _ h => h) (by rfl) (fun w' hb' => ?_) ?_
        rotate_left
        · (try go_simp); (try with_reducible rfl)
        try simp only [Act.put, List.setIfInBounds_toArray, List.set_cons_zero, List.set_cons_succ]
        refine g_take (i := 9) (d := (some 93)) (v := ?_) rfl rfl (by kernel_rfl) (fun _ _ _ h => h) (by rfl) (fun w' hb' => ?_) ?_
        rotate_left
        · (try go_simp); (try with_reducible rfl)
        try simp only [Act.put, List.setIfInBounds_toArray, List.set_cons_zero, List.set_cons_succ]
        refine g_take (i := 10) (d := (some 94)) (v := ?_) rfl rfl (by kernel_rfl) (fun _ _ _ h => h) (by rfl) (fun w' hb' => ?_) ?_
        rotate_left
        · (try go_simp); (try with_reducible rfl)
        try simp only [Act.put, List.setIfInBounds_toArray, List.set_cons_zero, List.set_cons_succ]
        refine g_take (i := 11) (d := (some 95)) (v := ?_) rfl rfl (by kernel_rfl) (fun _ _ _ h => h) (by rfl) (fun w' hb' => ?_) ?_
        rotate_left
        · (try go_simp); (try with_reducible rfl)
        try simp only [Act.put, List.setIfInBounds_toArray, List.set_cons_zero, List.set_cons_succ]
        refine g_take (i := 12) (d := (some 96)) (v := ?_) rfl rfl (by kernel_rfl) (fun _ _ _ h => h) (by rfl) (fun w' hb' => ?_) ?_
        rotate_left
        · have z := (hb'.cell (p := ⟨b, off + a1 * 4 + 1, none⟩) hbw).trans d1; (try go_simp); (try with_reducible rfl)
        try simp only [Act.put, List.setIfInBounds_toArray, List.set_cons_zero, List.set_cons_succ]
        refine g_take (i := 13) (d := (some 97)) (v := ?_) rfl rfl (by kernel_rfl) (fun _ _ _ h => h) (by rfl) (fun w' hb' => ?_) ?_
        rotate_left
        · refine str_slice2_op 9 (.tmp 85) (.tmp 90) (.tmp 96) ?_ s p q _ _ rfl rfl ?_ ?_ ?_ hpq hqs t HTT.out ?_ <;> rfl; (try go_simp); (try with_reducible rfl)
        try simp only [Act.put, List.setIfInBounds_toArray, List.set_cons_zero, List.set_cons_succ]
        refine g_take (i := 14) (d := (some 98)) (v := ?_) rfl rfl (by kernel_rfl) (fun _ _ _ h => h) (by rfl) (fun w' hb' => ?_) ?_
        rotate_left
        · (try go_simp); (try with_reducible rfl)
        try simp only [Act.put, List.setIfInBounds_toArray, List.set_cons_zero, List.set_cons_succ]
        refine g_take (i := 15) (d := (some 99)) (v := ?_) rfl rfl (by kernel_rfl) (fun _ _ _ h => h) (by rfl) (fun w' hb' => ?_) ?_
        rotate_left
        · (try go_simp); (try with_reducible rfl)
        try simp only [Act.put, List.setIfInBounds_toArray, List.set_cons_zero, List.set_cons_succ]
        refine g_take (i := 16) (d := (some 6)) (v := ?_) rfl rfl (by kernel_rfl) (fun _ _ _ h => h) (by rfl) (fun w' hb' => ?_) ?_
        rotate_left
        · (try go_simp); (try with_reducible rfl)
        try simp only [Act.put, List.setIfInBounds_toArray, List.set_cons_zero, List.set_cons_succ]
        refine g_done (by kernel_rfl) ?_
        obtain ⟨W4, hW4⟩ : ∃ W, W = W3.drew := ⟨_, rfl⟩
        replace hbw : b < W4.heap.size := by rw [hW4]; exact hbw
        replace c1 : W4.cell? ⟨b, off + j * 4 + 1, none⟩ = some (.int .i64 (p : Int)) := by rw [hW4]; exact c1
        replace d1 : W4.cell? ⟨b, off + a1 * 4 + 1, none⟩ = some (.int .i64 (q : Int)) := by rw [hW4]; exact d1
        have BW4 : Hid (Below w1.heap.size w1 W4) := Lib.hid (by rw [hW4]; exact Below.drew HBX.out)
        replace HBX := BW4
        rw [← hW4]
        clear hW4
        go_wp2_with fail
        exact ⟨⟨a1, A ++ (remL ++ t), haN, rfl, by rw [HO2.out], by have := HA1.out; rw [List.length_append, List.length_append, remL_len]; omega, HW2, HBX⟩, by have := HA1.out; simp [intOf]; omega⟩
      · have h2 : ¬ ((a1 : Int) < (N : Int)) := by have := HNN.out; omega
        have h2d : decide ((a1 : Int) < (N : Int)) = false := decide_eq_false h2
        have hAW : A = wideF s L := by
          rw [HW.out, wide_end s L j (by rw [← HLN.out, HNN.out]; omega), List.append_nil]
        have TW : Hid (TabX wr) := Lib.hid (T1.out.below HBX.out)
        have TK2 := tokens_any A wr TW.out
        rw [← hO] at TK2
        have hwide := HWIDE.out
        rw [← hAW] at hwide
        clear hO ha1 hAW
        rcases hwide with ⟨hbig, hM⟩ | ⟨M, hM, hMS⟩
        · rw [hM] at TK2
          have TK3 : Hid (Calls Tryd.prog 12 #[.string O] wr fun x w'' => x = .returned (.tuple #[.slice none 0 0, .int .i64 5, .int .i64 4096]) ∧ Below wr.heap.size wr w'') := Lib.hid TK2
          have i4 : ((4096 : Int) < (A.length : Int)) := by omega
          clear TK2 hM hbig
          go_wp2_with (first | ((with_reducible refine (TK3.out).mono ?_); rintro e w2 ⟨rfl, b2⟩; (have B2 := Lib.hid b2); (have T2 := Lib.hid (TW.out.below b2)); clear b2) | ((with_reducible refine (AW.out _ T2.out).mono ?_); rintro e w5 ⟨rfl, b5⟩))
          (try go_ret)
          exact ⟨rfl, (B1.out.trans (HBX.out.mono B1.out.size)).trans ((B2.out.trans (b5.mono B2.out.size)).mono (Nat.le_trans B1.out.size HBX.out.size))⟩
        · rw [hM] at TK2
          obtain ⟨hML, hMA⟩ := strip_at hMS
          rw [← HLN.out] at hML
          have HMA := Lib.hid hMA
          have HML := Lib.hid hML
          have TK3 : Hid (Calls Tryd.prog 12 #[.string O] wr fun x w'' => (∃ ao2 cap2, x = .returned (.tuple #[.slice ao2 N cap2, .int .i64 0, .int .i64 0]) ∧ Hid (RdK 4 tpC w'' (.slice ao2 N cap2) M)) ∧ Below wr.heap.size wr w'') := Lib.hid (TK2.mono (by
            rintro e w'' ⟨⟨v, rfl, rd, hlen⟩, bb⟩
            obtain ⟨ao2, cap2, rfl, -, -, rd2⟩ := rd.open
            rw [hML] at rd2 ⊢
            exact ⟨⟨ao2, cap2, rfl, Lib.hid rd2⟩, bb⟩))
          clear TK2 hM hMS hML hMA
          go_wp2_with ((with_reducible refine (TK3.out).mono ?_); rintro e w2 ⟨⟨ao2, cap2, rfl, RD2⟩, b2⟩; (have B2 := Lib.hid b2); (have T2 := Lib.hid (TW.out.below b2)); clear b2)
          obtain ⟨b2, off2, rfl, hbw2, hc2⟩ := rd_base RD2.out (by rw [HML.out]; omega)
          have HC2 := Lib.hid hc2
          have W12 : Hid (Below w1.heap.size w1 w2) := Lib.hid (HBX.out.trans (B2.out.mono HBX.out.size))
          clear hc2 RD2
          go_loopw [11] (fun i wr => ∃ j : Nat, j ≤ N ∧ i = .int .i64 (j : Int) ∧ Hid (Below w2.heap.size w2 wr)) (fun i _ => N - (intOf i).toNat)
          case atStart => exact ⟨0, Nat.zero_le _, rfl, Lib.hid (Below.refl _ _)⟩
          case round =>
            obtain ⟨m, hmN, rfl, HB4⟩ := hrel
            have W14 : Hid (Below w1.heap.size w1 wr) := Lib.hid (W12.out.trans (HB4.out.mono W12.out.size))
            by_cases hmlt : m < N
            · have h5 : ((m : Int) < (N : Int)) := by omega
              have h5d : decide ((m : Int) < (N : Int)) = true := decide_eq_true h5
              obtain ⟨e0, -, e2, e3⟩ := HCC.out m (by rw [← HLN.out]; exact hmlt)
              obtain ⟨f0, -, f2, f3⟩ := HC2.out m (by rw [HML.out]; exact hmlt)
              obtain ⟨g0, g2, g3⟩ := HMA.out m
              rw [g0] at f0
              rw [g2] at f2
              rw [g3] at f3
              replace e0 := (W14.out.cell (p := ⟨b, off + m * 4, none⟩) hbw).trans e0
              replace e2 := (W14.out.cell (p := ⟨b, off + m * 4 + 2, none⟩) hbw).trans e2
              replace e3 := (W14.out.cell (p := ⟨b, off + m * 4 + 3, none⟩) hbw).trans e3
              replace f0 := (HB4.out.cell (p := ⟨b2, off2 + m * 4, none⟩) hbw2).trans f0
              replace f2 := (HB4.out.cell (p := ⟨b2, off2 + m * 4 + 2, none⟩) hbw2).trans f2
              replace f3 := (HB4.out.cell (p := ⟨b2, off2 + m * 4 + 3, none⟩) hbw2).trans f3
              obtain ⟨kd, hkd⟩ : ∃ k, k = (L.getD m tp0).kd := ⟨_, rfl⟩
              obtain ⟨T, hT⟩ : ∃ T, T = str (L.getD m tp0).t := ⟨_, rfl⟩
              obtain ⟨iv, hiv⟩ : ∃ i, i = (L.getD m tp0).i := ⟨_, rfl⟩
              rw [← hkd] at e0 f0
              rw [← hT] at e2 f2
              rw [← hiv] at e3 f3
              have hbx : b < wr.heap.size := Nat.lt_of_lt_of_le hbw W14.out.size
              have hbx2 : b2 < wr.heap.size := Nat.lt_of_lt_of_le hbw2 HB4.out.size
              have tt : (T.toList == T.toList) = true := by simp
              clear g0 g2 g3 hkd hT hiv
              go_wp2
              refine g_start (by kernel_rfl) ?_
              refine g_take (i := 0) (d := (some 131)) (v := ?_) rfl rfl (by kernel_rfl) (fun _ _ _ h => h) (by rfl) (fun w' hb' => ?_) ?_
              rotate_left
              · (try go_simp); (try with_reducible rfl)
              try simp only [Act.put, List.setIfInBounds_toArray, List.set_cons_zero, List.set_cons_succ]
              refine g_take (i := 1) (d := (some 132)) (v := ?_) rfl rfl (by kernel_rfl) (fun _ _ _ h => h) (by rfl) (fun w' hb' => ?_) ?_
              rotate_left
              · (try go_simp); (try with_reducible rfl)
              try simp only [Act.put, List.setIfInBounds_toArray, List.set_cons_zero, List.set_cons_succ]
              refine g_take (i := 2) (d := (some 133)) (v := ?_) rfl rfl (by kernel_rfl) (fun _ _ _ h => h) (by rfl) (fun w' hb' => ?_) ?_
              rotate_left
              · (try go_simp); (try with_reducible rfl)
              try simp only [Act.put, List.setIfInBounds_toArray, List.set_cons_zero, List.set_cons_succ]
              refine g_take (i := 3) (d := (some 134)) (v := ?_) rfl rfl (by kernel_rfl) (fun _ _ _ h => h) (by rfl) (fun w' hb' => ?_) ?_
              rotate_left
              · (try go_simp); (try with_reducible rfl)
              try simp only [Act.put, List.setIfInBounds_toArray, List.set_cons_zero, List.set_cons_succ]
              refine g_take (i := 4) (d := (some 135)) (v := ?_) rfl rfl (by kernel_rfl) (fun _ _ _ h => h) (by rfl) (fun w' hb' => ?_) ?_
              rotate_left
              · have z := (hb'.cell (p := ⟨b, off + m * 4, none⟩) hbx).trans e0; (try go_simp); (try with_reducible rfl)
              try simp only [Act.put, List.setIfInBounds_toArray, List.set_cons_zero, List.set_cons_succ]
              refine g_take (i := 5) (d := (some 136)) (v := ?_) rfl rfl (by kernel_rfl) (fun _ _ _ h => h) (by rfl) (fun w' hb' => ?_) ?_
              rotate_left
              · (try go_simp); (try with_reducible rfl)
              try simp only [Act.put, List.setIfInBounds_toArray, List.set_cons_zero, List.set_cons_succ]
              refine g_take (i := 6) (d := (some 137)) (v := ?_) rfl rfl (by kernel_rfl) (fun _ _ _ h => h) (by rfl) (fun w' hb' => ?_) ?_
              rotate_left
              · (try go_simp); (try with_reducible rfl)
              try simp only [Act.put, List.setIfInBounds_toArray, List.set_cons_zero, List.set_cons_succ]
              refine g_take (i := 7) (d := (some 138)) (v := ?_) rfl rfl (by kernel_rfl) (fun _ _ _ h => h) (by rfl) (fun w' hb' => ?_) ?_
              rotate_left
              · (try go_simp); (try with_reducible rfl)
              try simp only [Act.put, List.setIfInBounds_toArray, List.set_cons_zero, List.set_cons_succ]
              refine g_take (i := 8) (d := (some 139)) (v := ?_) rfl rfl (by kernel_rfl) (fun _ _ _ h => h) (by rfl) (fun w' hb' => ?_) ?_
              rotate_left
              · (try go_simp); (try with_reducible rfl)
              try simp only [Act.put, List.setIfInBounds_toArray, List.set_cons_zero, List.set_cons_succ]
              refine g_take (i := 9) (d := (some 140)) (v := ?_) rfl rfl (by kernel_rfl) (fun _ _ _ h => h) (by rfl) (fun w' hb' => ?_) ?_
              rotate_left
              · have z := (hb'.cell (p := ⟨b2, off2 + m * 4, none⟩) hbx2).trans f0; (try go_simp); (try with_reducible rfl)
              try simp only [Act.put, List.setIfInBounds_toArray, List.set_cons_zero, List.set_cons_succ]
              refine g_take (i := 10) (d := (some 141)) (v := ?_) rfl rfl (by kernel_rfl) (fun _ _ _ h => h) (by rfl) (fun w' hb' => ?_) ?_
              rotate_left
              · (try go_simp); (try with_reducible rfl)
              try simp only [Act.put, List.setIfInBounds_toArray, List.set_cons_zero, List.set_cons_succ]
              refine g_take (i := 11) (d := (some 142)) (v := ?_) rfl rfl (by kernel_rfl) (fun _ _ _ h => h) (by rfl) (fun w' hb' => ?_) ?_
              rotate_left
              · (try go_simp); (try with_reducible rfl)
              try simp only [Act.put, List.setIfInBounds_toArray, List.set_cons_zero, List.set_cons_succ]
              refine g_take (i := 12) (d := (some 143)) (v := ?_) rfl rfl (by kernel_rfl) (fun _ _ _ h => h) (by rfl) (fun w' hb' => ?_) ?_
              rotate_left
              · (try go_simp); (try with_reducible rfl)
              try simp only [Act.put, List.setIfInBounds_toArray, List.set_cons_zero, List.set_cons_succ]
              refine g_take (i := 13) (d := (some 144)) (v := ?_) rfl rfl (by kernel_rfl) (fun _ _ _ h => h) (by rfl) (fun w' hb' => ?_) ?_
              rotate_left
              · (try go_simp); (try with_reducible rfl)
              try simp only [Act.put, List.setIfInBounds_toArray, List.set_cons_zero, List.set_cons_succ]
              refine g_take (i := 14) (d := (some 145)) (v := ?_) rfl rfl (by kernel_rfl) (fun _ _ _ h => h) (by rfl) (fun w' hb' => ?_) ?_
              rotate_left
              · (try go_simp); (try with_reducible rfl)
              try simp only [Act.put, List.setIfInBounds_toArray, List.set_cons_zero, List.set_cons_succ]
              refine g_take (i := 15) (d := (some 146)) (v := ?_) rfl rfl (by kernel_rfl) (fun _ _ _ h => h) (by rfl) (fun w' hb' => ?_) ?_
              rotate_left
              · (try go_simp); (try with_reducible rfl)
              try simp only [Act.put, List.setIfInBounds_toArray, List.set_cons_zero, List.set_cons_succ]
              refine g_take (i := 16) (d := (some 147)) (v := ?_) rfl rfl (by kernel_rfl) (fun _ _ _ h => h) (by rfl) (fun w' hb' => ?_) ?_
              rotate_left
              · have z := (hb'.cell (p := ⟨b, off + m * 4 + 2, none⟩) hbx).trans e2; (try go_simp); (try with_reducible rfl)
              try simp only [Act.put, List.setIfInBounds_toArray, List.set_cons_zero, List.set_cons_succ]
              refine g_take (i := 17) (d := (some 148)) (v := ?_) rfl rfl (by kernel_rfl) (fun _ _ _ h => h) (by rfl) (fun w' hb' => ?_) ?_
              rotate_left
              · (try go_simp); (try with_reducible rfl)
              try simp only [Act.put, List.setIfInBounds_toArray, List.set_cons_zero, List.set_cons_succ]
              refine g_take (i := 18) (d := (some 149)) (v := ?_) rfl rfl (by kernel_rfl) (fun _ _ _ h => h) (by rfl) (fun w' hb' => ?_) ?_
              rotate_left
              · (try go_simp); (try with_reducible rfl)
              try simp only [Act.put, List.setIfInBounds_toArray, List.set_cons_zero, List.set_cons_succ]
              refine g_take (i := 19) (d := (some 150)) (v := ?_) rfl rfl (by kernel_rfl) (fun _ _ _ h => h) (by rfl) (fun w' hb' => ?_) ?_
              rotate_left
              · (try go_simp); (try with_reducible rfl)
              try simp only [Act.put, List.setIfInBounds_toArray, List.set_cons_zero, List.set_cons_succ]
              refine g_take (i := 20) (d := (some 151)) (v := ?_) rfl rfl (by kernel_rfl) (fun _ _ _ h => h) (by rfl) (fun w' hb' => ?_) ?_
              rotate_left
              · (try go_simp); (try with_reducible rfl)
              try simp only [Act.put, List.setIfInBounds_toArray, List.set_cons_zero, List.set_cons_succ]
              refine g_take (i := 21) (d := (some 152)) (v := ?_) rfl rfl (by kernel_rfl) (fun _ _ _ h => h) (by rfl) (fun w' hb' => ?_) ?_
              rotate_left
              · have z := (hb'.cell (p := ⟨b2, off2 + m * 4 + 2, none⟩) hbx2).trans f2; (try go_simp); (try with_reducible rfl)
              try simp only [Act.put, List.setIfInBounds_toArray, List.set_cons_zero, List.set_cons_succ]
              refine g_take (i := 22) (d := (some 153)) (v := ?_) rfl rfl (by kernel_rfl) (fun _ _ _ h => h) (by rfl) (fun w' hb' => ?_) ?_
              rotate_left
              · (try go_simp); (try with_reducible rfl)
              try simp only [Act.put, List.setIfInBounds_toArray, List.set_cons_zero, List.set_cons_succ]
              refine g_take (i := 23) (d := (some 154)) (v := ?_) rfl rfl (by kernel_rfl) (fun _ _ _ h => h) (by rfl) (fun w' hb' => ?_) ?_
              rotate_left
              · (try go_simp); (try with_reducible rfl)
              try simp only [Act.put, List.setIfInBounds_toArray, List.set_cons_zero, List.set_cons_succ]
              refine g_take (i := 24) (d := (some 155)) (v := ?_) rfl rfl (by kernel_rfl) (fun _ _ _ h => h) (by rfl) (fun w' hb' => ?_) ?_
              rotate_left
              · (try go_simp); (try with_reducible rfl)
              try simp only [Act.put, List.setIfInBounds_toArray, List.set_cons_zero, List.set_cons_succ]
              refine g_take (i := 25) (d := (some 156)) (v := ?_) rfl rfl (by kernel_rfl) (fun _ _ _ h => h) (by rfl) (fun w' hb' => ?_) ?_
              rotate_left
              · (try go_simp); (try with_reducible rfl)
              try simp only [Act.put, List.setIfInBounds_toArray, List.set_cons_zero, List.set_cons_succ]
              refine g_take (i := 26) (d := (some 157)) (v := ?_) rfl rfl (by kernel_rfl) (fun _ _ _ h => h) (by rfl) (fun w' hb' => ?_) ?_
              rotate_left
              · (try go_simp); (try with_reducible rfl)
              try simp only [Act.put, List.setIfInBounds_toArray, List.set_cons_zero, List.set_cons_succ]
              refine g_take (i := 27) (d := (some 158)) (v := ?_) rfl rfl (by kernel_rfl) (fun _ _ _ h => h) (by rfl) (fun w' hb' => ?_) ?_
              rotate_left
              · (try go_simp); (try with_reducible rfl)
              try simp only [Act.put, List.setIfInBounds_toArray, List.set_cons_zero, List.set_cons_succ]
              refine g_take (i := 28) (d := (some 159)) (v := ?_) rfl rfl (by kernel_rfl) (fun _ _ _ h => h) (by rfl) (fun w' hb' => ?_) ?_
              rotate_left
              · (try go_simp); (try with_reducible rfl)
              try simp only [Act.put, List.setIfInBounds_toArray, List.set_cons_zero, List.set_cons_succ]
              refine g_take (i := 29) (d := (some 160)) (v := ?_) rfl rfl (by kernel_rfl) (fun _ _ _ h => h) (by rfl) (fun w' hb' => ?_) ?_
              rotate_left
              · have z := (hb'.cell (p := ⟨b, off + m * 4 + 3, none⟩) hbx).trans e3; (try go_simp); (try with_reducible rfl)
              try simp only [Act.put, List.setIfInBounds_toArray, List.set_cons_zero, List.set_cons_succ]
              refine g_take (i := 30) (d := (some 161)) (v := ?_) rfl rfl (by kernel_rfl) (fun _ _ _ h => h) (by rfl) (fun w' hb' => ?_) ?_
              rotate_left
              · (try go_simp); (try with_reducible rfl)
              try simp only [Act.put, List.setIfInBounds_toArray, List.set_cons_zero, List.set_cons_succ]
              refine g_take (i := 31) (d := (some 162)) (v := ?_) rfl rfl (by kernel_rfl) (fun _ _ _ h => h) (by rfl) (fun w' hb' => ?_) ?_
              rotate_left
              · (try go_simp); (try with_reducible rfl)
              try simp only [Act.put, List.setIfInBounds_toArray, List.set_cons_zero, List.set_cons_succ]
              refine g_take (i := 32) (d := (some 163)) (v := ?_) rfl rfl (by kernel_rfl) (fun _ _ _ h => h) (by rfl) (fun w' hb' => ?_) ?_
              rotate_left
              · (try go_simp); (try with_reducible rfl)
              try simp only [Act.put, List.setIfInBounds_toArray, List.set_cons_zero, List.set_cons_succ]
              refine g_take (i := 33) (d := (some 164)) (v := ?_) rfl rfl (by kernel_rfl) (fun _ _ _ h => h) (by rfl) (fun w' hb' => ?_) ?_
              rotate_left
              · (try go_simp); (try with_reducible rfl)
              try simp only [Act.put, List.setIfInBounds_toArray, List.set_cons_zero, List.set_cons_succ]
              refine g_take (i := 34) (d := (some 165)) (v := ?_) rfl rfl (by kernel_rfl) (fun _ _ _ h => h) (by rfl) (fun w' hb' => ?_) ?_
              rotate_left
              · have z := (hb'.cell (p := ⟨b2, off2 + m * 4 + 3, none⟩) hbx2).trans f3; (try go_simp); (try with_reducible rfl)
              try simp only [Act.put, List.setIfInBounds_toArray, List.set_cons_zero, List.set_cons_succ]
              refine g_take (i := 35) (d := (some 166)) (v := ?_) rfl rfl (by kernel_rfl) (fun _ _ _ h => h) (by rfl) (fun w' hb' => ?_) ?_
              rotate_left
              · (try go_simp); (try with_reducible rfl)
              try simp only [Act.put, List.setIfInBounds_toArray, List.set_cons_zero, List.set_cons_succ]
              refine g_take (i := 36) (d := (some 167)) (v := ?_) rfl rfl (by kernel_rfl) (fun _ _ _ h => h) (by rfl) (fun w' hb' => ?_) ?_
              rotate_left
              · (try go_simp); (try with_reducible rfl)
              try simp only [Act.put, List.setIfInBounds_toArray, List.set_cons_zero, List.set_cons_succ]
              refine g_done (by kernel_rfl) ?_
              obtain ⟨W5, hW5⟩ : ∃ W, W = wr.drew := ⟨_, rfl⟩
              have HB5 : Hid (Below w2.heap.size w2 W5) := Lib.hid (by rw [hW5]; exact Below.drew HB4.out)
              rw [← hW5]
              clear hW5
              go_wp2_with fail
              exact ⟨⟨m + 1, by omega, by push_cast; rfl, HB5⟩, by simp [intOf]; omega⟩
            · have h5 : ¬ ((m : Int) < (N : Int)) := by omega
              have h5d : decide ((m : Int) < (N : Int)) = false := decide_eq_false h5
              have T4 : Hid (TabX wr) := Lib.hid (T2.out.below HB4.out)
              go_wp2_with ((with_reducible refine (AW.out _ T4.out).mono ?_); rintro e w6 ⟨rfl, b6⟩)
              (try go_ret)
              exact ⟨rfl, (B1.out.trans (W14.out.mono B1.out.size)).trans (b6.mono (Nat.le_trans B1.out.size W14.out.size))⟩
  case neg =>
    have h1 : ¬ ((600 : Int) < (s0.length : Int)) := by omega
    obtain rfl : s = s0 := by rw [hs]; exact List.take_of_length_le (by omega)
    clear hs h100 hsz0
    go_enter Tryd.func6, Tryd.ntmps6
    go_upto_region 6 with ((with_reducible refine (TK1.out).mono ?_); rintro e w1 ⟨⟨ao, cap, rfl, RD, hNb⟩, b1⟩; (have B1 := Lib.hid b1); (have T1 := Lib.hid (TAB.out.below b1)); clear b1)
    obtain ⟨b, off, rfl, hbw, hc⟩ := rd_base RD.out (by rw [← HLN.out]; omega)
    have HCC := Lib.hid hc
    have c0 : w1.cell? ⟨b, off + N1 * 4, none⟩ = some (.int .i64 0) := by have := (hc N1 (by rw [← HLN.out]; exact hN1N)).1; rw [HLAST.out] at this; exact this
    have c1 : w1.cell? ⟨b, off + N1 * 4 + 1, none⟩ = some (.int .i64 (s.length : Int)) := by have := (hc N1 (by rw [← HLN.out]; exact hN1N)).2.1; rw [HLAST.out] at this; exact this
    have c2 : w1.cell? ⟨b, off + N1 * 4 + 2, none⟩ = some (.string ⟨#[]⟩) := by have := (hc N1 (by rw [← HLN.out]; exact hN1N)).2.2.1; rw [HLAST.out] at this; exact this
    have c3 : w1.cell? ⟨b, off + N1 * 4 + 3, none⟩ = some (.int .i64 0) := by have := (hc N1 (by rw [← HLN.out]; exact hN1N)).2.2.2; rw [HLAST.out] at this; exact this
    clear hc
    go_upto_region 8 with fail
    clear c0 c1 c2 c3
    go_wp2_with fail
    clear Y0
    go_loopw [6, 7] (fun wd i wr => ∃ (j : Nat) (A : List UInt8), j ≤ N1 ∧ i = .int .i64 (j : Int) ∧ wd = .string (str A) ∧ A.length ≤ 614 * j ∧ Hid (wideF s L = A ++ wideF s (L.drop j)) ∧ Hid (Below w1.heap.size w1 wr)) (fun _ i _ => N1 - (intOf i).toNat)
    case atStart => exact ⟨0, [], Nat.zero_le _, rfl, rfl, Nat.zero_le _, Lib.hid rfl, Lib.hid (Below.refl _ _)⟩
    case round =>
      obtain ⟨j, A, hj, rfl, rfl, hA, HW, HBX⟩ := hrel
      obtain ⟨O, hO⟩ : ∃ O, O = str A := ⟨_, rfl⟩
      have HO := Lib.hid hO
      rw [← hO]
      have hA2 : A.length ≤ 628736 := by omega
      have hOs : O.size = A.length := by rw [hO, str_size]
      obtain ⟨a1, ha1⟩ : ∃ a1, a1 = j + 1 := ⟨_, rfl⟩
      have Y1 : (j : Int) + 1 = (a1 : Int) := by rw [ha1]; push_cast; rfl
      have Ew : IntKind.i64.wrap (a1 : Int) = (a1 : Int) := by rw [IntKind.wrap_i64]; omega
      have HA1 := Lib.hid ha1
      have hbr : b < wr.heap.size := Nat.lt_of_lt_of_le hbw HBX.out.size
      by_cases hlt : j < N1
      · have h2 : ((a1 : Int) < (N : Int)) := by omega
        have h2d : decide ((a1 : Int) < (N : Int)) = true := decide_eq_true h2
        obtain ⟨hpq, hqs⟩ := asc_at L j HASC.out (by rw [← HLN.out]; omega)
        have hws := wide_step s L j (by rw [← HLN.out]; omega)
        rw [← ha1] at hpq hqs hws
        have c1 : wr.cell? ⟨b, off + j * 4 + 1, none⟩ = some (.int .i64 ((L.getD j tp0).at_ : Int)) := (HBX.out.cell (p := ⟨b, off + j * 4 + 1, none⟩) hbw).trans (HCC.out j (by rw [← HLN.out]; omega)).2.1
        have d1 : wr.cell? ⟨b, off + a1 * 4 + 1, none⟩ = some (.int .i64 ((L.getD a1 tp0).at_ : Int)) := (HBX.out.cell (p := ⟨b, off + a1 * 4 + 1, none⟩) hbw).trans (HCC.out a1 (by rw [← HLN.out]; omega)).2.1
        obtain ⟨p, hp⟩ : ∃ p, p = (L.getD j tp0).at_ := ⟨_, rfl⟩
        obtain ⟨q, hq⟩ : ∃ q, q = (L.getD a1 tp0).at_ := ⟨_, rfl⟩
        rw [← hp, ← hq] at hpq hws
        rw [← hq] at hqs d1
        rw [← hp] at c1
        obtain ⟨t, ht⟩ : ∃ t, t = (s.drop p).take (q - p) := ⟨_, rfl⟩
        have HTT := Lib.hid ht.symm
        have htl : t.length ≤ 600 := by rw [ht, List.length_take, List.length_drop]; omega
        obtain ⟨S1, hS1⟩ : ∃ S1, S1 = (⟨#[32, 35, 32, 97, 32, 114, 101, 109, 97, 114, 107, 32, 10, 9]⟩ : ByteArray) ++ str t := ⟨_, rfl⟩
        have hS1e : S1 = str (remL ++ t) := by rw [hS1]; exact str_append remL t
        have hS1s : S1.size = 14 + t.length := by rw [hS1e, str_size, List.length_append, remL_len]
        have hts : (str t).size = t.length := str_size t
        obtain ⟨O2, hO2⟩ : ∃ O2, O2 = O ++ S1 := ⟨_, rfl⟩
        have HO2 := Lib.hid (show O2 = str (A ++ (remL ++ t)) by rw [hO2, hO, hS1e, str_append])
        have HW2 := Lib.hid (show wideF s L = (A ++ (remL ++ t)) ++ wideF s (L.drop a1) by rw [HW.out, hws, ← ht]; simp only [List.append_assoc])
        have hbw' := hbw
        replace hbw := hbr
        replace hS1 := hS1.symm
        replace hO2 := hO2.symm
        have i1 : ¬ ((p : Int) < 0) := by omega
        have i2 : ¬ ((q : Int) ≤ (p : Int)) := by omega
        have i3 : ¬ ((s.length : Int) < (q : Int)) := by omega
        have i1d : decide ((p : Int) < 0) = false := decide_eq_false i1
        have i2d : decide ((q : Int) ≤ (p : Int)) = false := decide_eq_false i2
        have i2n : decide (q ≤ p) = false := decide_eq_false (by omega)
        have i3n : decide (s.length < q) = false := decide_eq_false (by omega)
        have m1 : ¬ (9223372036854775807 < 14 + t.length) := by omega
        have m2 : ¬ (9223372036854775807 < A.length + (14 + t.length)) := by omega
        have i3d : decide ((s.length : Int) < (q : Int)) = false := decide_eq_false i3
        replace hpq : p ≤ q := by omega
        have haN : a1 ≤ N1 := by omega
        have hjN : j < N := by omega
        have haN2 : a1 < N := by omega
        clear hO ha1 hp hq hws ht hS1e
        go_wp2
        refine g_start (by kernel_rfl) ?_
        refine g_take (i := 0) (d := (some 53)) (v := ?_) rfl rfl (by kernel_rfl) (fun _ _ _ h => h) (by rfl) (fun w' hb' => ?_) ?_
        rotate_left
        · (try go_simp); (try with_reducible rfl)
        try simp only [Act.put, List.setIfInBounds_toArray, List.set_cons_zero, List.set_cons_succ]
        refine g_take (i := 1) (d := (some 54)) (v := ?_) rfl rfl (by kernel_rfl) (fun _ _ _ h => h) (by rfl) (fun w' hb' => ?_) ?_
        rotate_left
        · (try go_simp); (try with_reducible rfl)
        try simp only [Act.put, List.setIfInBounds_toArray, List.set_cons_zero, List.set_cons_succ]
        refine g_take (i := 2) (d := (some 55)) (v := ?_) rfl rfl (by kernel_rfl) (fun _ _ _ h => h) (by rfl) (fun w' hb' => ?_) ?_
        rotate_left
        · (try go_simp); (try with_reducible rfl)
        try simp only [Act.put, List.setIfInBounds_toArray, List.set_cons_zero, List.set_cons_succ]
        refine g_take (i := 3) (d := (some 56)) (v := ?_) rfl rfl (by kernel_rfl) (fun _ _ _ h => h) (by rfl) (fun w' hb' => ?_) ?_
        rotate_left
        · (try go_simp); (try with_reducible rfl)
        try simp only [Act.put, List.setIfInBounds_toArray, List.set_cons_zero, List.set_cons_succ]
        refine g_take (i := 4) (d := (some 57)) (v := ?_) rfl rfl (by kernel_rfl) (fun _ _ _ h => h) (by rfl) (fun w' hb' => ?_) ?_
        rotate_left
        · have z := (hb'.cell (p := ⟨b, off + j * 4 + 1, none⟩) hbw).trans c1; (try go_simp); (try with_reducible rfl)
        try simp only [Act.put, List.setIfInBounds_toArray, List.set_cons_zero, List.set_cons_succ]
        refine g_take (i := 5) (d := (some 58)) (v := ?_) rfl rfl (by kernel_rfl) (fun _ _ _ h => h) (by rfl) (fun w' hb' => ?_) ?_
        rotate_left
        · (try go_simp); (try with_reducible rfl)
        try simp only [Act.put, List.setIfInBounds_toArray, List.set_cons_zero, List.set_cons_succ]
        refine g_take (i := 6) (d := (some 59)) (v := ?_) rfl rfl (by kernel_rfl) (fun _ _ _ h => h) (by rfl) (fun w' hb' => ?_) ?_
        rotate_left
        · (try go_simp); (try with_reducible rfl)
        try simp only [Act.put, List.setIfInBounds_toArray, List.set_cons_zero, List.set_cons_succ]
        refine g_take (i := 7) (d := (some 60)) (v := ?_) rfl rfl (by kernel_rfl) (fun _ _ _ h => h) (by rfl) (fun w' hb' => ?_) ?_
        rotate_left
        · (try go_simp); (try with_reducible rfl)
        try simp only [Act.put, List.setIfInBounds_toArray, List.set_cons_zero, List.set_cons_succ]
        refine g_take (i := 8) (d := (some 61)) (v := ?_) rfl rfl (by kernel_rfl) (fun _ _ _ h => h) (by rfl) (fun w' hb' => ?_) ?_
        rotate_left
        · (try go_simp); (try with_reducible rfl)
        try simp only [Act.put, List.setIfInBounds_toArray, List.set_cons_zero, List.set_cons_succ]
        refine g_take (i := 9) (d := (some 62)) (v := ?_) rfl rfl (by kernel_rfl) (fun _ _ _ h => h) (by rfl) (fun w' hb' => ?_) ?_
        rotate_left
        · (try go_simp); (try with_reducible rfl)
        try simp only [Act.put, List.setIfInBounds_toArray, List.set_cons_zero, List.set_cons_succ]
        refine g_take (i := 10) (d := (some 63)) (v := ?_) rfl rfl (by kernel_rfl) (fun _ _ _ h => h) (by rfl) (fun w' hb' => ?_) ?_
        rotate_left
        · (try go_simp); (try with_reducible rfl)
        try simp only [Act.put, List.setIfInBounds_toArray, List.set_cons_zero, List.set_cons_succ]
        refine g_take (i := 11) (d := (some 64)) (v := ?_) rfl rfl (by kernel_rfl) (fun _ _ _ h => h) (by rfl) (fun w' hb' => ?_) ?_
        rotate_left
        · have z := (hb'.cell (p := ⟨b, off + j * 4 + 1, none⟩) hbw).trans c1; (try go_simp); (try with_reducible rfl)
        try simp only [Act.put, List.setIfInBounds_toArray, List.set_cons_zero, List.set_cons_succ]
        refine g_take (i := 12) (d := (some 65)) (v := ?_) rfl rfl (by kernel_rfl) (fun _ _ _ h => h) (by rfl) (fun w' hb' => ?_) ?_
        rotate_left
        · (try go_simp); (try with_reducible rfl)
        try simp only [Act.put, List.setIfInBounds_toArray, List.set_cons_zero, List.set_cons_succ]
        refine g_take (i := 13) (d := (some 66)) (v := ?_) rfl rfl (by kernel_rfl) (fun _ _ _ h => h) (by rfl) (fun w' hb' => ?_) ?_
        rotate_left
        · (try go_simp); (try with_reducible rfl)
        try simp only [Act.put, List.setIfInBounds_toArray, List.set_cons_zero, List.set_cons_succ]
        refine g_take (i := 14) (d := (some 67)) (v := ?_) rfl rfl (by kernel_rfl) (fun _ _ _ h => h) (by rfl) (fun w' hb' => ?_) ?_
        rotate_left
        · (try go_simp); (try with_reducible rfl)
        try simp only [Act.put, List.setIfInBounds_toArray, List.set_cons_zero, List.set_cons_succ]
        refine g_take (i := 15) (d := (some 68)) (v := ?_) rfl rfl (by kernel_rfl) (fun _ _ _ h => h) (by rfl) (fun w' hb' => ?_) ?_
        rotate_left
        · (try go_simp); (try with_reducible rfl)
        try simp only [Act.put, List.setIfInBounds_toArray, List.set_cons_zero, List.set_cons_succ]
        refine g_take (i := 16) (d := (some 69)) (v := ?_) rfl rfl (by kernel_rfl) (fun _ _ _ h => h) (by rfl) (fun w' hb' => ?_) ?_
        rotate_left
        · (try go_simp); (try with_reducible rfl)
        try simp only [Act.put, List.setIfInBounds_toArray, List.set_cons_zero, List.set_cons_succ]
        refine g_take (i := 17) (d := (some 70)) (v := ?_) rfl rfl (by kernel_rfl) (fun _ _ _ h => h) (by rfl) (fun w' hb' => ?_) ?_
        rotate_left
        · have z := (hb'.cell (p := ⟨b, off + a1 * 4 + 1, none⟩) hbw).trans d1; (try go_simp); (try with_reducible rfl)
        try simp only [Act.put, List.setIfInBounds_toArray, List.set_cons_zero, List.set_cons_succ]
        refine g_take (i := 18) (d := (some 71)) (v := ?_) rfl rfl (by kernel_rfl) (fun _ _ _ h => h) (by rfl) (fun w' hb' => ?_) ?_
        rotate_left
        · (try go_simp); (try with_reducible rfl)
        try simp only [Act.put, List.setIfInBounds_toArray, List.set_cons_zero, List.set_cons_succ]
        refine g_take (i := 19) (d := (some 72)) (v := ?_) rfl rfl (by kernel_rfl) (fun _ _ _ h => h) (by rfl) (fun w' hb' => ?_) ?_
        rotate_left
        · (try go_simp); (try with_reducible rfl)
        try simp only [Act.put, List.setIfInBounds_toArray, List.set_cons_zero, List.set_cons_succ]
        refine g_take (i := 20) (d := (some 73)) (v := ?_) rfl rfl (by kernel_rfl) (fun _ _ _ h => h) (by rfl) (fun w' hb' => ?_) ?_
        rotate_left
        · (try go_simp); (try with_reducible rfl)
        try simp only [Act.put, List.setIfInBounds_toArray, List.set_cons_zero, List.set_cons_succ]
        refine g_take (i := 21) (d := (some 74)) (v := ?_) rfl rfl (by kernel_rfl) (fun _ _ _ h => h) (by rfl) (fun w' hb' => ?_) ?_
        rotate_left
        · (try go_simp); (try with_reducible rfl)
        try simp only [Act.put, List.setIfInBounds_toArray, List.set_cons_zero, List.set_cons_succ]
        refine g_take (i := 22) (d := (some 75)) (v := ?_) rfl rfl (by kernel_rfl) (fun _ _ _ h => h) (by rfl) (fun w' hb' => ?_) ?_
        rotate_left
        · (try go_simp); (try with_reducible rfl)
        try simp only [Act.put, List.setIfInBounds_toArray, List.set_cons_zero, List.set_cons_succ]
        refine g_take (i := 23) (d := (some 76)) (v := ?_) rfl rfl (by kernel_rfl) (fun _ _ _ h => h) (by rfl) (fun w' hb' => ?_) ?_
        rotate_left
        · (try go_simp); (try with_reducible rfl)
        try simp only [Act.put, List.setIfInBounds_toArray, List.set_cons_zero, List.set_cons_succ]
        refine g_take (i := 24) (d := (some 77)) (v := ?_) rfl rfl (by kernel_rfl) (fun _ _ _ h => h) (by rfl) (fun w' hb' => ?_) ?_
        rotate_left
        · (try go_simp); (try with_reducible rfl)
        try simp only [Act.put, List.setIfInBounds_toArray, List.set_cons_zero, List.set_cons_succ]
        refine g_take (i := 25) (d := (some 78)) (v := ?_) rfl rfl (by kernel_rfl) (fun _ _ _ h => h) (by rfl) (fun w' hb' => ?_) ?_
        rotate_left
        · (try go_simp); (try with_reducible rfl)
        try simp only [Act.put, List.setIfInBounds_toArray, List.set_cons_zero, List.set_cons_succ]
        refine g_take (i := 26) (d := (some 79)) (v := ?_) rfl rfl (by kernel_rfl) (fun _ _ _ h => h) (by rfl) (fun w' hb' => ?_) ?_
        rotate_left
        · have z := (hb'.cell (p := ⟨b, off + a1 * 4 + 1, none⟩) hbw).trans d1; (try go_simp); (try with_reducible rfl)
        try simp only [Act.put, List.setIfInBounds_toArray, List.set_cons_zero, List.set_cons_succ]
        refine g_take (i := 27) (d := (some 80)) (v := ?_) rfl rfl (by kernel_rfl) (fun _ _ _ h => h) (by rfl) (fun w' hb' => ?_) ?_
        rotate_left
        · (try go_simp); (try with_reducible rfl)
        try simp only [Act.put, List.setIfInBounds_toArray, List.set_cons_zero, List.set_cons_succ]
        refine g_take (i := 28) (d := (some 81)) (v := ?_) rfl rfl (by kernel_rfl) (fun _ _ _ h => h) (by rfl) (fun w' hb' => ?_) ?_
        rotate_left
        · (try go_simp); (try with_reducible rfl)
        try simp only [Act.put, List.setIfInBounds_toArray, List.set_cons_zero, List.set_cons_succ]
        refine g_take (i := 29) (d := (some 82)) (v := ?_) rfl rfl (by kernel_rfl) (fun _ _ _ h => h) (by rfl) (fun w' hb' => ?_) ?_
        rotate_left
        · (try go_simp); (try with_reducible rfl)
        try simp only [Act.put, List.setIfInBounds_toArray, List.set_cons_zero, List.set_cons_succ]
        refine g_take (i := 30) (d := (some 83)) (v := ?_) rfl rfl (by kernel_rfl) (fun _ _ _ h => h) (by rfl) (fun w' hb' => ?_) ?_
        rotate_left
        · (try go_simp); (try with_reducible rfl)
        try simp only [Act.put, List.setIfInBounds_toArray, List.set_cons_zero, List.set_cons_succ]
        refine g_done (by kernel_rfl) ?_
        obtain ⟨W3, hW3⟩ : ∃ W, W = wr.drew := ⟨_, rfl⟩
        replace hbw : b < W3.heap.size := by rw [hW3]; exact hbw
        replace c1 : W3.cell? ⟨b, off + j * 4 + 1, none⟩ = some (.int .i64 (p : Int)) := by rw [hW3]; exact c1
        replace d1 : W3.cell? ⟨b, off + a1 * 4 + 1, none⟩ = some (.int .i64 (q : Int)) := by rw [hW3]; exact d1
        have BW3 : Hid (Below w1.heap.size w1 W3) := Lib.hid (by rw [hW3]; exact Below.drew HBX.out)
        replace HBX := BW3
        rw [← hW3]
        clear hW3
        go_wp2_with fail
        refine g_start (by kernel_rfl) ?_
        refine g_take (i := 0) (d := (some 84)) (v := ?_) rfl rfl (by kernel_rfl) (fun _ _ _ h => h) (by rfl) (fun w' hb' => ?_) ?_
        rotate_left
        · (try go_simp); (try with_reducible rfl)
        try simp only [Act.put, List.setIfInBounds_toArray, List.set_cons_zero, List.set_cons_succ]
        refine g_take (i := 1) (d := (some 85)) (v := ?_) rfl rfl (by kernel_rfl) (fun _ _ _ h => h) (by rfl) (fun w' hb' => ?_) ?_
        rotate_left
        · (try go_simp); (try with_reducible rfl)
        try simp only [Act.put, List.setIfInBounds_toArray, List.set_cons_zero, List.set_cons_succ]
        refine g_take (i := 2) (d := (some 86)) (v := ?_) rfl rfl (by kernel_rfl) (fun _ _ _ h => h) (by rfl) (fun w' hb' => ?_) ?_
        rotate_left
        · (try go_simp); (try with_reducible rfl)
        try simp only [Act.put, List.setIfInBounds_toArray, List.set_cons_zero, List.set_cons_succ]
        refine g_take (i := 3) (d := (some 87)) (v := ?_) rfl rfl (by kernel_rfl) (fun _ _ _ h => h) (by rfl) (fun w' hb' => ?_) ?_
        rotate_left
        · (try go_simp); (try with_reducible rfl)
        try simp only [Act.put, List.setIfInBounds_toArray, List.set_cons_zero, List.set_cons_succ]
        refine g_take (i := 4) (d := (some 88)) (v := ?_) rfl rfl (by kernel_rfl) (fun _ _ _ h => h) (by rfl) (fun w' hb' => ?_) ?_
        rotate_left
        · (try go_simp); (try with_reducible rfl)
        try simp only [Act.put, List.setIfInBounds_toArray, List.set_cons_zero, List.set_cons_succ]
        refine g_take (i := 5) (d := (some 89)) (v := ?_) rfl rfl (by kernel_rfl) (fun _ _ _ h => h) (by rfl) (fun w' hb' => ?_) ?_
        rotate_left
        · (try go_simp); (try with_reducible rfl)
        try simp only [Act.put, List.setIfInBounds_toArray, List.set_cons_zero, List.set_cons_succ]
        refine g_take (i := 6) (d := (some 90)) (v := ?_) rfl rfl (by kernel_rfl) (fun _ _ _ h => h) (by rfl) (fun w' hb' => ?_) ?_
        rotate_left
        · have z := (hb'.cell (p := ⟨b, off + j * 4 + 1, none⟩) hbw).trans c1; (try go_simp); (try with_reducible rfl)
        try simp only [Act.put, List.setIfInBounds_toArray, List.set_cons_zero, List.set_cons_succ]
        refine g_take (i := 7) (d := (some 91)) (v := ?_) rfl rfl (by kernel_rfl) (fun _ _ _ h => h) (by rfl) (fun w' hb' => ?_) ?_
        rotate_left
        · (try go_simp); (try with_reducible rfl)
        try simp only [Act.put, List.setIfInBounds_toArray, List.set_cons_zero, List.set_cons_succ]
        refine g_take (i := 8) (d := (some 92)) (v := ?_) rfl rfl (by kernel_rfl) (fun _ _ _ h => h) (by rfl) (fun w' hb' => ?_) ?_
        rotate_left
        · (try go_simp); (try with_reducible rfl)
        try simp only [Act.put, List.setIfInBounds_toArray, List.set_cons_zero, List.set_cons_succ]
        refine g_take (i := 9) (d := (some 93)) (v := ?_) rfl rfl (by kernel_rfl) (fun _ _ _ h => h) (by rfl) (fun w' hb' => ?_) ?_
        rotate_left
        · (try go_simp); (try with_reducible rfl)
        try simp only [Act.put, List.setIfInBounds_toArray, List.set_cons_zero, List.set_cons_succ]
        refine g_take (i := 10) (d := (some 94)) (v := ?_) rfl rfl (by kernel_rfl) (fun _ _ _ h => h) (by rfl) (fun w' hb' => ?_) ?_
        rotate_left
        · (try go_simp); (try with_reducible rfl)
        try simp only [Act.put, List.setIfInBounds_toArray, List.set_cons_zero, List.set_cons_succ]
        refine g_take (i := 11) (d := (some 95)) (v := ?_) rfl rfl (by kernel_rfl) (fun _ _ _ h => h) (by rfl) (fun w' hb' => ?_) ?_
        rotate_left
        · (try go_simp); (try with_reducible rfl)
        try simp only [Act.put, List.setIfInBounds_toArray, List.set_cons_zero, List.set_cons_succ]
        refine g_take (i := 12) (d := (some 96)) (v := ?_) rfl rfl (by kernel_rfl) (fun _ _ _ h => h) (by rfl) (fun w' hb' => ?_) ?_
        rotate_left
        · have z := (hb'.cell (p := ⟨b, off + a1 * 4 + 1, none⟩) hbw).trans d1; (try go_simp); (try with_reducible rfl)
        try simp only [Act.put, List.setIfInBounds_toArray, List.set_cons_zero, List.set_cons_succ]
        refine g_take (i := 13) (d := (some 97)) (v := ?_) rfl rfl (by kernel_rfl) (fun _ _ _ h => h) (by rfl) (fun w' hb' => ?_) ?_
        rotate_left
        · refine str_slice2_op 9 (.tmp 85) (.tmp 90) (.tmp 96) ?_ s p q _ _ rfl rfl ?_ ?_ ?_ hpq hqs t HTT.out ?_ <;> rfl; (try go_simp); (try with_reducible rfl)
        try simp only [Act.put, List.setIfInBounds_toArray, List.set_cons_zero, List.set_cons_succ]
        refine g_take (i := 14) (d := (some 98)) (v := ?_) rfl rfl (by kernel_rfl) (fun _ _ _ h => h) (by rfl) (fun w' hb' => ?_) ?_
        rotate_left
        · (try go_simp); (try with_reducible rfl)
        try simp only [Act.put, List.setIfInBounds_toArray, List.set_cons_zero, List.set_cons_succ]
        refine g_take (i := 15) (d := (some 99)) (v := ?_) rfl rfl (by kernel_rfl) (fun _ _ _ h => h) (by rfl) (fun w' hb' => ?_) ?_
        rotate_left
        · (try go_simp); (try with_reducible rfl)
        try simp only [Act.put, List.setIfInBounds_toArray, List.set_cons_zero, List.set_cons_succ]
        refine g_take (i := 16) (d := (some 6)) (v := ?_) rfl rfl (by kernel_rfl) (fun _ _ _ h => h) (by rfl) (fun w' hb' => ?_) ?_
        rotate_left
        · (try go_simp); (try with_reducible rfl)
        try simp only [Act.put, List.setIfInBounds_toArray, List.set_cons_zero, List.set_cons_succ]
        refine g_done (by kernel_rfl) ?_
        obtain ⟨W4, hW4⟩ : ∃ W, W = W3.drew := ⟨_, rfl⟩
        replace hbw : b < W4.heap.size := by rw [hW4]; exact hbw
        replace c1 : W4.cell? ⟨b, off + j * 4 + 1, none⟩ = some (.int .i64 (p : Int)) := by rw [hW4]; exact c1
        replace d1 : W4.cell? ⟨b, off + a1 * 4 + 1, none⟩ = some (.int .i64 (q : Int)) := by rw [hW4]; exact d1
        have BW4 : Hid (Below w1.heap.size w1 W4) := Lib.hid (by rw [hW4]; exact Below.drew HBX.out)
        replace HBX := BW4
        rw [← hW4]
        clear hW4
        go_wp2_with fail
        exact ⟨⟨a1, A ++ (remL ++ t), haN, rfl, by rw [HO2.out], by have := HA1.out; rw [List.length_append, List.length_append, remL_len]; omega, HW2, HBX⟩, by have := HA1.out; simp [intOf]; omega⟩
      · have h2 : ¬ ((a1 : Int) < (N : Int)) := by have := HNN.out; omega
        have h2d : decide ((a1 : Int) < (N : Int)) = false := decide_eq_false h2
        have hAW : A = wideF s L := by
          rw [HW.out, wide_end s L j (by rw [← HLN.out, HNN.out]; omega), List.append_nil]
        have TW : Hid (TabX wr) := Lib.hid (T1.out.below HBX.out)
        have TK2 := tokens_any A wr TW.out
        rw [← hO] at TK2
        have hwide := HWIDE.out
        rw [← hAW] at hwide
        clear hO ha1 hAW
        rcases hwide with ⟨hbig, hM⟩ | ⟨M, hM, hMS⟩
        · rw [hM] at TK2
          have TK3 : Hid (Calls Tryd.prog 12 #[.string O] wr fun x w'' => x = .returned (.tuple #[.slice none 0 0, .int .i64 5, .int .i64 4096]) ∧ Below wr.heap.size wr w'') := Lib.hid TK2
          have i4 : ((4096 : Int) < (A.length : Int)) := by omega
          clear TK2 hM hbig
          go_wp2_with (first | ((with_reducible refine (TK3.out).mono ?_); rintro e w2 ⟨rfl, b2⟩; (have B2 := Lib.hid b2); (have T2 := Lib.hid (TW.out.below b2)); clear b2) | ((with_reducible refine (AW.out _ T2.out).mono ?_); rintro e w5 ⟨rfl, b5⟩))
          (try go_ret)
          exact ⟨rfl, (B1.out.trans (HBX.out.mono B1.out.size)).trans ((B2.out.trans (b5.mono B2.out.size)).mono (Nat.le_trans B1.out.size HBX.out.size))⟩
        · rw [hM] at TK2
          obtain ⟨hML, hMA⟩ := strip_at hMS
          rw [← HLN.out] at hML
          have HMA := Lib.hid hMA
          have HML := Lib.hid hML
          have TK3 : Hid (Calls Tryd.prog 12 #[.string O] wr fun x w'' => (∃ ao2 cap2, x = .returned (.tuple #[.slice ao2 N cap2, .int .i64 0, .int .i64 0]) ∧ Hid (RdK 4 tpC w'' (.slice ao2 N cap2) M)) ∧ Below wr.heap.size wr w'') := Lib.hid (TK2.mono (by
            rintro e w'' ⟨⟨v, rfl, rd, hlen⟩, bb⟩
            obtain ⟨ao2, cap2, rfl, -, -, rd2⟩ := rd.open
            rw [hML] at rd2 ⊢
            exact ⟨⟨ao2, cap2, rfl, Lib.hid rd2⟩, bb⟩))
          clear TK2 hM hMS hML hMA
          go_wp2_with ((with_reducible refine (TK3.out).mono ?_); rintro e w2 ⟨⟨ao2, cap2, rfl, RD2⟩, b2⟩; (have B2 := Lib.hid b2); (have T2 := Lib.hid (TW.out.below b2)); clear b2)
          obtain ⟨b2, off2, rfl, hbw2, hc2⟩ := rd_base RD2.out (by rw [HML.out]; omega)
          have HC2 := Lib.hid hc2
          have W12 : Hid (Below w1.heap.size w1 w2) := Lib.hid (HBX.out.trans (B2.out.mono HBX.out.size))
          clear hc2 RD2
          go_loopw [11] (fun i wr => ∃ j : Nat, j ≤ N ∧ i = .int .i64 (j : Int) ∧ Hid (Below w2.heap.size w2 wr)) (fun i _ => N - (intOf i).toNat)
          case atStart => exact ⟨0, Nat.zero_le _, rfl, Lib.hid (Below.refl _ _)⟩
          case round =>
            obtain ⟨m, hmN, rfl, HB4⟩ := hrel
            have W14 : Hid (Below w1.heap.size w1 wr) := Lib.hid (W12.out.trans (HB4.out.mono W12.out.size))
            by_cases hmlt : m < N
            · have h5 : ((m : Int) < (N : Int)) := by omega
              have h5d : decide ((m : Int) < (N : Int)) = true := decide_eq_true h5
              obtain ⟨e0, -, e2, e3⟩ := HCC.out m (by rw [← HLN.out]; exact hmlt)
              obtain ⟨f0, -, f2, f3⟩ := HC2.out m (by rw [HML.out]; exact hmlt)
              obtain ⟨g0, g2, g3⟩ := HMA.out m
              rw [g0] at f0
              rw [g2] at f2
              rw [g3] at f3
              replace e0 := (W14.out.cell (p := ⟨b, off + m * 4, none⟩) hbw).trans e0
              replace e2 := (W14.out.cell (p := ⟨b, off + m * 4 + 2, none⟩) hbw).trans e2
              replace e3 := (W14.out.cell (p := ⟨b, off + m * 4 + 3, none⟩) hbw).trans e3
              replace f0 := (HB4.out.cell (p := ⟨b2, off2 + m * 4, none⟩) hbw2).trans f0
              replace f2 := (HB4.out.cell (p := ⟨b2, off2 + m * 4 + 2, none⟩) hbw2).trans f2
              replace f3 := (HB4.out.cell (p := ⟨b2, off2 + m * 4 + 3, none⟩) hbw2).trans f3
              obtain ⟨kd, hkd⟩ : ∃ k, k = (L.getD m tp0).kd := ⟨_, rfl⟩
              obtain ⟨T, hT⟩ : ∃ T, T = str (L.getD m tp0).t := ⟨_, rfl⟩
              obtain ⟨iv, hiv⟩ : ∃ i, i = (L.getD m tp0).i := ⟨_, rfl⟩
              rw [← hkd] at e0 f0
              rw [← hT] at e2 f2
              rw [← hiv] at e3 f3
              have hbx : b < wr.heap.size := Nat.lt_of_lt_of_le hbw W14.out.size
              have hbx2 : b2 < wr.heap.size := Nat.lt_of_lt_of_le hbw2 HB4.out.size
              have tt : (T.toList == T.toList) = true := by simp
              clear g0 g2 g3 hkd hT hiv
              go_wp2
              refine g_start (by kernel_rfl) ?_
              refine g_take (i := 0) (d := (some 131)) (v := ?_) rfl rfl (by kernel_rfl) (fun _ _ _ h => h) (by rfl) (fun w' hb' => ?_) ?_
              rotate_left
              · (try go_simp); (try with_reducible rfl)
              try simp only [Act.put, List.setIfInBounds_toArray, List.set_cons_zero, List.set_cons_succ]
              refine g_take (i := 1) (d := (some 132)) (v := ?_) rfl rfl (by kernel_rfl) (fun _ _ _ h => h) (by rfl) (fun w' hb' => ?_) ?_
              rotate_left
              · (try go_simp); (try with_reducible rfl)
              try simp only [Act.put, List.setIfInBounds_toArray, List.set_cons_zero, List.set_cons_succ]
              refine g_take (i := 2) (d := (some 133)) (v := ?_) rfl rfl (by kernel_rfl) (fun _ _ _ h => h) (by rfl) (fun w' hb' => ?_) ?_
              rotate_left
              · (try go_simp); (try with_reducible rfl)
              try simp only [Act.put, List.setIfInBounds_toArray, List.set_cons_zero, List.set_cons_succ]
              refine g_take (i := 3) (d := (some 134)) (v := ?_) rfl rfl (by kernel_rfl) (fun _ _ _ h => h) (by rfl) (fun w' hb' => ?_) ?_
              rotate_left
              · (try go_simp); (try with_reducible rfl)
              try simp only [Act.put, List.setIfInBounds_toArray, List.set_cons_zero, List.set_cons_succ]
              refine g_take (i := 4) (d := (some 135)) (v := ?_) rfl rfl (by kernel_rfl) (fun _ _ _ h => h) (by rfl) (fun w' hb' => ?_) ?_
              rotate_left
              · have z := (hb'.cell (p := ⟨b, off + m * 4, none⟩) hbx).trans e0; (try go_simp); (try with_reducible rfl)
              try simp only [Act.put, List.setIfInBounds_toArray, List.set_cons_zero, List.set_cons_succ]
              refine g_take (i := 5) (d := (some 136)) (v := ?_) rfl rfl (by kernel_rfl) (fun _ _ _ h => h) (by rfl) (fun w' hb' => ?_) ?_
              rotate_left
              · (try go_simp); (try with_reducible rfl)
              try simp only [Act.put, List.setIfInBounds_toArray, List.set_cons_zero, List.set_cons_succ]
              refine g_take (i := 6) (d := (some 137)) (v := ?_) rfl rfl (by kernel_rfl) (fun _ _ _ h => h) (by rfl) (fun w' hb' => ?_) ?_
              rotate_left
              · (try go_simp); (try with_reducible rfl)
              try simp only [Act.put, List.setIfInBounds_toArray, List.set_cons_zero, List.set_cons_succ]
              refine g_take (i := 7) (d := (some 138)) (v := ?_) rfl rfl (by kernel_rfl) (fun _ _ _ h => h) (by rfl) (fun w' hb' => ?_) ?_
              rotate_left
              · (try go_simp); (try with_reducible rfl)
              try simp only [Act.put, List.setIfInBounds_toArray, List.set_cons_zero, List.set_cons_succ]
              refine g_take (i := 8) (d := (some 139)) (v := ?_) rfl rfl (by kernel_rfl) (fun _ _ _ h => h) (by rfl) (fun w' hb' => ?_) ?_
              rotate_left
              · (try go_simp); (try with_reducible rfl)
              try simp only [Act.put, List.setIfInBounds_toArray, List.set_cons_zero, List.set_cons_succ]
              refine g_take (i := 9) (d := (some 140)) (v := ?_) rfl rfl (by kernel_rfl) (fun _ _ _ h => h) (by rfl) (fun w' hb' => ?_) ?_
              rotate_left
              · have z := (hb'.cell (p := ⟨b2, off2 + m * 4, none⟩) hbx2).trans f0; (try go_simp); (try with_reducible rfl)
              try simp only [Act.put, List.setIfInBounds_toArray, List.set_cons_zero, List.set_cons_succ]
              refine g_take (i := 10) (d := (some 141)) (v := ?_) rfl rfl (by kernel_rfl) (fun _ _ _ h => h) (by rfl) (fun w' hb' => ?_) ?_
              rotate_left
              · (try go_simp); (try with_reducible rfl)
              try simp only [Act.put, List.setIfInBounds_toArray, List.set_cons_zero, List.set_cons_succ]
              refine g_take (i := 11) (d := (some 142)) (v := ?_) rfl rfl (by kernel_rfl) (fun _ _ _ h => h) (by rfl) (fun w' hb' => ?_) ?_
              rotate_left
              · (try go_simp); (try with_reducible rfl)
              try simp only [Act.put, List.setIfInBounds_toArray, List.set_cons_zero, List.set_cons_succ]
              refine g_take (i := 12) (d := (some 143)) (v := ?_) rfl rfl (by kernel_rfl) (fun _ _ _ h => h) (by rfl) (fun w' hb' => ?_) ?_
              rotate_left
              · (try go_simp); (try with_reducible rfl)
              try simp only [Act.put, List.setIfInBounds_toArray, List.set_cons_zero, List.set_cons_succ]
              refine g_take (i := 13) (d := (some 144)) (v := ?_) rfl rfl (by kernel_rfl) (fun _ _ _ h => h) (by rfl) (fun w' hb' => ?_) ?_
              rotate_left
              · (try go_simp); (try with_reducible rfl)
              try simp only [Act.put, List.setIfInBounds_toArray, List.set_cons_zero, List.set_cons_succ]
              refine g_take (i := 14) (d := (some 145)) (v := ?_) rfl rfl (by kernel_rfl) (fun _ _ _ h => h) (by rfl) (fun w' hb' => ?_) ?_
              rotate_left
              · (try go_simp); (try with_reducible rfl)
              try simp only [Act.put, List.setIfInBounds_toArray, List.set_cons_zero, List.set_cons_succ]
              refine g_take (i := 15) (d := (some 146)) (v := ?_) rfl rfl (by kernel_rfl) (fun _ _ _ h => h) (by rfl) (fun w' hb' => ?_) ?_
              rotate_left
              · (try go_simp); (try with_reducible rfl)
              try simp only [Act.put, List.setIfInBounds_toArray, List.set_cons_zero, List.set_cons_succ]
              refine g_take (i := 16) (d := (some 147)) (v := ?_) rfl rfl (by kernel_rfl) (fun _ _ _ h => h) (by rfl) (fun w' hb' => ?_) ?_
              rotate_left
              · have z := (hb'.cell (p := ⟨b, off + m * 4 + 2, none⟩) hbx).trans e2; (try go_simp); (try with_reducible rfl)
              try simp only [Act.put, List.setIfInBounds_toArray, List.set_cons_zero, List.set_cons_succ]
              refine g_take (i := 17) (d := (some 148)) (v := ?_) rfl rfl (by kernel_rfl) (fun _ _ _ h => h) (by rfl) (fun w' hb' => ?_) ?_
              rotate_left
              · (try go_simp); (try with_reducible rfl)
              try simp only [Act.put, List.setIfInBounds_toArray, List.set_cons_zero, List.set_cons_succ]
              refine g_take (i := 18) (d := (some 149)) (v := ?_) rfl rfl (by kernel_rfl) (fun _ _ _ h => h) (by rfl) (fun w' hb' => ?_) ?_
              rotate_left
              · (try go_simp); (try with_reducible rfl)
              try simp only [Act.put, List.setIfInBounds_toArray, List.set_cons_zero, List.set_cons_succ]
              refine g_take (i := 19) (d := (some 150)) (v := ?_) rfl rfl (by kernel_rfl) (fun _ _ _ h => h) (by rfl) (fun w' hb' => ?_) ?_
              rotate_left
              · (try go_simp); (try with_reducible rfl)
              try simp only [Act.put, List.setIfInBounds_toArray, List.set_cons_zero, List.set_cons_succ]
              refine g_take (i := 20) (d := (some 151)) (v := ?_) rfl rfl (by kernel_rfl) (fun _ _ _ h => h) (by rfl) (fun w' hb' => ?_) ?_
              rotate_left
              · (try go_simp); (try with_reducible rfl)
              try simp only [Act.put, List.setIfInBounds_toArray, List.set_cons_zero, List.set_cons_succ]
              refine g_take (i := 21) (d := (some 152)) (v := ?_) rfl rfl (by kernel_rfl) (fun _ _ _ h => h) (by rfl) (fun w' hb' => ?_) ?_
              rotate_left
              · have z := (hb'.cell (p := ⟨b2, off2 + m * 4 + 2, none⟩) hbx2).trans f2; (try go_simp); (try with_reducible rfl)
              try simp only [Act.put, List.setIfInBounds_toArray, List.set_cons_zero, List.set_cons_succ]
              refine g_take (i := 22) (d := (some 153)) (v := ?_) rfl rfl (by kernel_rfl) (fun _ _ _ h => h) (by rfl) (fun w' hb' => ?_) ?_
              rotate_left
              · (try go_simp); (try with_reducible rfl)
              try simp only [Act.put, List.setIfInBounds_toArray, List.set_cons_zero, List.set_cons_succ]
              refine g_take (i := 23) (d := (some 154)) (v := ?_) rfl rfl (by kernel_rfl) (fun _ _ _ h => h) (by rfl) (fun w' hb' => ?_) ?_
              rotate_left
              · (try go_simp); (try with_reducible rfl)
              try simp only [Act.put, List.setIfInBounds_toArray, List.set_cons_zero, List.set_cons_succ]
              refine g_take (i := 24) (d := (some 155)) (v := ?_) rfl rfl (by kernel_rfl) (fun _ _ _ h => h) (by rfl) (fun w' hb' => ?_) ?_
              rotate_left
              · (try go_simp); (try with_reducible rfl)
              try simp only [Act.put, List.setIfInBounds_toArray, List.set_cons_zero, List.set_cons_succ]
              refine g_take (i := 25) (d := (some 156)) (v := ?_) rfl rfl (by kernel_rfl) (fun _ _ _ h => h) (by rfl) (fun w' hb' => ?_) ?_
              rotate_left
              · (try go_simp); (try with_reducible rfl)
              try simp only [Act.put, List.setIfInBounds_toArray, List.set_cons_zero, List.set_cons_succ]
              refine g_take (i := 26) (d := (some 157)) (v := ?_) rfl rfl (by kernel_rfl) (fun _ _ _ h => h) (by rfl) (fun w' hb' => ?_) ?_
              rotate_left
              · (try go_simp); (try with_reducible rfl)
              try simp only [Act.put, List.setIfInBounds_toArray, List.set_cons_zero, List.set_cons_succ]
              refine g_take (i := 27) (d := (some 158)) (v := ?_) rfl rfl (by kernel_rfl) (fun _ _ _ h => h) (by rfl) (fun w' hb' => ?_) ?_
              rotate_left
              · (try go_simp); (try with_reducible rfl)
              try simp only [Act.put, List.setIfInBounds_toArray, List.set_cons_zero, List.set_cons_succ]
              refine g_take (i := 28) (d := (some 159)) (v := ?_) rfl rfl (by kernel_rfl) (fun _ _ _ h => h) (by rfl) (fun w' hb' => ?_) ?_
              rotate_left
              · (try go_simp); (try with_reducible rfl)
              try simp only [Act.put, List.setIfInBounds_toArray, List.set_cons_zero, List.set_cons_succ]
              refine g_take (i := 29) (d := (some 160)) (v := ?_) rfl rfl (by kernel_rfl) (fun _ _ _ h => h) (by rfl) (fun w' hb' => ?_) ?_
              rotate_left
              · have z := (hb'.cell (p := ⟨b, off + m * 4 + 3, none⟩) hbx).trans e3; (try go_simp); (try with_reducible rfl)
              try simp only [Act.put, List.setIfInBounds_toArray, List.set_cons_zero, List.set_cons_succ]
              refine g_take (i := 30) (d := (some 161)) (v := ?_) rfl rfl (by kernel_rfl) (fun _ _ _ h => h) (by rfl) (fun w' hb' => ?_) ?_
              rotate_left
              · (try go_simp); (try with_reducible rfl)
              try simp only [Act.put, List.setIfInBounds_toArray, List.set_cons_zero, List.set_cons_succ]
              refine g_take (i := 31) (d := (some 162)) (v := ?_) rfl rfl (by kernel_rfl) (fun _ _ _ h => h) (by rfl) (fun w' hb' => ?_) ?_
              rotate_left
              · (try go_simp); (try with_reducible rfl)
              try simp only [Act.put, List.setIfInBounds_toArray, List.set_cons_zero, List.set_cons_succ]
              refine g_take (i := 32) (d := (some 163)) (v := ?_) rfl rfl (by kernel_rfl) (fun _ _ _ h => h) (by rfl) (fun w' hb' => ?_) ?_
              rotate_left
              · (try go_simp); (try with_reducible rfl)
              try simp only [Act.put, List.setIfInBounds_toArray, List.set_cons_zero, List.set_cons_succ]
              refine g_take (i := 33) (d := (some 164)) (v := ?_) rfl rfl (by kernel_rfl) (fun _ _ _ h => h) (by rfl) (fun w' hb' => ?_) ?_
              rotate_left
              · (try go_simp); (try with_reducible rfl)
              try simp only [Act.put, List.setIfInBounds_toArray, List.set_cons_zero, List.set_cons_succ]
              refine g_take (i := 34) (d := (some 165)) (v := ?_) rfl rfl (by kernel_rfl) (fun _ _ _ h => h) (by rfl) (fun w' hb' => ?_) ?_
              rotate_left
              · have z := (hb'.cell (p := ⟨b2, off2 + m * 4 + 3, none⟩) hbx2).trans f3; (try go_simp); (try with_reducible rfl)
              try simp only [Act.put, List.setIfInBounds_toArray, List.set_cons_zero, List.set_cons_succ]
              refine g_take (i := 35) (d := (some 166)) (v := ?_) rfl rfl (by kernel_rfl) (fun _ _ _ h => h) (by rfl) (fun w' hb' => ?_) ?_
              rotate_left
              · (try go_simp); (try with_reducible rfl)
              try simp only [Act.put, List.setIfInBounds_toArray, List.set_cons_zero, List.set_cons_succ]
              refine g_take (i := 36) (d := (some 167)) (v := ?_) rfl rfl (by kernel_rfl) (fun _ _ _ h => h) (by rfl) (fun w' hb' => ?_) ?_
              rotate_left
              · (try go_simp); (try with_reducible rfl)
              try simp only [Act.put, List.setIfInBounds_toArray, List.set_cons_zero, List.set_cons_succ]
              refine g_done (by kernel_rfl) ?_
              obtain ⟨W5, hW5⟩ : ∃ W, W = wr.drew := ⟨_, rfl⟩
              have HB5 : Hid (Below w2.heap.size w2 W5) := Lib.hid (by rw [hW5]; exact Below.drew HB4.out)
              rw [← hW5]
              clear hW5
              go_wp2_with fail
              exact ⟨⟨m + 1, by omega, by push_cast; rfl, HB5⟩, by simp [intOf]; omega⟩
            · have h5 : ¬ ((m : Int) < (N : Int)) := by omega
              have h5d : decide ((m : Int) < (N : Int)) = false := decide_eq_false h5
              have T4 : Hid (TabX wr) := Lib.hid (T2.out.below HB4.out)
              go_wp2_with ((with_reducible refine (AW.out _ T4.out).mono ?_); rintro e w6 ⟨rfl, b6⟩)
              (try go_ret)
              exact ⟨rfl, (B1.out.trans (W14.out.mono B1.out.size)).trans (b6.mono (Nat.le_trans B1.out.size W14.out.size))⟩
theorem blanks_any (s0 : List UInt8) (w : World) (hm : s0.length ≤ maxLen) (tab : TabX w) : Calls Tryd.prog 6 #[.string (str s0)] w fun e w' => e = .returned (.bool true) ∧ Below w.heap.size w w' := by
  cases hT : toksP (s0.take 600) with
  | inl x => obtain ⟨e, p⟩ := x; exact blanks_err s0 _ e p w rfl hT hm tab
  | inr L => exact blanks_ok s0 _ L w rfl hT hm tab
theorem blanks_row (a : ByteArray) (w : World) (hm : a.size ≤ maxLen) (tab : TabX w) : Calls Tryd.prog 6 #[.string a] w fun e w' => e = .returned (.bool true) ∧ Below w.heap.size w w' := by
  have h : a.data.toList.length ≤ maxLen := by rw [str_self a, str_size] at hm; exact hm
  have := blanks_any a.data.toList w h tab
  rw [← str_self] at this
  exact this
end Go.Proofs.YtkmhjodnddfkeaaDoor
