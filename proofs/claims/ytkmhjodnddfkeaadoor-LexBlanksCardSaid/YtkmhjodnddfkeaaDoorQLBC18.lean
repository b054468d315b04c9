/- Lex: the document's Quote. Written by wip/tools/gen16q.py. -/
import Derived.Test.YtkmhjodnddfkeaaDoorQLBC17
namespace Go.Proofs.YtkmhjodnddfkeaaDoor
open Go Go.RowKit
set_option linter.unusedVariables false
set_option linter.unusedSimpArgs false
set_option maxRecDepth 100000
theorem str_append (a b : List UInt8) : str a ++ str b = str (a ++ b) := by
  apply ByteArray.ext
  simp [str]
set_option maxHeartbeats 4000000 in
theorem refQuote_any (s : List UInt8) (w : World) : Calls Tryd.prog 9 #[.string (str s)] w fun e w' => e = .returned (.tuple #[.string (str (quoP s)), .int .i64 (quoE s : Int)]) ∧ w' = w := by
  have hsz := str_size s
  by_cases hs : s.length ≤ 64
  case neg =>
    have h1 : (64 : Int) < (s.length : Int) := by omega
    go_enter Tryd.func9, Tryd.ntmps9
    go_wp2_with fail
    go_ret2
    have e1 : quoP s = [] := by unfold quoP; rw [if_pos (by omega)]
    have e2 : quoE s = 5 := by unfold quoE; rw [if_pos (by omega)]
    rw [e1, e2]
    exact ⟨rfl, rfl⟩
  have h1 : ¬ (64 : Int) < (s.length : Int) := by omega
  go_enter Tryd.func9, Tryd.ntmps9
  go_wp2_with fail
  go_loopw [4, 5] (fun o i wr => ∃ (j : Nat) (A : List UInt8), j ≤ s.length ∧ i = .int .i64 (j : Int) ∧ o = .string (str (34 :: A)) ∧ A.length ≤ 2 * j ∧ Hid (quoF s = quoA A (quoF (s.drop j))) ∧ wr = w) (fun _ i _ => s.length - (intOf i).toNat)
  case atStart => exact ⟨0, [], Nat.zero_le _, rfl, rfl, Nat.zero_le _, Lib.hid (quoA_nil _).symm, rfl⟩
  case round =>
    obtain ⟨j, A, hjs, rfl, rfl, hA, HQ, rfl⟩ := hrel
    obtain ⟨O, hO⟩ : ∃ O, O = str (34 :: A) := ⟨_, rfl⟩
    have HO := Lib.hid hO
    rw [← hO]
    have hOs : O.size = A.length + 1 := by rw [hO, str_size]; rfl
    have hA2 : A.length ≤ 128 := by omega
    by_cases hlt : j < s.length
    · have h2 : ((j : Int) < (s.length : Int)) := by omega
      have h3 : decide ((j : Int) < (s.length : Int)) = true := decide_eq_true h2
      have hd := List.drop_eq_getElem_cons hlt
      have HGet : s.getD j 0 = s[j] := by simp [List.getD, hlt]
      obtain ⟨c, hc⟩ : ∃ c, c = s[j] := ⟨_, rfl⟩
      rw [← hc] at hd HGet
      obtain ⟨m, hm⟩ : ∃ m, m = c.toNat := ⟨_, rfl⟩
      have hcc : ∀ h : j < (str s).size, ((str s)[j]'h).toNat = m := fun h => by rw [str_byte, HGet, hm]
      have HM := Lib.hid hm
      have HD := Lib.hid hd
      obtain ⟨a1, ha1⟩ : ∃ a1, a1 = j + 1 := ⟨_, rfl⟩
      have YS : (j : Int) + 1 = (a1 : Int) := by rw [ha1]; push_cast; rfl
      have ha1s : a1 ≤ s.length := by omega
      have hja : j ≤ a1 := by omega
      have HA1 := Lib.hid ha1
      obtain ⟨S, hS⟩ : ∃ S, S = str [c] := ⟨_, rfl⟩
      have hx : (str s).extract j a1 = S := by rw [str_extract, ha1, hd, hS]; simp
      have TL : ∀ k : UInt8, (S.toList == [k]) = decide (m = k.toNat) := fun k => by
        rw [hS, tl_eq, Bool.eq_iff_iff, decide_eq_true_iff, decide_eq_true_iff]
        exact ⟨fun e => by injection e with e _; rw [hm, e], fun e => by rw [UInt8.toNat_inj.1 (hm.symm.trans e)]⟩
      have c10 : m = 10 → c = 10 := fun h => UInt8.toNat_inj.1 (hm.symm.trans h)
      have n10 : ¬ m = 10 → c ≠ 10 := fun h e => h (by rw [hm, e]; rfl)
      have cq : m = 34 ∨ m = 92 → c = 34 ∨ c = 92 := fun h => h.imp (fun h => UInt8.toNat_inj.1 (hm.symm.trans h)) (fun h => UInt8.toNat_inj.1 (hm.symm.trans h))
      have nq : ¬ (m = 34 ∨ m = 92) → ¬ (c = 34 ∨ c = 92) := fun h e => h (e.imp (fun h => by rw [hm, h]; rfl) (fun h => by rw [hm, h]; rfl))
      have TLH := Lib.hid TL
      have C10 := Lib.hid c10
      have N10 := Lib.hid n10
      have CQ := Lib.hid cq
      have NQ := Lib.hid nq
      have HS := Lib.hid hS
      have hSs : S.size = 1 := by rw [hS, str_size]; rfl
      clear hc HGet hd hS TL c10 n10 cq nq hO ha1 hm
      by_cases h10 : m = 10
      · have t10 : (S.toList == [10]) = true := by rw [TLH.out, h10]; rfl
        obtain ⟨O2, hO2⟩ : ∃ O2, O2 = O ++ (⟨#[92, 110]⟩ : ByteArray) := ⟨_, rfl⟩
        have HO2 := Lib.hid (show O2 = str (34 :: (A ++ [92, 110])) by rw [hO2, HO.out]; exact str_append (34 :: A) [92, 110])
        have HQ2 := Lib.hid (show quoF s = quoA (A ++ [92, 110]) (quoF (s.drop a1)) by rw [HQ.out, HD.out, HA1.out, quo_step (fun e => e.1 (C10.out h10)), quoA_quoA, C10.out h10]; rfl)
        clear h10
        replace hO2 := hO2.symm
        go_wp2_with fail
        exact ⟨⟨a1, A ++ [92, 110], ha1s, rfl, by rw [HO2.out], by have := HA1.out; simp; omega, HQ2, trivial⟩, by have := HA1.out; simp [intOf]; omega⟩
      · have t10 : (S.toList == [10]) = false := by rw [TLH.out]; exact decide_eq_false h10
        by_cases hr : m < 32 ∨ 126 < m
        · have HQ2 := Lib.hid (show quoF s = none by rw [HQ.out, HD.out, quo_bad ⟨N10.out h10, by rw [← HM.out]; exact hr⟩]; rfl)
          have HP1 := Lib.hid (show quoP s = [] by unfold quoP; rw [if_neg (by omega), HQ2.out])
          have HE1 := Lib.hid (show quoE s = 3 by unfold quoE; rw [if_neg (by omega), HQ2.out]; rfl)
          by_cases r32 : m < 32
          · have i4 : ((m : Int) < 32) := by omega
            clear hr h10 r32
            go_wp2_with fail
            (try go_ret2)
            rw [HP1.out, HE1.out]
            exact ⟨rfl, rfl⟩
          · have i4 : ¬ ((m : Int) < 32) := by omega
            have i5 : ((126 : Int) < m) := by omega
            clear hr h10 r32
            go_wp2_with fail
            (try go_ret2)
            rw [HP1.out, HE1.out]
            exact ⟨rfl, rfl⟩
        · have i4 : ¬ ((m : Int) < 32) := by omega
          have i5 : ¬ ((126 : Int) < m) := by omega
          by_cases hq : m = 34 ∨ m = 92
          · obtain ⟨S2, hS2⟩ : ∃ S2, S2 = (⟨#[92]⟩ : ByteArray) ++ S := ⟨_, rfl⟩
            have hS2s : S2.size = 2 := by rw [hS2, HS.out]; rw [show (⟨#[92]⟩ : ByteArray) = str [92] from rfl, str_append, str_size]; rfl
            obtain ⟨O2, hO2⟩ : ∃ O2, O2 = O ++ S2 := ⟨_, rfl⟩
            have HO2 := Lib.hid (show O2 = str (34 :: (A ++ [92, c])) by
              rw [hO2, hS2, HO.out, HS.out]
              rw [show (⟨#[92]⟩ : ByteArray) = str [92] from rfl, str_append, str_append]
              rfl)
            have HQ2 := Lib.hid (show quoF s = quoA (A ++ [92, c]) (quoF (s.drop a1)) by
              rw [HQ.out, HD.out, HA1.out, quo_step (fun e => hr (by rw [HM.out]; exact e.2)), quoA_quoA]
              unfold quoC
              rw [if_neg (N10.out h10), if_pos (CQ.out hq)])
            replace hO2 := hO2.symm
            replace hS2 := hS2.symm
            by_cases q34 : m = 34
            · have t34 : (S.toList == [34]) = true := by rw [TLH.out, q34]; rfl
              clear h10 hr hq q34
              go_wp2_with fail
              exact ⟨⟨a1, A ++ [92, c], ha1s, rfl, by rw [HO2.out], by have := HA1.out; simp; omega, HQ2, trivial⟩, by have := HA1.out; simp [intOf]; omega⟩
            · have t34 : (S.toList == [34]) = false := by rw [TLH.out]; exact decide_eq_false q34
              have t92 : (S.toList == [92]) = true := by rw [TLH.out, hq.resolve_left q34]; rfl
              clear h10 hr hq q34
              go_wp2_with fail
              exact ⟨⟨a1, A ++ [92, c], ha1s, rfl, by rw [HO2.out], by have := HA1.out; simp; omega, HQ2, trivial⟩, by have := HA1.out; simp [intOf]; omega⟩
          · have t34 : (S.toList == [34]) = false := by rw [TLH.out]; exact decide_eq_false (fun e => hq (.inl e))
            have t92 : (S.toList == [92]) = false := by rw [TLH.out]; exact decide_eq_false (fun e => hq (.inr e))
            obtain ⟨O2, hO2⟩ : ∃ O2, O2 = O ++ S := ⟨_, rfl⟩
            have HO2 := Lib.hid (show O2 = str (34 :: (A ++ [c])) by rw [hO2, HO.out, HS.out, str_append]; rfl)
            have HQ2 := Lib.hid (show quoF s = quoA (A ++ [c]) (quoF (s.drop a1)) by
              rw [HQ.out, HD.out, HA1.out, quo_step (fun e => hr (by rw [HM.out]; exact e.2)), quoA_quoA]
              unfold quoC
              rw [if_neg (N10.out h10), if_neg (NQ.out hq)])
            replace hO2 := hO2.symm
            clear h10 hr hq
            go_wp2_with fail
            exact ⟨⟨a1, A ++ [c], ha1s, rfl, by rw [HO2.out], by have := HA1.out; simp; omega, HQ2, trivial⟩, by have := HA1.out; simp [intOf]; omega⟩
    · have h2 : ¬ ((j : Int) < (s.length : Int)) := by omega
      have h3 : decide ((j : Int) < (s.length : Int)) = false := decide_eq_false h2
      obtain rfl : j = s.length := by omega
      obtain ⟨O2, hO2⟩ : ∃ O2, O2 = O ++ (⟨#[34]⟩ : ByteArray) := ⟨_, rfl⟩
      have HQ2 := Lib.hid (show quoF s = some A by rw [HQ.out, List.drop_of_length_le (Nat.le_refl _)]; simp [quoF, quoA])
      have HP1 := Lib.hid (show str (quoP s) = O2 by
        unfold quoP
        rw [if_neg (by omega), HQ2.out, hO2, HO.out]
        exact (str_append (34 :: A) [34]).symm)
      have HE1 := Lib.hid (show quoE s = 0 by unfold quoE; rw [if_neg (by omega), HQ2.out]; rfl)
      replace hO2 := hO2.symm
      clear hO
      go_wp2_with fail
      (try go_ret2)
      rw [HP1.out, HE1.out]
      exact ⟨rfl, rfl⟩
end Go.Proofs.YtkmhjodnddfkeaaDoor
