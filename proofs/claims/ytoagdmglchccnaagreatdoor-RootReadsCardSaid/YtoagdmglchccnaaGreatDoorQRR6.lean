/- The document's table: Has, Of, number, Digits. Written by wip/tools/gen2g.py. -/
import Derived.Test.YtoagdmglchccnaaGreatDoorQRR5
namespace Go.Proofs.YtoagdmglchccnaaGreatDoor.T2
open Go Go.RowKit Go.Maps
set_option linter.unusedVariables false
set_option linter.unusedSimpArgs false
theorem num_take {L : List Txt} {s : Txt} {j : Nat} (hj : j < L.length) (h : ¬ s ∈ L.take j) (e : L[j] = s) : numN L s = j + 1 := by
  have hm : s ∈ L := by rw [← e]; exact List.getElem_mem hj
  unfold numN
  rw [if_pos hm]
  have : L = L.take j ++ s :: L.drop (j + 1) := by rw [← e]; simp
  have h2 : L.idxOf s = j := by
    rw [this, List.idxOf_append, if_neg h]
    simp; omega
  rw [h2]
theorem num_no {L : List Txt} {s : Txt} (h : ¬ s ∈ L) : numN L s = 0 := by unfold numN; rw [if_neg h]
set_option maxRecDepth 100000 in
theorem refHas_any (v : Value) (L : List Txt) (hL : L.length ≤ 2000) (s : Txt) (w : World) (h : RdV w v (L.map sv)) :
    Calls Tryz.prog 80 #[v, .string (str s)] w fun e w' => e = .returned (.int .i64 (numN L s : Int)) ∧ w = w' := by
  obtain ⟨ao, cap, rfl, hc, HA⟩ := rdt_open h
  clear h
  go_enter Tryz.func80, Tryz.ntmps80
  go_wp2_with fail
  go_loop [5] (fun i => ∃ j : Nat, j ≤ L.length ∧ i = .int .i64 (j : Int) ∧ Hid (¬ s ∈ L.take j)) (fun i => 2000 - (intOf i).toNat)
  case atStart => exact ⟨0, Nat.zero_le _, rfl, Lib.hid (by simp)⟩
  case round =>
    obtain ⟨j, hj, rfl, hall⟩ := hrel
    by_cases hjx : j < L.length
    · obtain ⟨b, off, rfl, hb, hcells⟩ := HA.out (by omega)
      have hc0 := hcells j hjx
      have ht : L.take (j + 1) = L.take j ++ [L[j]] := by rw [List.take_succ_eq_append_getElem hjx]
      have hnt := fun e => num_take hjx hall.out (s := s) e
      obtain ⟨x, ex⟩ : ∃ x, x = L[j] := ⟨_, rfl⟩
      rw [← ex] at hc0 ht hnt
      have HTT := Lib.hid ht
      have HN := Lib.hid hnt
      unfold sv at hc0
      clear ht hnt ex hcells
      by_cases h1 : x = s
      · have e1 : ((str x).toList == (str s).toList) = true := by rw [h1]; simp
        have H1 := Lib.hid h1
        clear h1
        go_wp2_with fail
        go_ret
        exact ⟨by rw [HN.out H1.out]; simp, rfl⟩
      · have e1 : ((str x).toList == (str s).toList) = false := by rw [str_tl, str_tl]; simpa using h1
        have H1 := Lib.hid h1
        clear h1
        go_wp2_with fail
        go_round
        case rel => exact ⟨j + 1, by omega, by go_num, Lib.hid (by rw [HTT.out, List.mem_append, List.mem_singleton]; rintro (h | h); exact hall.out h; exact H1.out h.symm)⟩
        case measure => simp [intOf]; omega
    · go_wp2_with fail
      go_ret
      have hx2 := hall.out
      rw [List.take_of_length_le (by omega)] at hx2
      exact ⟨by rw [num_no hx2]; simp, rfl⟩
/-- What Of hands back: the list behind it, a row of its own. -/
def ROfP (w : World) (base : Nat) (v : Value) (L' : List Txt) (n : Int) (e : Ending) (w' : World) : Prop :=
  ∃ v', e = .returned (.tuple #[v', .int .i64 n, .int .i64 0]) ∧ w'.ownsRow base 9 1 v' L'.length (L'.map sv) ∧ Trn (fun k => v.ownBlock = some k) w w' ∧ ∀ k, v'.ownBlock = some k → v.ownBlock = some k ∨ w.heap.size ≤ k
set_option maxRecDepth 100000 in
set_option maxHeartbeats 1000000 in
theorem refOf_any (base : Nat) (v : Value) (L : List Txt) (hL : L.length < 1000) (s : Txt) (w : World) (hbw : base ≤ w.heap.size) (h : w.ownsRow base 9 1 v L.length (L.map sv)) :
    Calls Tryz.prog 51 #[v, .string (str s)] w (ROfP w base v (ofL L s) (numN (ofL L s) s : Int)) := by
  obtain ⟨i0, hi0, hz0, hz1, hz2⟩ := info_parts str_info
  have RH := refHas_any v L (by omega) s w (own_rdv h)
  obtain ⟨ao, cap, hv⟩ := own_slice' h
  by_cases hin : s ∈ L
  · have e : ofL L s = L := by unfold ofL; rw [if_pos hin]
    rw [e]
    have hp : (0 : Int) < (numN L s : Int) := by unfold numN; rw [if_pos hin]; omega
    have fin : ROfP w base v L (numN L s : Int) (.returned (.tuple #[v, .int .i64 (numN L s : Int), .int .i64 0])) w := ⟨v, rfl, h, Trn.refl _ _, fun k hk => .inl hk⟩
    obtain ⟨X, hX⟩ : ∃ X : Int, X = (numN L s : Int) := ⟨_, rfl⟩
    rw [← hX] at RH fin hp ⊢
    subst hv
    clear h e hin hX
    go_enter Tryz.func51, Tryz.ntmps51
    go_wp2_with fail
    refine RH.mono ?_
    rintro e w1 ⟨rfl, rfl⟩
    go_wp2_with fail
    go_ret3
    exact fin
  · have e : ofL L s = L ++ [s] := by unfold ofL; rw [if_neg hin]
    rw [num_no hin] at RH
    rw [e, num_snoc_new hin]
    subst hv
    have e5 : decide ((65536 : Int) ≤ (L.length : Int)) = false := decide_eq_false (by omega)
    have own0 := h
    clear h e hin
    go_enter Tryz.func51, Tryz.ntmps51
    go_wp2_with fail
    refine RH.mono ?_
    rintro e w1 ⟨rfl, rfl⟩
    go_wp2_with (at_builtin; refine wpList_append_own_at _ rfl (.tmp 19) (.tmp 21) 22 rfl base 9 i0 (.string ByteArray.empty) 1 16 Tryz.underlying22 hi0 hz0 hz1 hz2 rfl (by decide) (.slice ao L.length cap) L.length (L.map sv) rfl (own0.alloc _) ⟨w.heap.size, 0, none⟩ 1 1 [.string (str s)] rfl rfl (cell_one_new _ _ _) (by intro u hu; simp at hu; subst hu; rfl) (by unfold maxLen; omega) (by omega) (by simp; omega) ?_; intro v4 w4 ro4 g4 _ hl4; obtain ⟨b4, cap4, rfl, _, _⟩ := slice_of_own ro4 (by omega); have HL4 := Lib.hid hl4; clear hl4)
    have lw : w.heap.size < (w.alloc (.cells #[.string (str s)] 9)).heap.size := by simp
    go_ret3
    refine ⟨.slice (some ⟨b4, 0, none⟩) (L.length + 1) cap4, rfl, by rw [List.length_append, List.length_singleton, List.map_append]; exact ro4, (Trn.of_below ((Below.refl _ _).alloc (Nat.le_refl _) (.cells #[.string (str s)] 9))).grown g4 (fun k hk => hk), ?_⟩
    intro k hk
    rcases HL4.out with e | e
    · exact .inl (e ▸ hk)
    · rw [e] at hk; cases hk; right; omega
theorem dec_step {m q d : Nat} {s : Txt} {N : Txt} (hm : m = 10 * q + d) (hd : d < 10) (h0 : 0 < m) (h : Lib.decDigits m ++ s = N) : (0 < q ∧ Lib.decDigits q ++ (UInt8.ofNat (48 + d) :: s) = N) ∨ (q = 0 ∧ UInt8.ofNat (48 + d) :: s = N) := by
  by_cases hq : 0 < q
  · left
    refine ⟨hq, ?_⟩
    have e : Lib.decDigits m = Lib.decDigits q ++ [UInt8.ofNat (48 + d)] := by
      rw [Lib.decDigits, dif_neg (by omega)]
      have e1 : m / 10 = q := by omega
      have e2 : m % 10 = d := by omega
      rw [e1, e2]
    rw [← h, e]; simp
  · right
    have hq0 : q = 0 := by omega
    refine ⟨hq0, ?_⟩
    have e : Lib.decDigits m = [UInt8.ofNat (48 + d)] := by
      have e1 : m = d := by omega
      rw [e1, Lib.decDigits_one hd]
    rw [← h, e]; simp
theorem step_rel {m q d : Nat} {s N : Txt} (hr : Hid ((0 < m ∧ Lib.decDigits m ++ s = N) ∨ (m = 0 ∧ s = N))) (hm : m = 10 * q + d) (hd : d < 10) (h0 : 0 < m) : Hid ((0 < q ∧ Lib.decDigits q ++ (UInt8.ofNat (48 + d) :: s) = N) ∨ (q = 0 ∧ (UInt8.ofNat (48 + d) :: s) = N)) := by
  rcases hr.out with ⟨_, h⟩ | ⟨h, _⟩
  · exact Lib.hid (dec_step hm hd h0 h)
  · omega
theorem ten_cases {d : Nat} (h : d < 10) : d = 0 ∨ d = 1 ∨ d = 2 ∨ d = 3 ∨ d = 4 ∨ d = 5 ∨ d = 6 ∨ d = 7 ∨ d = 8 ∨ d = 9 := by omega
theorem dig_cat (d : Nat) (h : d < 10) (l : Txt) : (ByteArray.mk #[48, 49, 50, 51, 52, 53, 54, 55, 56, 57]).extract d (d + 1) ++ str l = str (UInt8.ofNat (48 + d) :: l) := by
  have e : (ByteArray.mk #[48, 49, 50, 51, 52, 53, 54, 55, 56, 57]).extract d (d + 1) = str [UInt8.ofNat (48 + d)] := by
    rcases ten_cases h with rfl | rfl | rfl | rfl | rfl | rfl | rfl | rfl | rfl | rfl <;> rfl
  rw [e, ← str_app]; rfl
set_option maxRecDepth 100000 in
set_option maxHeartbeats 2000000 in
theorem number_pos (N : Nat) (h0 : 0 < N) (hN : N ≤ 9223372036854775807) (w : World) :
    Calls Tryz.prog 89 #[.int .i64 (N : Int)] w fun e w' => e = .returned (.string (str (Lib.decDigits N))) ∧ w = w' := by
  obtain ⟨T, hT⟩ : ∃ T, T = Lib.decDigits N := ⟨_, rfl⟩
  have hTl : T.length ≤ 21 := by
    have e := Lib.itoa_length_le (N : Int) (by omega) (by omega)
    rw [Lib.itoa_nonneg] at e; rw [hT]; exact e
  have HT := Lib.hid hT
  rw [← hT]
  have e0 : ((N : Int) == 0) = false := by simp; omega
  have e1 : ¬ (N : Int) < 0 := by omega
  clear hT
  go_enter Tryz.func89, Tryz.ntmps89
  go_wp2_with fail
  go_loop [0, 3] (fun n s => ∃ (m : Nat) (l : Txt), m ≤ N ∧ n = .int .i64 (m : Int) ∧ s = .string (str l) ∧ Hid ((0 < m ∧ Lib.decDigits m ++ l = T) ∨ (m = 0 ∧ l = T))) (fun n _ => (intOf n).toNat)
  case atStart => exact ⟨N, [], Nat.le_refl _, rfl, rfl, Lib.hid (.inl ⟨h0, by rw [HT.out]; simp⟩)⟩
  case round =>
    obtain ⟨m, l, hm, rfl, rfl, hr⟩ := hrel
    by_cases hm0 : 0 < m
    · have hll : l.length ≤ 21 := by
        rcases hr.out with ⟨_, h⟩ | ⟨_, h⟩
        · have := congrArg List.length h; simp at this; omega
        · rw [h]; exact hTl
      obtain ⟨q, hq⟩ : ∃ q, q = m / 10 := ⟨_, rfl⟩
      obtain ⟨d, hd⟩ : ∃ d, d = m % 10 := ⟨_, rfl⟩
      have hmq : m = 10 * q + d := by omega
      have hd10 : d < 10 := by omega
      have hql : q < m := by omega
      have hqN : q ≤ N := by omega
      have HR := step_rel hr hmq hd10 hm0
      have f1 : (m : Int) / 10 = (q : Int) := by omega
      have f2 : (m : Int) % 10 = (d : Int) := by omega
      have f3 : ((m : Int) != 0) = true := by simp; omega
      clear hq hd hmq hr
      rcases ten_cases hd10 with rfl | rfl | rfl | rfl | rfl | rfl | rfl | rfl | rfl | rfl
      all_goals
        simp only [Int.cast_ofNat_Int, Int.natCast_zero] at f2
        go_wp2_with fail
        all_goals first
          | exact ⟨⟨q, _, hqN, rfl, congrArg Value.string (dig_cat _ (by decide) l), HR⟩, by simp [intOf]; omega⟩
          | (exfalso; have hss := str_size l; omega)
    · obtain rfl : m = 0 := by omega
      have f3 : (((0 : Nat) : Int) != 0) = false := by simp
      go_wp2_with fail
      go_ret
      have : l = T := by rcases hr.out with ⟨h, _⟩ | ⟨_, h⟩; omega; exact h
      exact ⟨by subst this; rfl, rfl⟩
set_option maxRecDepth 100000 in
set_option maxHeartbeats 2000000 in
theorem number_neg (N : Nat) (h0 : 0 < N) (hN : N ≤ 9223372036854775808) (w : World) :
    Calls Tryz.prog 89 #[.int .i64 (-(N : Int))] w fun e w' => e = .returned (.string (str (45 :: Lib.decDigits N))) ∧ w = w' := by
  obtain ⟨T, hT⟩ : ∃ T, T = Lib.decDigits N := ⟨_, rfl⟩
  have hTl : T.length ≤ 21 := by
    have e := Lib.itoa_length_le (-(N : Int)) (by omega) (by omega)
    rw [Lib.itoa_neg N h0] at e; rw [hT]; simp at e; omega
  have HT := Lib.hid hT
  rw [← hT]
  have e0 : ((-(N : Int)) == 0) = false := by simp; omega
  have e1 : -(N : Int) < 0 := by omega
  clear hT
  go_enter Tryz.func89, Tryz.ntmps89
  go_wp2_with fail
  go_loop [0, 3] (fun n s => ∃ (m : Nat) (l : Txt), m ≤ N ∧ n = .int .i64 (-(m : Int)) ∧ s = .string (str l) ∧ Hid ((0 < m ∧ Lib.decDigits m ++ l = T) ∨ (m = 0 ∧ l = T))) (fun n _ => (-(intOf n)).toNat)
  case atStart => exact ⟨N, [], Nat.le_refl _, rfl, rfl, Lib.hid (.inl ⟨h0, by rw [HT.out]; simp⟩)⟩
  case round =>
    obtain ⟨m, l, hm, rfl, rfl, hr⟩ := hrel
    by_cases hm0 : 0 < m
    · have hll : l.length ≤ 21 := by
        rcases hr.out with ⟨_, h⟩ | ⟨_, h⟩
        · have := congrArg List.length h; simp at this; omega
        · rw [h]; exact hTl
      obtain ⟨q, hq⟩ : ∃ q, q = m / 10 := ⟨_, rfl⟩
      obtain ⟨d, hd⟩ : ∃ d, d = m % 10 := ⟨_, rfl⟩
      have hmq : m = 10 * q + d := by omega
      have hd10 : d < 10 := by omega
      have hql : q < m := by omega
      have hqN : q ≤ N := by omega
      have HR := step_rel hr hmq hd10 hm0
      have f1 : (-(m : Int)).tdiv 10 = -(q : Int) := by rw [Int.neg_tdiv, Int.tdiv_eq_ediv_of_nonneg (by omega)]; omega
      have f2 : (-(m : Int)).tmod 10 = -(d : Int) := by rw [Int.neg_tmod, Int.tmod_eq_emod_of_nonneg (by omega)]; omega
      have f3 : ((-(m : Int)) != 0) = true := by simp; omega
      have f4 : ((m : Int)).tdiv 10 = (q : Int) := by rw [Int.tdiv_eq_ediv_of_nonneg (by omega)]; omega
      have f5 : ((m : Int)).tmod 10 = (d : Int) := by rw [Int.tmod_eq_emod_of_nonneg (by omega)]; omega
      clear hq hd hmq hr
      rcases ten_cases hd10 with rfl | rfl | rfl | rfl | rfl | rfl | rfl | rfl | rfl | rfl
      all_goals
        simp only [Int.cast_ofNat_Int, Int.natCast_zero] at f2 f5
        go_wp2_with fail
        all_goals first
          | exact ⟨⟨q, _, hqN, rfl, congrArg Value.string (dig_cat _ (by decide) l), HR⟩, by simp [intOf]; omega⟩
          | (exfalso; have hss := str_size l; omega)
    · obtain rfl : m = 0 := by omega
      have f3 : ((-((0 : Nat) : Int)) != 0) = false := by simp
      have hcon : l = T := by rcases hr.out with ⟨h, _⟩ | ⟨_, h⟩; omega; exact h
      subst hcon
      have hss := str_size l
      go_wp2_with fail
      all_goals first
        | (exfalso; omega)
        | (go_ret; exact ⟨rfl, rfl⟩)
        | (go_ret; exact ⟨by rw [show (45 :: l) = [45] ++ l from rfl, str_app]; rfl, rfl⟩)
end Go.Proofs.YtoagdmglchccnaaGreatDoor.T2
