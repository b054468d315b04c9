/- Values: the other sign; what two make, by the document, and by the program. Written by wip/tools/gen7z.py. -/
import Derived.Test.YthakimgpaemfeaaV07Y3
import Derived.Test.YthakimgpaemfeaaV07O
import Derived.Test.YthakimgpaemfeaaRegU
namespace Go.Proofs.Ythakimgpaemfeaa
open Go Go.RowKit
set_option linter.unusedVariables false
set_option linter.unusedSimpArgs false
set_option maxRecDepth 100000 in
set_option maxHeartbeats 2000000 in
theorem minus_way (k i : Int) (s : List UInt8) (rk ri re : Int) (w : World)
    (SV : ∀ w, Calls Try.prog 25 #[.agg #[.int .i64 2, .int .i64 0, .string (str [])], .agg #[.int .i64 k, .int .i64 i, .string (str s)]] w fun e w' => e = .returned (.tuple #[.agg #[.int .i64 rk, .int .i64 ri, .string (str [])], .int .i64 re]) ∧ Below w.heap.size w w')
 :
    Calls Try.prog 29 #[.agg #[.int .i64 k, .int .i64 i, .string (str s)]] w fun e w' => e = .returned (.tuple #[.agg #[.int .i64 rk, .int .i64 ri, .string (str [])], .int .i64 re]) ∧ Below w.heap.size w w' := by
  have IN := int_any
  obtain ⟨qa, qr, -, -⟩ := two_allocs w (.cells #[.int .i64 k, .int .i64 i, .string (str s)] 23) (.cells #[.int .i64 0, .int .i64 0, .string (str [])] 23)
  have bel : Below w.heap.size w ((w.alloc (.cells #[.int .i64 k, .int .i64 i, .string (str s)] 23)).alloc (.cells #[.int .i64 0, .int .i64 0, .string (str [])] 23)) := ((Below.refl _ w).alloc (Nat.le_refl _) _).alloc (by simp) _
  go_enter Try.func29, Try.ntmps29
  go_wp2_with fail
  obtain ⟨W0, hW0⟩ : ∃ W0, W0 = (w.alloc (.cells #[.int .i64 k, .int .i64 i, .string (str s)] 23)).alloc (.cells #[.int .i64 0, .int .i64 0, .string (str [])] 23) := ⟨_, rfl⟩
  rw [show (w.alloc (.cells #[.int .i64 k, .int .i64 i, .string (str s)] 23)).alloc (.cells #[.int .i64 0, .int .i64 0, .string (ByteArray.mk #[])] 23) = W0 from hW0.symm]
  rw [← hW0] at qa qr bel
  clear hW0
  have bel := below_drewN (k := 1) bel
  refine t_start 5 (by kernel_rfl) ?_
  refine t_take (i := 1) (d := (some 5)) (v := ?_) rfl rfl (by kernel_rfl) (fun _ _ _ h => h) (by rfl) (fun w' hb' => ?_) ?_
  rotate_left
  · have zz := (hb'.block _ (lt_of_block qa)).trans qa; obtain ⟨c0, c1, c2⟩ := cells3 zz; (try go_simp); (try with_reducible rfl)
  try simp only [Act.put, List.setIfInBounds_toArray, List.set_cons_zero, List.set_cons_succ]
  refine t_run (i := 0) rfl (by kernel_rfl) (by kernel_rfl) (by rfl) (fun K hK => ?_)
  go_simp
  refine (IN _ _).mono ?_
  rintro e y1 ⟨rfl, gg⟩
  have qa := (gg.block _ (lt_of_block qa)).trans qa
  have qr := (gg.block _ (lt_of_block qr)).trans qr
  have bel := chain bel gg
  refine hK _ _ ⟨gg, ?_⟩
  clear hK K gg
  try simp only [Act.put, List.setIfInBounds_toArray, List.set_cons_zero, List.set_cons_succ]
  refine t_run (i := 2) rfl (by kernel_rfl) (by kernel_rfl) (by rfl) (fun K hK => ?_)
  go_simp
  refine (SV _).mono ?_
  rintro e y2 ⟨rfl, gg⟩
  have qa := (gg.block _ (lt_of_block qa)).trans qa
  have qr := (gg.block _ (lt_of_block qr)).trans qr
  have bel := chain bel gg
  refine hK _ _ ⟨gg, ?_⟩
  clear hK K gg
  try simp only [Act.put, List.setIfInBounds_toArray, List.set_cons_zero, List.set_cons_succ]
  refine t_take (i := 3) (d := (some 7)) (v := ?_) rfl rfl (by kernel_rfl) (fun _ _ _ h => h) (by rfl) (fun w' hb' => ?_) ?_
  rotate_left
  · (try go_simp); (try with_reducible rfl)
  try simp only [Act.put, List.setIfInBounds_toArray, List.set_cons_zero, List.set_cons_succ]
  refine t_take (i := 4) (d := (some 8)) (v := ?_) rfl rfl (by kernel_rfl) (fun _ _ _ h => h) (by rfl) (fun w' hb' => ?_) ?_
  rotate_left
  · (try go_simp); (try with_reducible rfl)
  try simp only [Act.put, List.setIfInBounds_toArray, List.set_cons_zero, List.set_cons_succ]
  refine t_into ?_
  refine t_tail (i := 5) rfl (by kernel_rfl) (by kernel_rfl) (by rfl) (fun K hK => ?_)
  obtain ⟨c0, c1, c2⟩ := cells3 qr
  have cf := frozen3 qr
  have hl := lt_of_block qr
  go_simp
  refine hK _ _ ?_
  clear hK K c0 c1 c2 cf hl
  have qa := put3_old (B := w.heap.size + 1) (u0 := .int .i64 rk) (u1 := .int .i64 ri) (u2 := .string (str [])) qa (by omega)
  have qr := put3 (.int .i64 rk) (.int .i64 ri) (.string (str [])) qr
  have bel := put3_below (B := w.heap.size + 1) (u0 := .int .i64 rk) (u1 := .int .i64 ri) (u2 := .string (str [])) bel (by omega)
  obtain ⟨y3, hy3⟩ : ∃ W, W = (((y2.setCell ⟨w.heap.size + 1, 0, none⟩ (.int .i64 rk)).setCell ⟨w.heap.size + 1, 1, none⟩ (.int .i64 ri)).setCell ⟨w.heap.size + 1, 2, none⟩ (.string (str []))) := ⟨_, rfl⟩
  rw [← hy3] at qa qr bel
  change wpO _ _ _ _ _ _ _ (((y2.setCell ⟨w.heap.size + 1, 0, none⟩ (.int .i64 rk)).setCell ⟨w.heap.size + 1, 1, none⟩ (.int .i64 ri)).setCell ⟨w.heap.size + 1, 2, none⟩ (.string (str [])))
  rw [← hy3]
  clear hy3
  try simp only [Act.put, List.setIfInBounds_toArray, List.set_cons_zero, List.set_cons_succ]
  refine t_tail (i := 6) rfl (by kernel_rfl) (by kernel_rfl) (by rfl) (fun K hK => ?_)
  go_simp
  refine hK _ _ ?_
  clear hK K
  try simp only [Act.put, List.setIfInBounds_toArray, List.set_cons_zero, List.set_cons_succ]
  refine t_over (by kernel_rfl) ?_
  obtain ⟨r0, r1, r2⟩ := cells3 qr
  go_wp2_with fail
  refine bodyPost_ret (v := .tuple #[.agg #[.int .i64 rk, .int .i64 ri, .string (str [])], .int .i64 re]) (by simp [results, Try.results29, go_sem, r0, r1, r2, str_e]) rfl ⟨rfl, bel⟩
theorem fits_of_wf {x : Int} (h : (Lit.int .i64 x).wf = true) : fits x := by
  simp [Lit.wf, IntKind.min, IntKind.max, IntKind.signed, IntKind.bits] at h
  exact ⟨by omega, by omega⟩
theorem opV_err {E er z : Int} (h : E ≠ 0) : opV E er z = .tuple #[.agg #[.int .i64 0, .int .i64 0, .string (str [])], .int .i64 E] := by
  unfold opV cmpK cmpI cmpE
  rw [if_pos h, if_pos h, if_pos h]
theorem opV_no {er z : Int} (h : er ≠ 0) : opV 0 er z = .tuple #[.agg #[.int .i64 0, .int .i64 0, .string (str [])], .int .i64 er] := by
  unfold opV cmpK cmpI cmpE
  simp [h]
theorem opV_yes (z : Int) : opV 0 0 z = .tuple #[.agg #[.int .i64 2, .int .i64 z, .string (str [])], .int .i64 0] := rfl
theorem expE_yes {a b : V} (h : expE 2 a b = 0) : mayB a = true ∧ mayB b = true ∧ a.k = 2 ∧ b.k = 2 := by
  unfold expE at h
  split at h
  · simp at h
  · split at h
    · simp at h
    · split at h
      · simp at h
      · rename_i h1 h2 h3
        have : a.k = 2 ∧ b.k = 2 := by
          constructor
          · exact Decidable.byContradiction fun h => h3 (.inl h)
          · exact Decidable.byContradiction fun h => h3 (.inr h)
        exact ⟨by simpa using h1, by simpa using h2, this.1, this.2⟩
theorem two_bad (op k i : Int) (s : List UInt8) (k' i' : Int) (s' : List UInt8) (hs : s.length ≤ maxLen) (hs' : s'.length ≤ maxLen) (h : expE 2 ⟨k, i, s⟩ ⟨k', i', s'⟩ ≠ 0) (w : World) :
    Calls Try.prog 23 #[.int .i64 op, .agg #[.int .i64 k, .int .i64 i, .string (str s)], .agg #[.int .i64 k', .int .i64 i', .string (str s')]] w fun e w' => e = .returned (.tuple #[.agg #[.int .i64 0, .int .i64 0, .string (str [])], .int .i64 (expE 2 ⟨k, i, s⟩ ⟨k', i', s'⟩)]) ∧ Below w.heap.size w w' := by
  have M1 := fun w => refMay_any k i s w hs
  have M2 := fun w => refMay_any k' i' s' w hs'
  unfold expE at h ⊢
  cases h1 : mayB ⟨k, i, s⟩ with
  | false =>
    rw [if_pos rfl]
    rw [h1] at M1
    exact two_err1 op k i s k' i' s' w M1
  | true =>
    rw [h1] at M1
    rw [h1, if_neg (by simp)] at h
    rw [if_neg (by simp)]
    cases h2 : mayB ⟨k', i', s'⟩ with
    | false =>
      rw [if_pos rfl]
      rw [h2] at M2
      exact two_err2 op k i s k' i' s' w M1 M2
    | true =>
      rw [h2] at M2
      rw [h2, if_neg (by simp)] at h
      rw [if_neg (by simp)]
      by_cases hk : k = 2
      · by_cases hk' : k' = 2
        · rw [if_neg (by simp [hk, hk'])] at h
          exact absurd rfl h
        · rw [if_pos (.inr hk')]
          exact two_err4 op k i s k' i' s' w M1 M2 (by simpa using hk) (by simpa using hk')
      · rw [if_pos (.inl hk)]
        exact two_err3 op k i s k' i' s' w M1 M2 (by simpa using hk)
/-- What two make, if they may: E is what is expected, the rest told of the numbers. -/
theorem two_of (op er z k i : Int) (s : List UInt8) (k' i' : Int) (s' : List UInt8) (hs : s.length ≤ maxLen) (hs' : s'.length ≤ maxLen) (w : World)
    (h : (∀ w, Calls Try.prog 11 #[.agg #[.int .i64 k, .int .i64 i, .string (str s)]] w fun e w' => e = .returned (.bool true) ∧ Below w.heap.size w w') →
      (∀ w, Calls Try.prog 11 #[.agg #[.int .i64 k', .int .i64 i', .string (str s')]] w fun e w' => e = .returned (.bool true) ∧ Below w.heap.size w w') → (k != 2) = false → (k' != 2) = false →
      Calls Try.prog 23 #[.int .i64 op, .agg #[.int .i64 k, .int .i64 i, .string (str s)], .agg #[.int .i64 k', .int .i64 i', .string (str s')]] w fun e w' => e = .returned (opV 0 er z) ∧ Below w.heap.size w w') :
    Calls Try.prog 23 #[.int .i64 op, .agg #[.int .i64 k, .int .i64 i, .string (str s)], .agg #[.int .i64 k', .int .i64 i', .string (str s')]] w fun e w' => e = .returned (opV (expE 2 ⟨k, i, s⟩ ⟨k', i', s'⟩) er z) ∧ Below w.heap.size w w' := by
  by_cases hE : expE 2 ⟨k, i, s⟩ ⟨k', i', s'⟩ = 0
  · obtain ⟨h1, h2, h3, h4⟩ := expE_yes hE
    rw [hE]
    refine h (fun w => ?_) (fun w => ?_) (by simpa using h3) (by simpa using h4)
    · have := refMay_any k i s w hs
      rwa [h1] at this
    · have := refMay_any k' i' s' w hs'
      rwa [h2] at this
  · rw [opV_err hE]
    exact two_bad op k i s k' i' s' hs hs' hE w
theorem two_0 (k i : Int) (s : List UInt8) (k' i' : Int) (s' : List UInt8) (hs : s.length ≤ maxLen) (hs' : s'.length ≤ maxLen) (hi : fits i) (hi' : fits i') (w : World) :
    Calls Try.prog 23 #[.int .i64 0, .agg #[.int .i64 k, .int .i64 i, .string (str s)], .agg #[.int .i64 k', .int .i64 i', .string (str s')]] w fun e w' => e = .returned (opV (expE 2 ⟨k, i, s⟩ ⟨k', i', s'⟩) (overE (i + i')) (wrap64 (i + i'))) ∧ Below w.heap.size w w' := by
  refine two_of _ _ _ k i s k' i' s' hs hs' w fun M1 M2 hk hk' => ?_
  by_cases h : fits (i + i')
  · rw [overE, if_pos h, opV_yes, wrap64_of h]
    exact two_sum_yes _ k i s k' i' s' w M1 M2 (fun w => sum_yes i i' hi hi' h w) hk hk'
  · rw [overE, if_neg h, opV_no (by decide)]
    exact two_sum_no 0 k i s k' i' s' w M1 M2 (fun w => sum_no i i' hi hi' h w) hk hk'
theorem two_1 (k i : Int) (s : List UInt8) (k' i' : Int) (s' : List UInt8) (hs : s.length ≤ maxLen) (hs' : s'.length ≤ maxLen) (hi : fits i) (hi' : fits i') (w : World) :
    Calls Try.prog 23 #[.int .i64 1, .agg #[.int .i64 k, .int .i64 i, .string (str s)], .agg #[.int .i64 k', .int .i64 i', .string (str s')]] w fun e w' => e = .returned (opV (expE 2 ⟨k, i, s⟩ ⟨k', i', s'⟩) (overE (i - i')) (wrap64 (i - i'))) ∧ Below w.heap.size w w' := by
  refine two_of _ _ _ k i s k' i' s' hs hs' w fun M1 M2 hk hk' => ?_
  by_cases h : fits (i - i')
  · rw [overE, if_pos h, opV_yes, wrap64_of h]
    exact two_dif_yes _ k i s k' i' s' w M1 M2 (fun w => dif_yes i i' hi hi' h w) hk hk'
  · rw [overE, if_neg h, opV_no (by decide)]
    exact two_dif_no 0 k i s k' i' s' w M1 M2 (fun w => dif_no i i' hi hi' h w) hk hk'
theorem prod_fits (a b : Int) : (fits (a * b) → prodB a b = true ∧ prodN a b = a * b) ∧ (¬ fits (a * b) → prodB a b = false) := by
  have hm : a.natAbs * b.natAbs = (a * b).natAbs := (Int.natAbs_mul a b).symm
  have hs : a * b ≠ 0 → ((decide (a < 0) != decide (b < 0)) = decide (a * b < 0)) := by
    intro h0
    rcases Int.lt_trichotomy a 0 with ha | ha | ha
    · rcases Int.lt_trichotomy b 0 with hb | hb | hb
      · have := Int.mul_pos_of_neg_of_neg ha hb
        simp [ha, hb]; omega
      · subst hb; simp at h0
      · have := Int.mul_neg_of_neg_of_pos ha hb
        rw [decide_eq_true ha, decide_eq_false (by omega : ¬ b < 0), decide_eq_true this]; rfl
    · subst ha; simp at h0
    · rcases Int.lt_trichotomy b 0 with hb | hb | hb
      · have := Int.mul_neg_of_pos_of_neg ha hb
        rw [decide_eq_true hb, decide_eq_false (by omega : ¬ a < 0), decide_eq_true this]; rfl
      · subst hb; simp at h0
      · have := Int.mul_pos ha hb
        rw [decide_eq_false (by omega : ¬ b < 0), decide_eq_false (by omega : ¬ a < 0), decide_eq_false (by omega : ¬ a * b < 0)]; rfl
  unfold prodB prodN signB signN fits
  rw [hm]
  by_cases h0 : a * b = 0
  · rw [h0]
    constructor
    · intro _
      simp
    · intro h
      exact absurd ⟨by decide, by decide⟩ h
  · rw [hs h0]
    generalize a * b = p at h0
    constructor
    · rintro ⟨h1, h2⟩
      have hle : ¬ 9223372036854775808 < p.natAbs := by omega
      rw [if_neg hle, if_neg hle]
      by_cases hp : p < 0
      · rw [decide_eq_true hp]
        by_cases h3 : p.natAbs = 9223372036854775808
        · rw [if_pos h3, if_pos h3]; exact ⟨rfl, by omega⟩
        · rw [if_neg h3, if_neg h3, if_pos rfl]; exact ⟨rfl, by omega⟩
      · have h3 : ¬ p.natAbs = 9223372036854775808 := by omega
        rw [decide_eq_false hp, if_neg h3, if_neg h3, if_neg (by simp)]
        exact ⟨rfl, by omega⟩
    · intro h
      by_cases h3 : 9223372036854775808 < p.natAbs
      · rw [if_pos h3]
      · rw [if_neg h3]
        have : ¬ p < 0 := by omega
        rw [if_pos (by omega), decide_eq_false this]
theorem two_2 (k i : Int) (s : List UInt8) (k' i' : Int) (s' : List UInt8) (hs : s.length ≤ maxLen) (hs' : s'.length ≤ maxLen) (hi : fits i) (hi' : fits i') (w : World) :
    Calls Try.prog 23 #[.int .i64 2, .agg #[.int .i64 k, .int .i64 i, .string (str s)], .agg #[.int .i64 k', .int .i64 i', .string (str s')]] w fun e w' => e = .returned (opV (expE 2 ⟨k, i, s⟩ ⟨k', i', s'⟩) (overE (i * i')) (wrap64 (i * i'))) ∧ Below w.heap.size w w' := by
  refine two_of _ _ _ k i s k' i' s' hs hs' w fun M1 M2 hk hk' => ?_
  have P := fun w => product_any i i' hi hi' w
  by_cases h : fits (i * i')
  · rw [overE, if_pos h, opV_yes, wrap64_of h]
    obtain ⟨p1, p2⟩ := (prod_fits i i').1 h
    rw [p1, p2] at P
    exact two_prod_yes _ k i s k' i' s' w M1 M2 P hk hk'
  · rw [overE, if_neg h, opV_no (by decide)]
    have p1 := (prod_fits i i').2 h
    rw [p1] at P
    exact two_prod_no _ k i s k' i' s' w M1 M2 P hk hk'
theorem tdiv_sign (x y : Int) : x.tdiv y = if (decide (x < 0) != decide (y < 0)) = true then -((sz x / sz y : Nat) : Int) else ((sz x / sz y : Nat) : Int) := by
  unfold sz
  rcases Int.lt_or_le x 0 with hx | hx
  · obtain ⟨n, rfl⟩ : ∃ n : Nat, x = -(n : Int) := ⟨x.natAbs, by omega⟩
    rcases Int.lt_or_le y 0 with hy | hy
    · obtain ⟨m, rfl⟩ : ∃ m : Nat, y = -(m : Int) := ⟨y.natAbs, by omega⟩
      rw [decide_eq_true hx, decide_eq_true hy, if_neg (by simp), Int.neg_tdiv, Int.tdiv_neg, Int.neg_neg, ← Int.ofNat_tdiv]
      simp
    · obtain ⟨m, rfl⟩ : ∃ m : Nat, y = (m : Int) := ⟨y.natAbs, by omega⟩
      rw [decide_eq_true hx, decide_eq_false (by omega), if_pos (by simp), Int.neg_tdiv, ← Int.ofNat_tdiv]
      simp
  · obtain ⟨n, rfl⟩ : ∃ n : Nat, x = (n : Int) := ⟨x.natAbs, by omega⟩
    rcases Int.lt_or_le y 0 with hy | hy
    · obtain ⟨m, rfl⟩ : ∃ m : Nat, y = -(m : Int) := ⟨y.natAbs, by omega⟩
      rw [decide_eq_false (by omega), decide_eq_true hy, if_pos (by simp), Int.tdiv_neg, ← Int.ofNat_tdiv]
      simp
    · obtain ⟨m, rfl⟩ : ∃ m : Nat, y = (m : Int) := ⟨y.natAbs, by omega⟩
      rw [decide_eq_false (by omega), decide_eq_false (by omega), if_neg (by simp), ← Int.ofNat_tdiv]
      simp
theorem tmod_sign (x y : Int) : x.tmod y = if decide (x < 0) = true then -((sz x % sz y : Nat) : Int) else ((sz x % sz y : Nat) : Int) := by
  unfold sz
  rcases Int.lt_or_le x 0 with hx | hx
  · obtain ⟨n, rfl⟩ : ∃ n : Nat, x = -(n : Int) := ⟨x.natAbs, by omega⟩
    rw [decide_eq_true hx, if_pos rfl, Int.neg_tmod]
    rcases Int.lt_or_le y 0 with hy | hy
    · obtain ⟨m, rfl⟩ : ∃ m : Nat, y = -(m : Int) := ⟨y.natAbs, by omega⟩
      rw [Int.tmod_neg, ← Int.ofNat_tmod]; simp
    · obtain ⟨m, rfl⟩ : ∃ m : Nat, y = (m : Int) := ⟨y.natAbs, by omega⟩
      rw [← Int.ofNat_tmod]; simp
  · obtain ⟨n, rfl⟩ : ∃ n : Nat, x = (n : Int) := ⟨x.natAbs, by omega⟩
    rw [decide_eq_false (by omega), if_neg (by simp)]
    rcases Int.lt_or_le y 0 with hy | hy
    · obtain ⟨m, rfl⟩ : ∃ m : Nat, y = -(m : Int) := ⟨y.natAbs, by omega⟩
      rw [Int.tmod_neg, ← Int.ofNat_tmod]; simp
    · obtain ⟨m, rfl⟩ : ∃ m : Nat, y = (m : Int) := ⟨y.natAbs, by omega⟩
      rw [← Int.ofNat_tmod]; simp
/-- The facts of a quotient's walk. -/
theorem quo_facts (x y : Int) (hx : fits x) (hy : fits y) (h0 : y ≠ 0) :
    sz x ≤ 9223372036854775808 ∧ sz y ≤ 9223372036854775808 ∧ ((sz x : Int) / (sz y : Int) = ((sz x / sz y : Nat) : Int)) ∧ ((sz x : Int).tdiv (sz y : Int) = ((sz x / sz y : Nat) : Int)) ∧
    IntKind.u64.wrap (((sz x / sz y : Nat) : Int) * (sz y : Int)) = ((sz x / sz y * sz y : Nat) : Int) ∧ IntKind.u64.wrap ((sz x : Int) - ((sz x / sz y * sz y : Nat) : Int)) = ((sz x % sz y : Nat) : Int) ∧
    sz x / sz y ≤ 9223372036854775808 ∧ 0 < sz y ∧ ((sz y : Int) == 0) = false := by
  have bx := sz_le hx
  have bY := sz_le hy
  have hp : 0 < sz y := by unfold sz; omega
  have hq : sz x / sz y ≤ sz x := Nat.div_le_self _ _
  have hm := Nat.div_add_mod (sz x) (sz y)
  rw [Nat.mul_comm] at hm
  have h1 : sz x / sz y * sz y ≤ sz x := by omega
  refine ⟨bx, bY, by simp, by rw [← Int.ofNat_tdiv], ?_, ?_, by omega, hp, by simpa using (by omega : sz y ≠ 0)⟩
  · rw [IntKind.wrap_u64, ← Int.natCast_mul]; omega
  · rw [IntKind.wrap_u64]; omega
theorem bne_spell (b c : Bool) : (b != c) = (!(b == c)) := rfl
theorem div_signed (x y : Int) (hx : fits x) (hy : fits y) (h0 : y ≠ 0) :
    (divE x y = 0 → signB (sz x / sz y) (!(decide (x < 0) == decide (y < 0))) = true ∧ signN (sz x / sz y) (!(decide (x < 0) == decide (y < 0))) = divN x y) ∧ (divE x y ≠ 0 → divE x y = 8 ∧ signB (sz x / sz y) (!(decide (x < 0) == decide (y < 0))) = false) := by
  have ht := tdiv_sign x y
  have hp : 0 < sz y := by unfold sz; omega
  have hq : sz x / sz y ≤ sz x := Nat.div_le_self _ _
  have bx := sz_le hx
  rw [← bne_spell]
  have e9 : divN x y = wrap64 (x.tdiv y) := if_neg h0
  have eE : divE x y = if y = -1 ∧ x = -9223372036854775808 then 8 else 0 := if_neg h0
  by_cases hb : y = -1 ∧ x = -9223372036854775808
  · obtain ⟨rfl, rfl⟩ := hb
    constructor
    · intro h; simp [eE] at h
    · intro _; exact ⟨by rw [eE, if_pos ⟨rfl, rfl⟩], by decide⟩
  · rw [eE, if_neg hb]
    refine ⟨fun _ => ?_, fun h => absurd rfl h⟩
    rw [e9]
    by_cases hQ : sz x / sz y = 9223372036854775808
    · have hx1 : sz x = 9223372036854775808 := by omega
      have hy1 : sz y = 1 := by
        have := Nat.div_mul_le_self (sz x) (sz y)
        rw [hQ] at this
        omega
      have hx2 : x = -9223372036854775808 := by unfold sz at hx1; have := hx.2; omega
      have hy2 : y = 1 := by
        unfold sz at hy1
        have : ¬ y = -1 := fun h => hb ⟨h, hx2⟩
        omega
      subst hx2 hy2
      simp [signB, signN, sz, wrap64]
    · have hs : signB (sz x / sz y) (decide (x < 0) != decide (y < 0)) = true := if_neg hQ
      have hn : signN (sz x / sz y) (decide (x < 0) != decide (y < 0)) = x.tdiv y := by rw [ht]; exact if_neg hQ
      rw [hs, hn]
      refine ⟨rfl, (wrap64_of ?_).symm⟩
      rw [ht]
      clear hs hn ht e9 eE
      generalize sz x / sz y = Q at *
      unfold fits
      split <;> omega
theorem mod_signed (x y : Int) (hx : fits x) (hy : fits y) (h0 : y ≠ 0) : signB (sz x % sz y) (decide (x < 0)) = true ∧ signN (sz x % sz y) (decide (x < 0)) = modN x y ∧ modE y = 0 := by
  have hp : 0 < sz y := by unfold sz; omega
  have bY := sz_le hy
  have hl := Nat.mod_lt (sz x) hp
  refine ⟨if_neg (by omega), ?_, if_neg h0⟩
  have e9 : modN x y = x.tmod y := if_neg h0
  rw [e9, tmod_sign]
  exact if_neg (by omega)
theorem two_3 (k i : Int) (s : List UInt8) (k' i' : Int) (s' : List UInt8) (hs : s.length ≤ maxLen) (hs' : s'.length ≤ maxLen) (hi : fits i) (hi' : fits i') (w : World) :
    Calls Try.prog 23 #[.int .i64 3, .agg #[.int .i64 k, .int .i64 i, .string (str s)], .agg #[.int .i64 k', .int .i64 i', .string (str s')]] w fun e w' => e = .returned (opV (expE 2 ⟨k, i, s⟩ ⟨k', i', s'⟩) (divE i i') (divN i i')) ∧ Below w.heap.size w w' := by
  refine two_of _ _ _ k i s k' i' s' hs hs' w fun M1 M2 hk hk' => ?_
  by_cases h0 : i' = 0
  · subst h0
    rw [show divE i 0 = 9 from rfl, opV_no (by decide)]
    exact two_div_zero k i s k' 0 s' w M1 M2 hk hk' rfl
  · obtain ⟨f1, f2, f3, f4, f5, f6, f7, f8, f9⟩ := quo_facts i i' hi hi' h0
    have P := fun w => signed_any (sz i / sz i') (!(decide (i < 0) == decide (i' < 0))) f7 w
    by_cases h : divE i i' = 0
    · obtain ⟨p1, p2⟩ := (div_signed i i' hi hi' h0).1 h
      rw [p1, p2] at P
      rw [h, opV_yes]
      exact two_div_yes _ _ _ _ k i s k' i' s' w M1 M2 P hk hk' (by simpa using h0) hi hi' f1 f2 f3 f4 f5 f6 f7 f8 f9
    · obtain ⟨p1, p2⟩ := (div_signed i i' hi hi' h0).2 h
      rw [p2] at P
      rw [p1, opV_no (by decide)]
      exact two_div_no _ _ _ _ k i s k' i' s' w M1 M2 P hk hk' (by simpa using h0) hi hi' f1 f2 f3 f4 f5 f6 f7 f8 f9
theorem two_4 (k i : Int) (s : List UInt8) (k' i' : Int) (s' : List UInt8) (hs : s.length ≤ maxLen) (hs' : s'.length ≤ maxLen) (hi : fits i) (hi' : fits i') (w : World) :
    Calls Try.prog 23 #[.int .i64 4, .agg #[.int .i64 k, .int .i64 i, .string (str s)], .agg #[.int .i64 k', .int .i64 i', .string (str s')]] w fun e w' => e = .returned (opV (expE 2 ⟨k, i, s⟩ ⟨k', i', s'⟩) (modE i') (modN i i')) ∧ Below w.heap.size w w' := by
  refine two_of _ _ _ k i s k' i' s' hs hs' w fun M1 M2 hk hk' => ?_
  by_cases h0 : i' = 0
  · subst h0
    rw [show modE 0 = 9 from rfl, opV_no (by decide)]
    exact two_mod_zero k i s k' 0 s' w M1 M2 hk hk' rfl
  · obtain ⟨f1, f2, f3, f4, f5, f6, f7, f8, f9⟩ := quo_facts i i' hi hi' h0
    obtain ⟨p1, p2, p3⟩ := mod_signed i i' hi hi' h0
    have P := fun w => signed_any (sz i % sz i') (decide (i < 0)) (Nat.le_trans (Nat.mod_le _ _) f1) w
    rw [p1, p2] at P
    rw [p3, opV_yes]
    exact two_mod_yes _ _ _ _ k i s k' i' s' w M1 M2 P hk hk' (by simpa using h0) hi hi' f1 f2 f3 f4 f5 f6 f7 f8 f9
end Go.Proofs.Ythakimgpaemfeaa
