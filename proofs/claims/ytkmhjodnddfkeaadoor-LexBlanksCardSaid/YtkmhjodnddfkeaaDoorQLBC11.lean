/- Lex: a byte of a text; signs. Written by wip/tools/gen16g.py. -/
import Derived.Test.YtkmhjodnddfkeaaDoorQLBC10
namespace Go.Proofs.YtkmhjodnddfkeaaDoor
open Go Go.RowKit
set_option linter.unusedVariables false
set_option linter.unusedSimpArgs false
set_option maxRecDepth 100000
/-- A byte of a text's content: it, the error, and how many bytes were taken. -/
def charQ : List UInt8 → UInt8 × Nat × Nat
  | [] => (0, 2, 1)
  | d :: _ => if d = 34 then (34, 0, 2) else if d = 92 then (92, 0, 2) else if d = 110 then (10, 0, 2) else (0, 3, 2)
def charP (c : UInt8) (r : List UInt8) : UInt8 × Nat × Nat :=
  if c.toNat < 32 ∨ 126 < c.toNat then (0, 3, 1) else if c ≠ 92 then (c, 0, 1) else charQ r
def GivesC (p : Nat) (s : List UInt8) (a : Nat) (w : World) (R : UInt8 × Nat × Nat) (e : Ending) (w' : World) : Prop :=
  e = .returned (.tuple #[.int .u8 (R.1.toNat : Int), .int .i64 (R.2.1 : Int)]) ∧ Lx w' p s (a + R.2.2) ∧ w.grownBy w' (some p)
theorem str_ix0 (c : UInt8) (W : World) : (Instr.index 9 (.string (str [c])) (.int .i64 0)).run Tryd.prog W = .ok (.int .u8 (c.toNat : Int)) W := by
  have h1 : 0 < (str [c]).size := by rw [str_size]; exact Nat.zero_lt_one
  have e : ∀ h, (str [c])[0]'h = c := fun h => (str_byte [c] 0 h).trans rfl
  simp [Instr.index, run_underlying Tryd.underlying9, asIntOf, h1, e, Result.andThen]
set_option maxHeartbeats 2000000 in
theorem char_any (p : Nat) (s : List UInt8) (a : Nat) (w : World) (l0 : Lx w p s a) (c : UInt8) (r : List UInt8) (hcr : s.drop a = c :: r) (hs : s.length ≤ 4096) :
    Calls Tryd.prog 31 #[.pointer (some ⟨p, 0, none⟩)] w (GivesC p s a w (charP c r)) := by
  have hlen : s.length - a = r.length + 1 := by have := congrArg List.length hcr; rw [List.length_drop] at this; simpa using this
  have TK := Lib.hid (fun w' (h : Lx w' p s a) => (show Calls Tryd.prog 28 #[.pointer (some ⟨p, 0, none⟩), .int .i64 1] w' fun e w'' => e = .returned (.string (str [c])) ∧ Lx w'' p s (a + 1) ∧ w'.grownBy w'' (some p) by
    have := take_any p s a 1 w' h (by omega) hs
    rw [hcr] at this
    exact this))
  have IX := str_ix0 c
  have HIC := Lib.hid (show ∀ n : Nat, n < 256 → (c.toNat = n ↔ c = UInt8.ofNat n) from fun n hn => ⟨fun e => UInt8.toNat_inj.1 (by rw [e]; simp; omega), fun e => by rw [e]; simp; omega⟩)
  have HR2 := Lib.hid (show a + 1 ≤ s.length by omega)
  have hsz := str_size s
  have hal : a + 1 + r.length = s.length := by omega
  obtain ⟨Z, hZ⟩ : ∃ Z, Z = GivesC p s a w (charP c r) := ⟨_, rfl⟩
  rw [← hZ]
  have HZ := Lib.hid hZ
  have hc256 : c.toNat < 256 := c.toNat_lt
  have HCN : c = 92 ↔ c.toNat = 92 := ⟨fun e => by rw [e]; rfl, fun e => UInt8.toNat_inj.1 e⟩
  obtain ⟨T, hT⟩ : ∃ T, T = str [c] := ⟨_, rfl⟩
  rw [← hT] at TK IX
  obtain ⟨cn, hcn⟩ : ∃ cn, cn = c.toNat := ⟨_, rfl⟩
  have HCN2 := Lib.hid hcn
  have HHC := Lib.hid HCN
  rw [← hcn] at IX hc256
  clear hZ hT hcn HCN
  by_cases h1 : cn < 32 ∨ 126 < cn
  · have HE := Lib.hid (show charP c r = (0, 3, 1) by unfold charP; rw [if_pos (by rw [← HCN2.out]; exact h1)])
    rcases h1 with h1 | h1
    · go_enter Tryd.func31, Tryd.ntmps31
      go_wp2_with ((with_reducible refine (TK.out _ l0).mono ?_); rintro e w1 ⟨rfl, l1, g1⟩)
      first | (show Z (.returned (.tuple #[.int .u8 0, .int .i64 3])) _) | (go_ret2; show Z (.returned (.tuple #[.int .u8 0, .int .i64 3])) _)
      rw [HZ.out]
      unfold GivesC
      rw [HE.out]
      exact ⟨rfl, l1, g1⟩
    · have h2 : ¬ (cn : Int) < 32 := by omega
      go_enter Tryd.func31, Tryd.ntmps31
      go_wp2_with ((with_reducible refine (TK.out _ l0).mono ?_); rintro e w1 ⟨rfl, l1, g1⟩)
      first | (show Z (.returned (.tuple #[.int .u8 0, .int .i64 3])) _) | (go_ret2; show Z (.returned (.tuple #[.int .u8 0, .int .i64 3])) _)
      rw [HZ.out]
      unfold GivesC
      rw [HE.out]
      exact ⟨rfl, l1, g1⟩
  have h1a : ¬ (cn : Int) < 32 := by omega
  have h1b : ¬ (126 : Int) < (cn : Int) := by omega
  have HN1 := Lib.hid h1
  by_cases h92 : cn = 92
  rotate_left
  · have HE := Lib.hid (show charP c r = (c, 0, 1) by
      unfold charP
      rw [if_neg (by rw [← HCN2.out]; exact HN1.out), if_pos (by intro e; exact h92 (HCN2.out.trans (HHC.out.1 e)))])
    have h2 : ((cn : Int) != 92) = true := by simp; omega
    clear h1 h92
    go_enter Tryd.func31, Tryd.ntmps31
    go_wp2_with ((with_reducible refine (TK.out _ l0).mono ?_); rintro e w1 ⟨rfl, l1, g1⟩)
    first | (show Z (.returned (.tuple #[.int .u8 (cn : Int), .int .i64 0])) _) | (go_ret2; show Z (.returned (.tuple #[.int .u8 (cn : Int), .int .i64 0])) _)
    rw [HZ.out]
    unfold GivesC
    rw [HE.out, HCN2.out]
    exact ⟨rfl, l1, g1⟩
  have HE0 := Lib.hid (show charP c r = charQ r by
    unfold charP
    rw [if_neg (by rw [← HCN2.out]; exact HN1.out), if_neg (by intro e; exact e (HHC.out.2 (HCN2.out.symm.trans h92)))])
  have h2 : ((cn : Int) != 92) = false := by rw [h92]; rfl
  subst h92
  clear h1
  cases r with
  | nil =>
    have h3 : (((a + 1 : Nat) : Int) == (s.length : Int)) = true := by simp at hal; simp; omega
    obtain ⟨a1, ha1⟩ : ∃ a1, a1 = a + 1 := ⟨_, rfl⟩
    rw [← ha1] at h3 TK
    have HA1 := Lib.hid ha1
    clear ha1
    go_enter Tryd.func31, Tryd.ntmps31
    go_wp2_with ((with_reducible refine (TK.out _ l0).mono ?_); rintro e w1 ⟨rfl, l1, g1⟩)
    obtain ⟨e0, e1, ef⟩ := block_cells2 l1
    have hlp := lt_of_block l1
    refine g_start (by kernel_rfl) ?_
    refine g_take (i := 0) (d := (some 20)) (v := ?_) rfl rfl (by kernel_rfl) (fun _ _ _ h => h) (by rfl) (fun w' hb' => ?_) ?_
    rotate_left
    · (try go_simp); (try with_reducible rfl)
    try simp only [Act.put, List.setIfInBounds_toArray, List.set_cons_zero, List.set_cons_succ]
    refine g_take (i := 1) (d := (some 21)) (v := ?_) rfl rfl (by kernel_rfl) (fun _ _ _ h => h) (by rfl) (fun w' hb' => ?_) ?_
    rotate_left
    · (try go_simp); (try with_reducible rfl)
    try simp only [Act.put, List.setIfInBounds_toArray, List.set_cons_zero, List.set_cons_succ]
    refine g_take (i := 2) (d := (some 22)) (v := ?_) rfl rfl (by kernel_rfl) (fun _ _ _ h => h) (by rfl) (fun w' hb' => ?_) ?_
    rotate_left
    · (try go_simp); (try with_reducible rfl)
    try simp only [Act.put, List.setIfInBounds_toArray, List.set_cons_zero, List.set_cons_succ]
    refine g_take (i := 3) (d := (some 23)) (v := ?_) rfl rfl (by kernel_rfl) (fun _ _ _ h => h) (by rfl) (fun w' hb' => ?_) ?_
    rotate_left
    · have z := (hb'.cell (p := ⟨p, 1, none⟩) hlp).trans e1; (try go_simp); (try with_reducible rfl)
    try simp only [Act.put, List.setIfInBounds_toArray, List.set_cons_zero, List.set_cons_succ]
    refine g_take (i := 4) (d := (some 24)) (v := ?_) rfl rfl (by kernel_rfl) (fun _ _ _ h => h) (by rfl) (fun w' hb' => ?_) ?_
    rotate_left
    · (try go_simp); (try with_reducible rfl)
    try simp only [Act.put, List.setIfInBounds_toArray, List.set_cons_zero, List.set_cons_succ]
    refine g_take (i := 5) (d := (some 25)) (v := ?_) rfl rfl (by kernel_rfl) (fun _ _ _ h => h) (by rfl) (fun w' hb' => ?_) ?_
    rotate_left
    · (try go_simp); (try with_reducible rfl)
    try simp only [Act.put, List.setIfInBounds_toArray, List.set_cons_zero, List.set_cons_succ]
    refine g_take (i := 6) (d := (some 26)) (v := ?_) rfl rfl (by kernel_rfl) (fun _ _ _ h => h) (by rfl) (fun w' hb' => ?_) ?_
    rotate_left
    · (try go_simp); (try with_reducible rfl)
    try simp only [Act.put, List.setIfInBounds_toArray, List.set_cons_zero, List.set_cons_succ]
    refine g_take (i := 7) (d := (some 27)) (v := ?_) rfl rfl (by kernel_rfl) (fun _ _ _ h => h) (by rfl) (fun w' hb' => ?_) ?_
    rotate_left
    · have z := (hb'.cell (p := ⟨p, 0, none⟩) hlp).trans e0; (try go_simp); (try with_reducible rfl)
    try simp only [Act.put, List.setIfInBounds_toArray, List.set_cons_zero, List.set_cons_succ]
    refine g_take (i := 8) (d := (some 28)) (v := ?_) rfl rfl (by kernel_rfl) (fun _ _ _ h => h) (by rfl) (fun w' hb' => ?_) ?_
    rotate_left
    · (try go_simp); (try with_reducible rfl)
    try simp only [Act.put, List.setIfInBounds_toArray, List.set_cons_zero, List.set_cons_succ]
    refine g_take (i := 9) (d := (some 29)) (v := ?_) rfl rfl (by kernel_rfl) (fun _ _ _ h => h) (by rfl) (fun w' hb' => ?_) ?_
    rotate_left
    · (try go_simp); (try with_reducible rfl)
    try simp only [Act.put, List.setIfInBounds_toArray, List.set_cons_zero, List.set_cons_succ]
    refine g_take (i := 10) (d := (some 19)) (v := ?_) rfl rfl (by kernel_rfl) (fun _ _ _ h => h) (by rfl) (fun w' hb' => ?_) ?_
    rotate_left
    · (try go_simp); (try with_reducible rfl)
    try simp only [Act.put, List.setIfInBounds_toArray, List.set_cons_zero, List.set_cons_succ]
    refine g_done (by kernel_rfl) ?_
    go_wp2_with fail
    first | (show Z (.returned (.tuple #[.int .u8 0, .int .i64 2])) _) | (go_ret2; show Z (.returned (.tuple #[.int .u8 0, .int .i64 2])) _)
    rw [HZ.out]
    unfold GivesC
    rw [HE0.out]
    exact ⟨rfl, by show Lx w1.drew p s (a + 1); rw [← HA1.out]; exact l1, grown_drewB g1⟩
  | cons d r2 =>
    have h3 : (((a + 1 : Nat) : Int) == (s.length : Int)) = false := by simp at hal; simp; omega
    have hd1 : s.drop (a + 1) = d :: r2 := by
      have := congrArg (List.drop 1) hcr
      rwa [List.drop_drop] at this
    have TK2 := Lib.hid (fun w' (h : Lx w' p s (a + 1)) => (show Calls Tryd.prog 28 #[.pointer (some ⟨p, 0, none⟩), .int .i64 1] w' fun e w'' => e = .returned (.string (str [d])) ∧ Lx w'' p s (a + 2) ∧ w'.grownBy w'' (some p) by
      have := take_any p s (a + 1) 1 w' h (by simp at hal; omega) hs
      rw [hd1] at this
      exact this))
    have n1 : ((str [d]).toList == [34]) = decide (d = 34) := by rw [str_tl, Bool.eq_iff_iff]; simp
    have n2 : ((str [d]).toList == [92]) = decide (d = 92) := by rw [str_tl, Bool.eq_iff_iff]; simp
    have n3 : ((str [d]).toList == [110]) = decide (d = 110) := by rw [str_tl, Bool.eq_iff_iff]; simp
    obtain ⟨T2, hT2⟩ : ∃ T, T = str [d] := ⟨_, rfl⟩
    rw [← hT2] at TK2 n1 n2 n3
    obtain ⟨a1, ha1⟩ : ∃ a1, a1 = a + 1 := ⟨_, rfl⟩
    rw [← ha1] at h3 TK TK2
    have HA1 := Lib.hid ha1
    clear ha1 hT2 hd1 hcr hlen hal
    by_cases d1 : d = 34
    · have m1 : (T2.toList == [34]) = true := by rw [n1]; simpa using d1
      have HD := Lib.hid (show charP c (d :: r2) = (34, 0, 2) from HE0.out.trans (if_pos d1))
      clear n1 n2 n3 d1
      go_enter Tryd.func31, Tryd.ntmps31
      go_wp2_with ((with_reducible refine (TK.out _ l0).mono ?_); rintro e w1 ⟨rfl, l1, g1⟩)
      obtain ⟨e0, e1, ef⟩ := block_cells2 l1
      have hlp := lt_of_block l1
      refine g_start (by kernel_rfl) ?_
      refine g_take (i := 0) (d := (some 20)) (v := ?_) rfl rfl (by kernel_rfl) (fun _ _ _ h => h) (by rfl) (fun w' hb' => ?_) ?_
      rotate_left
      · (try go_simp); (try with_reducible rfl)
      try simp only [Act.put, List.setIfInBounds_toArray, List.set_cons_zero, List.set_cons_succ]
      refine g_take (i := 1) (d := (some 21)) (v := ?_) rfl rfl (by kernel_rfl) (fun _ _ _ h => h) (by rfl) (fun w' hb' => ?_) ?_
      rotate_left
      · (try go_simp); (try with_reducible rfl)
      try simp only [Act.put, List.setIfInBounds_toArray, List.set_cons_zero, List.set_cons_succ]
      refine g_take (i := 2) (d := (some 22)) (v := ?_) rfl rfl (by kernel_rfl) (fun _ _ _ h => h) (by rfl) (fun w' hb' => ?_) ?_
      rotate_left
      · (try go_simp); (try with_reducible rfl)
      try simp only [Act.put, List.setIfInBounds_toArray, List.set_cons_zero, List.set_cons_succ]
      refine g_take (i := 3) (d := (some 23)) (v := ?_) rfl rfl (by kernel_rfl) (fun _ _ _ h => h) (by rfl) (fun w' hb' => ?_) ?_
      rotate_left
      · have z := (hb'.cell (p := ⟨p, 1, none⟩) hlp).trans e1; (try go_simp); (try with_reducible rfl)
      try simp only [Act.put, List.setIfInBounds_toArray, List.set_cons_zero, List.set_cons_succ]
      refine g_take (i := 4) (d := (some 24)) (v := ?_) rfl rfl (by kernel_rfl) (fun _ _ _ h => h) (by rfl) (fun w' hb' => ?_) ?_
      rotate_left
      · (try go_simp); (try with_reducible rfl)
      try simp only [Act.put, List.setIfInBounds_toArray, List.set_cons_zero, List.set_cons_succ]
      refine g_take (i := 5) (d := (some 25)) (v := ?_) rfl rfl (by kernel_rfl) (fun _ _ _ h => h) (by rfl) (fun w' hb' => ?_) ?_
      rotate_left
      · (try go_simp); (try with_reducible rfl)
      try simp only [Act.put, List.setIfInBounds_toArray, List.set_cons_zero, List.set_cons_succ]
      refine g_take (i := 6) (d := (some 26)) (v := ?_) rfl rfl (by kernel_rfl) (fun _ _ _ h => h) (by rfl) (fun w' hb' => ?_) ?_
      rotate_left
      · (try go_simp); (try with_reducible rfl)
      try simp only [Act.put, List.setIfInBounds_toArray, List.set_cons_zero, List.set_cons_succ]
      refine g_take (i := 7) (d := (some 27)) (v := ?_) rfl rfl (by kernel_rfl) (fun _ _ _ h => h) (by rfl) (fun w' hb' => ?_) ?_
      rotate_left
      · have z := (hb'.cell (p := ⟨p, 0, none⟩) hlp).trans e0; (try go_simp); (try with_reducible rfl)
      try simp only [Act.put, List.setIfInBounds_toArray, List.set_cons_zero, List.set_cons_succ]
      refine g_take (i := 8) (d := (some 28)) (v := ?_) rfl rfl (by kernel_rfl) (fun _ _ _ h => h) (by rfl) (fun w' hb' => ?_) ?_
      rotate_left
      · (try go_simp); (try with_reducible rfl)
      try simp only [Act.put, List.setIfInBounds_toArray, List.set_cons_zero, List.set_cons_succ]
      refine g_take (i := 9) (d := (some 29)) (v := ?_) rfl rfl (by kernel_rfl) (fun _ _ _ h => h) (by rfl) (fun w' hb' => ?_) ?_
      rotate_left
      · (try go_simp); (try with_reducible rfl)
      try simp only [Act.put, List.setIfInBounds_toArray, List.set_cons_zero, List.set_cons_succ]
      refine g_take (i := 10) (d := (some 19)) (v := ?_) rfl rfl (by kernel_rfl) (fun _ _ _ h => h) (by rfl) (fun w' hb' => ?_) ?_
      rotate_left
      · (try go_simp); (try with_reducible rfl)
      try simp only [Act.put, List.setIfInBounds_toArray, List.set_cons_zero, List.set_cons_succ]
      refine g_done (by kernel_rfl) ?_
      have l2 : Lx w1.drew p s a1 := l1
      have g2 : w.grownBy w1.drew (some p) := grown_drewB g1
      go_wp2_with ((with_reducible refine (TK2.out _ l2).mono ?_); rintro e w3 ⟨rfl, l3, g3⟩)
      first | (show Z (.returned (.tuple #[.int .u8 34, .int .i64 0])) _) | (go_ret2; show Z (.returned (.tuple #[.int .u8 34, .int .i64 0])) _)
      rw [HZ.out]
      unfold GivesC
      rw [HD.out]
      exact ⟨rfl, l3, grown_transB g2 g3⟩
    have m1 : (T2.toList == [34]) = false := by rw [n1]; simpa using d1
    by_cases d2 : d = 92
    · have m2 : (T2.toList == [92]) = true := by rw [n2]; simpa using d2
      have HD := Lib.hid (show charP c (d :: r2) = (92, 0, 2) from HE0.out.trans ((if_neg d1).trans (if_pos d2)))
      clear n1 n2 n3 d1 d2
      go_enter Tryd.func31, Tryd.ntmps31
      go_wp2_with ((with_reducible refine (TK.out _ l0).mono ?_); rintro e w1 ⟨rfl, l1, g1⟩)
      obtain ⟨e0, e1, ef⟩ := block_cells2 l1
      have hlp := lt_of_block l1
      refine g_start (by kernel_rfl) ?_
      refine g_take (i := 0) (d := (some 20)) (v := ?_) rfl rfl (by kernel_rfl) (fun _ _ _ h => h) (by rfl) (fun w' hb' => ?_) ?_
      rotate_left
      · (try go_simp); (try with_reducible rfl)
      try simp only [Act.put, List.setIfInBounds_toArray, List.set_cons_zero, List.set_cons_succ]
      refine g_take (i := 1) (d := (some 21)) (v := ?_) rfl rfl (by kernel_rfl) (fun _ _ _ h => h) (by rfl) (fun w' hb' => ?_) ?_
      rotate_left
      · (try go_simp); (try with_reducible rfl)
      try simp only [Act.put, List.setIfInBounds_toArray, List.set_cons_zero, List.set_cons_succ]
      refine g_take (i := 2) (d := (some 22)) (v := ?_) rfl rfl (by kernel_rfl) (fun _ _ _ h => h) (by rfl) (fun w' hb' => ?_) ?_
      rotate_left
      · (try go_simp); (try with_reducible rfl)
      try simp only [Act.put, List.setIfInBounds_toArray, List.set_cons_zero, List.set_cons_succ]
      refine g_take (i := 3) (d := (some 23)) (v := ?_) rfl rfl (by kernel_rfl) (fun _ _ _ h => h) (by rfl) (fun w' hb' => ?_) ?_
      rotate_left
      · have z := (hb'.cell (p := ⟨p, 1, none⟩) hlp).trans e1; (try go_simp); (try with_reducible rfl)
      try simp only [Act.put, List.setIfInBounds_toArray, List.set_cons_zero, List.set_cons_succ]
      refine g_take (i := 4) (d := (some 24)) (v := ?_) rfl rfl (by kernel_rfl) (fun _ _ _ h => h) (by rfl) (fun w' hb' => ?_) ?_
      rotate_left
      · (try go_simp); (try with_reducible rfl)
      try simp only [Act.put, List.setIfInBounds_toArray, List.set_cons_zero, List.set_cons_succ]
      refine g_take (i := 5) (d := (some 25)) (v := ?_) rfl rfl (by kernel_rfl) (fun _ _ _ h => h) (by rfl) (fun w' hb' => ?_) ?_
      rotate_left
      · (try go_simp); (try with_reducible rfl)
      try simp only [Act.put, List.setIfInBounds_toArray, List.set_cons_zero, List.set_cons_succ]
      refine g_take (i := 6) (d := (some 26)) (v := ?_) rfl rfl (by kernel_rfl) (fun _ _ _ h => h) (by rfl) (fun w' hb' => ?_) ?_
      rotate_left
      · (try go_simp); (try with_reducible rfl)
      try simp only [Act.put, List.setIfInBounds_toArray, List.set_cons_zero, List.set_cons_succ]
      refine g_take (i := 7) (d := (some 27)) (v := ?_) rfl rfl (by kernel_rfl) (fun _ _ _ h => h) (by rfl) (fun w' hb' => ?_) ?_
      rotate_left
      · have z := (hb'.cell (p := ⟨p, 0, none⟩) hlp).trans e0; (try go_simp); (try with_reducible rfl)
      try simp only [Act.put, List.setIfInBounds_toArray, List.set_cons_zero, List.set_cons_succ]
      refine g_take (i := 8) (d := (some 28)) (v := ?_) rfl rfl (by kernel_rfl) (fun _ _ _ h => h) (by rfl) (fun w' hb' => ?_) ?_
      rotate_left
      · (try go_simp); (try with_reducible rfl)
      try simp only [Act.put, List.setIfInBounds_toArray, List.set_cons_zero, List.set_cons_succ]
      refine g_take (i := 9) (d := (some 29)) (v := ?_) rfl rfl (by kernel_rfl) (fun _ _ _ h => h) (by rfl) (fun w' hb' => ?_) ?_
      rotate_left
      · (try go_simp); (try with_reducible rfl)
      try simp only [Act.put, List.setIfInBounds_toArray, List.set_cons_zero, List.set_cons_succ]
      refine g_take (i := 10) (d := (some 19)) (v := ?_) rfl rfl (by kernel_rfl) (fun _ _ _ h => h) (by rfl) (fun w' hb' => ?_) ?_
      rotate_left
      · (try go_simp); (try with_reducible rfl)
      try simp only [Act.put, List.setIfInBounds_toArray, List.set_cons_zero, List.set_cons_succ]
      refine g_done (by kernel_rfl) ?_
      have l2 : Lx w1.drew p s a1 := l1
      have g2 : w.grownBy w1.drew (some p) := grown_drewB g1
      go_wp2_with ((with_reducible refine (TK2.out _ l2).mono ?_); rintro e w3 ⟨rfl, l3, g3⟩)
      first | (show Z (.returned (.tuple #[.int .u8 92, .int .i64 0])) _) | (go_ret2; show Z (.returned (.tuple #[.int .u8 92, .int .i64 0])) _)
      rw [HZ.out]
      unfold GivesC
      rw [HD.out]
      exact ⟨rfl, l3, grown_transB g2 g3⟩
    have m2 : (T2.toList == [92]) = false := by rw [n2]; simpa using d2
    by_cases d3 : d = 110
    · have m3 : (T2.toList == [110]) = true := by rw [n3]; simpa using d3
      have HD := Lib.hid (show charP c (d :: r2) = (10, 0, 2) from HE0.out.trans ((if_neg d1).trans ((if_neg d2).trans (if_pos d3))))
      clear n1 n2 n3 d1 d2 d3
      go_enter Tryd.func31, Tryd.ntmps31
      go_wp2_with ((with_reducible refine (TK.out _ l0).mono ?_); rintro e w1 ⟨rfl, l1, g1⟩)
      obtain ⟨e0, e1, ef⟩ := block_cells2 l1
      have hlp := lt_of_block l1
      refine g_start (by kernel_rfl) ?_
      refine g_take (i := 0) (d := (some 20)) (v := ?_) rfl rfl (by kernel_rfl) (fun _ _ _ h => h) (by rfl) (fun w' hb' => ?_) ?_
      rotate_left
      · (try go_simp); (try with_reducible rfl)
      try simp only [Act.put, List.setIfInBounds_toArray, List.set_cons_zero, List.set_cons_succ]
      refine g_take (i := 1) (d := (some 21)) (v := ?_) rfl rfl (by kernel_rfl) (fun _ _ _ h => h) (by rfl) (fun w' hb' => ?_) ?_
      rotate_left
      · (try go_simp); (try with_reducible rfl)
      try simp only [Act.put, List.setIfInBounds_toArray, List.set_cons_zero, List.set_cons_succ]
      refine g_take (i := 2) (d := (some 22)) (v := ?_) rfl rfl (by kernel_rfl) (fun _ _ _ h => h) (by rfl) (fun w' hb' => ?_) ?_
      rotate_left
      · (try go_simp); (try with_reducible rfl)
      try simp only [Act.put, List.setIfInBounds_toArray, List.set_cons_zero, List.set_cons_succ]
      refine g_take (i := 3) (d := (some 23)) (v := ?_) rfl rfl (by kernel_rfl) (fun _ _ _ h => h) (by rfl) (fun w' hb' => ?_) ?_
      rotate_left
      · have z := (hb'.cell (p := ⟨p, 1, none⟩) hlp).trans e1; (try go_simp); (try with_reducible rfl)
      try simp only [Act.put, List.setIfInBounds_toArray, List.set_cons_zero, List.set_cons_succ]
      refine g_take (i := 4) (d := (some 24)) (v := ?_) rfl rfl (by kernel_rfl) (fun _ _ _ h => h) (by rfl) (fun w' hb' => ?_) ?_
      rotate_left
      · (try go_simp); (try with_reducible rfl)
      try simp only [Act.put, List.setIfInBounds_toArray, List.set_cons_zero, List.set_cons_succ]
      refine g_take (i := 5) (d := (some 25)) (v := ?_) rfl rfl (by kernel_rfl) (fun _ _ _ h => h) (by rfl) (fun w' hb' => ?_) ?_
      rotate_left
      · (try go_simp); (try with_reducible rfl)
      try simp only [Act.put, List.setIfInBounds_toArray, List.set_cons_zero, List.set_cons_succ]
      refine g_take (i := 6) (d := (some 26)) (v := ?_) rfl rfl (by kernel_rfl) (fun _ _ _ h => h) (by rfl) (fun w' hb' => ?_) ?_
      rotate_left
      · (try go_simp); (try with_reducible rfl)
      try simp only [Act.put, List.setIfInBounds_toArray, List.set_cons_zero, List.set_cons_succ]
      refine g_take (i := 7) (d := (some 27)) (v := ?_) rfl rfl (by kernel_rfl) (fun _ _ _ h => h) (by rfl) (fun w' hb' => ?_) ?_
      rotate_left
      · have z := (hb'.cell (p := ⟨p, 0, none⟩) hlp).trans e0; (try go_simp); (try with_reducible rfl)
      try simp only [Act.put, List.setIfInBounds_toArray, List.set_cons_zero, List.set_cons_succ]
      refine g_take (i := 8) (d := (some 28)) (v := ?_) rfl rfl (by kernel_rfl) (fun _ _ _ h => h) (by rfl) (fun w' hb' => ?_) ?_
      rotate_left
      · (try go_simp); (try with_reducible rfl)
      try simp only [Act.put, List.setIfInBounds_toArray, List.set_cons_zero, List.set_cons_succ]
      refine g_take (i := 9) (d := (some 29)) (v := ?_) rfl rfl (by kernel_rfl) (fun _ _ _ h => h) (by rfl) (fun w' hb' => ?_) ?_
      rotate_left
      · (try go_simp); (try with_reducible rfl)
      try simp only [Act.put, List.setIfInBounds_toArray, List.set_cons_zero, List.set_cons_succ]
      refine g_take (i := 10) (d := (some 19)) (v := ?_) rfl rfl (by kernel_rfl) (fun _ _ _ h => h) (by rfl) (fun w' hb' => ?_) ?_
      rotate_left
      · (try go_simp); (try with_reducible rfl)
      try simp only [Act.put, List.setIfInBounds_toArray, List.set_cons_zero, List.set_cons_succ]
      refine g_done (by kernel_rfl) ?_
      have l2 : Lx w1.drew p s a1 := l1
      have g2 : w.grownBy w1.drew (some p) := grown_drewB g1
      go_wp2_with ((with_reducible refine (TK2.out _ l2).mono ?_); rintro e w3 ⟨rfl, l3, g3⟩)
      first | (show Z (.returned (.tuple #[.int .u8 10, .int .i64 0])) _) | (go_ret2; show Z (.returned (.tuple #[.int .u8 10, .int .i64 0])) _)
      rw [HZ.out]
      unfold GivesC
      rw [HD.out]
      exact ⟨rfl, l3, grown_transB g2 g3⟩
    have m3 : (T2.toList == [110]) = false := by rw [n3]; simpa using d3
    have HD := Lib.hid (show charP c (d :: r2) = (0, 3, 2) from HE0.out.trans ((if_neg d1).trans ((if_neg d2).trans (if_neg d3))))
    clear n1 n2 n3 d1 d2 d3
    go_enter Tryd.func31, Tryd.ntmps31
    go_wp2_with ((with_reducible refine (TK.out _ l0).mono ?_); rintro e w1 ⟨rfl, l1, g1⟩)
    obtain ⟨e0, e1, ef⟩ := block_cells2 l1
    have hlp := lt_of_block l1
    refine g_start (by kernel_rfl) ?_
    refine g_take (i := 0) (d := (some 20)) (v := ?_) rfl rfl (by kernel_rfl) (fun _ _ _ h => h) (by rfl) (fun w' hb' => ?_) ?_
    rotate_left
    · (try go_simp); (try with_reducible rfl)
    try simp only [Act.put, List.setIfInBounds_toArray, List.set_cons_zero, List.set_cons_succ]
    refine g_take (i := 1) (d := (some 21)) (v := ?_) rfl rfl (by kernel_rfl) (fun _ _ _ h => h) (by rfl) (fun w' hb' => ?_) ?_
    rotate_left
    · (try go_simp); (try with_reducible rfl)
    try simp only [Act.put, List.setIfInBounds_toArray, List.set_cons_zero, List.set_cons_succ]
    refine g_take (i := 2) (d := (some 22)) (v := ?_) rfl rfl (by kernel_rfl) (fun _ _ _ h => h) (by rfl) (fun w' hb' => ?_) ?_
    rotate_left
    · (try go_simp); (try with_reducible rfl)
    try simp only [Act.put, List.setIfInBounds_toArray, List.set_cons_zero, List.set_cons_succ]
    refine g_take (i := 3) (d := (some 23)) (v := ?_) rfl rfl (by kernel_rfl) (fun _ _ _ h => h) (by rfl) (fun w' hb' => ?_) ?_
    rotate_left
    · have z := (hb'.cell (p := ⟨p, 1, none⟩) hlp).trans e1; (try go_simp); (try with_reducible rfl)
    try simp only [Act.put, List.setIfInBounds_toArray, List.set_cons_zero, List.set_cons_succ]
    refine g_take (i := 4) (d := (some 24)) (v := ?_) rfl rfl (by kernel_rfl) (fun _ _ _ h => h) (by rfl) (fun w' hb' => ?_) ?_
    rotate_left
    · (try go_simp); (try with_reducible rfl)
    try simp only [Act.put, List.setIfInBounds_toArray, List.set_cons_zero, List.set_cons_succ]
    refine g_take (i := 5) (d := (some 25)) (v := ?_) rfl rfl (by kernel_rfl) (fun _ _ _ h => h) (by rfl) (fun w' hb' => ?_) ?_
    rotate_left
    · (try go_simp); (try with_reducible rfl)
    try simp only [Act.put, List.setIfInBounds_toArray, List.set_cons_zero, List.set_cons_succ]
    refine g_take (i := 6) (d := (some 26)) (v := ?_) rfl rfl (by kernel_rfl) (fun _ _ _ h => h) (by rfl) (fun w' hb' => ?_) ?_
    rotate_left
    · (try go_simp); (try with_reducible rfl)
    try simp only [Act.put, List.setIfInBounds_toArray, List.set_cons_zero, List.set_cons_succ]
    refine g_take (i := 7) (d := (some 27)) (v := ?_) rfl rfl (by kernel_rfl) (fun _ _ _ h => h) (by rfl) (fun w' hb' => ?_) ?_
    rotate_left
    · have z := (hb'.cell (p := ⟨p, 0, none⟩) hlp).trans e0; (try go_simp); (try with_reducible rfl)
    try simp only [Act.put, List.setIfInBounds_toArray, List.set_cons_zero, List.set_cons_succ]
    refine g_take (i := 8) (d := (some 28)) (v := ?_) rfl rfl (by kernel_rfl) (fun _ _ _ h => h) (by rfl) (fun w' hb' => ?_) ?_
    rotate_left
    · (try go_simp); (try with_reducible rfl)
    try simp only [Act.put, List.setIfInBounds_toArray, List.set_cons_zero, List.set_cons_succ]
    refine g_take (i := 9) (d := (some 29)) (v := ?_) rfl rfl (by kernel_rfl) (fun _ _ _ h => h) (by rfl) (fun w' hb' => ?_) ?_
    rotate_left
    · (try go_simp); (try with_reducible rfl)
    try simp only [Act.put, List.setIfInBounds_toArray, List.set_cons_zero, List.set_cons_succ]
    refine g_take (i := 10) (d := (some 19)) (v := ?_) rfl rfl (by kernel_rfl) (fun _ _ _ h => h) (by rfl) (fun w' hb' => ?_) ?_
    rotate_left
    · (try go_simp); (try with_reducible rfl)
    try simp only [Act.put, List.setIfInBounds_toArray, List.set_cons_zero, List.set_cons_succ]
    refine g_done (by kernel_rfl) ?_
    have l2 : Lx w1.drew p s a1 := l1
    have g2 : w.grownBy w1.drew (some p) := grown_drewB g1
    go_wp2_with ((with_reducible refine (TK2.out _ l2).mono ?_); rintro e w3 ⟨rfl, l3, g3⟩)
    first | (show Z (.returned (.tuple #[.int .u8 0, .int .i64 3])) _) | (go_ret2; show Z (.returned (.tuple #[.int .u8 0, .int .i64 3])) _)
    rw [HZ.out]
    unfold GivesC
    rw [HD.out]
    exact ⟨rfl, l3, grown_transB g2 g3⟩
end Go.Proofs.YtkmhjodnddfkeaaDoor
