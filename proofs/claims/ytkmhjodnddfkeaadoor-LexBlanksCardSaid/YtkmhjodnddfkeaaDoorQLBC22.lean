/- Lex: which reader; Tokens. Written by wip/tools/gen16j.py. -/
import Derived.Test.YtkmhjodnddfkeaaDoorQLBC20
import Derived.Test.YtkmhjodnddfkeaaDoorQLBC16
import Derived.Test.YtkmhjodnddfkeaaDoorQLBC21
namespace Go.Proofs.YtkmhjodnddfkeaaDoor
open Go Go.RowKit
set_option linter.unusedVariables false
set_option linter.unusedSimpArgs false
set_option maxRecDepth 100000
def fnOf (c : UInt8) : Nat := if letB c then 22 else if digB c then 24 else if c = 34 then 25 else 26
set_option maxHeartbeats 2000000 in
theorem reader_any (p : Nat) (s : List UInt8) (a : Nat) (w : World) (h : Lx w p s a) (c : UInt8) (r : List UInt8) (hcr : s.drop a = c :: r) :
    Calls Tryd.prog 17 #[.pointer (some ⟨p, 0, none⟩)] w fun e w' => e = .returned (.func (.func (fnOf c)) #[.pointer (some ⟨p, 0, none⟩)] #[]) ∧ Below w.heap.size w w' := by
  have hlt : a < s.length := by
    apply Nat.lt_of_not_le
    intro hle
    rw [List.drop_of_length_le hle] at hcr
    cases hcr
  have hca : s.getD a 0 = c := by
    have := congrArg (fun l => l.getD 0 0) hcr
    simpa [List.getD, List.getElem?_drop] using this
  have HC := Lib.hid (show bv (s.getD a 0) = .int .u8 (c.toNat : Int) by rw [hca]; rfl)
  have hsz := str_size s
  obtain ⟨c0, c1, cf⟩ := block_cells2 h
  have hlp := lt_of_block h
  have LE0 := letter_any c
  have DI0 := digit_any c
  obtain ⟨LB, hLB⟩ : ∃ b, b = letB c := ⟨_, rfl⟩
  obtain ⟨DB, hDB⟩ : ∃ b, b = digB c := ⟨_, rfl⟩
  rw [← hLB] at LE0
  rw [← hDB] at DI0
  have HLB := Lib.hid hLB
  have HDB := Lib.hid hDB
  have LE := Lib.hid LE0
  have DI := Lib.hid DI0
  clear LE0 DI0 hLB hDB hca hcr
  cases LB with
  | true =>
    have HF := Lib.hid (show fnOf c = 22 by unfold fnOf; rw [if_pos HLB.out.symm])
    go_enter Tryd.func17, Tryd.ntmps17
    go_wp2_with fail
    refine g_start (by kernel_rfl) ?_
    refine g_take (i := 0) (d := (some 4)) (v := ?_) rfl rfl (by kernel_rfl) (fun _ _ _ h => h) (by rfl) (fun w' hb' => ?_) ?_
    rotate_left
    · (try go_simp); (try with_reducible rfl)
    try simp only [Act.put, List.setIfInBounds_toArray, List.set_cons_zero, List.set_cons_succ]
    refine g_take (i := 1) (d := (some 5)) (v := ?_) rfl rfl (by kernel_rfl) (fun _ _ _ h => h) (by rfl) (fun w' hb' => ?_) ?_
    rotate_left
    · (try go_simp); (try with_reducible rfl)
    try simp only [Act.put, List.setIfInBounds_toArray, List.set_cons_zero, List.set_cons_succ]
    refine g_take (i := 2) (d := (some 6)) (v := ?_) rfl rfl (by kernel_rfl) (fun _ _ _ h => h) (by rfl) (fun w' hb' => ?_) ?_
    rotate_left
    · (try go_simp); (try with_reducible rfl)
    try simp only [Act.put, List.setIfInBounds_toArray, List.set_cons_zero, List.set_cons_succ]
    refine g_take (i := 3) (d := (some 7)) (v := ?_) rfl rfl (by kernel_rfl) (fun _ _ _ h => h) (by rfl) (fun w' hb' => ?_) ?_
    rotate_left
    · have z := (hb'.cell (p := ⟨p, 0, none⟩) hlp).trans c0; (try go_simp); (try with_reducible rfl)
    try simp only [Act.put, List.setIfInBounds_toArray, List.set_cons_zero, List.set_cons_succ]
    refine g_take (i := 4) (d := (some 8)) (v := ?_) rfl rfl (by kernel_rfl) (fun _ _ _ h => h) (by rfl) (fun w' hb' => ?_) ?_
    rotate_left
    · (try go_simp); (try with_reducible rfl)
    try simp only [Act.put, List.setIfInBounds_toArray, List.set_cons_zero, List.set_cons_succ]
    refine g_take (i := 5) (d := (some 9)) (v := ?_) rfl rfl (by kernel_rfl) (fun _ _ _ h => h) (by rfl) (fun w' hb' => ?_) ?_
    rotate_left
    · (try go_simp); (try with_reducible rfl)
    try simp only [Act.put, List.setIfInBounds_toArray, List.set_cons_zero, List.set_cons_succ]
    refine g_take (i := 6) (d := (some 10)) (v := ?_) rfl rfl (by kernel_rfl) (fun _ _ _ h => h) (by rfl) (fun w' hb' => ?_) ?_
    rotate_left
    · (try go_simp); (try with_reducible rfl)
    try simp only [Act.put, List.setIfInBounds_toArray, List.set_cons_zero, List.set_cons_succ]
    refine g_take (i := 7) (d := (some 11)) (v := ?_) rfl rfl (by kernel_rfl) (fun _ _ _ h => h) (by rfl) (fun w' hb' => ?_) ?_
    rotate_left
    · have z := (hb'.cell (p := ⟨p, 1, none⟩) hlp).trans c1; (try go_simp); (try with_reducible rfl)
    try simp only [Act.put, List.setIfInBounds_toArray, List.set_cons_zero, List.set_cons_succ]
    refine g_take (i := 8) (d := (some 12)) (v := ?_) rfl rfl (by kernel_rfl) (fun _ _ _ h => h) (by rfl) (fun w' hb' => ?_) ?_
    rotate_left
    · refine str_index_op 9 (.tmp 7) (.tmp 11) ?_ s a ?_ ?_ hlt (.int .u8 (c.toNat : Int)) HC.out ?_ <;> rfl; (try go_simp); (try with_reducible rfl)
    try simp only [Act.put, List.setIfInBounds_toArray, List.set_cons_zero, List.set_cons_succ]
    refine g_take (i := 9) (d := (some 3)) (v := ?_) rfl rfl (by kernel_rfl) (fun _ _ _ h => h) (by rfl) (fun w' hb' => ?_) ?_
    rotate_left
    · (try go_simp); (try with_reducible rfl)
    try simp only [Act.put, List.setIfInBounds_toArray, List.set_cons_zero, List.set_cons_succ]
    refine g_done (by kernel_rfl) ?_
    go_wp2_with ((with_reducible refine (PureW.at LE.out _).mono ?_); rintro e w1 ⟨rfl, rfl⟩)
    go_ret
    exact ⟨by rw [HF.out]; rfl, Below.drew (Below.refl _ _)⟩
  | false =>
    cases DB with
    | true =>
      have HF := Lib.hid (show fnOf c = 24 by unfold fnOf; rw [if_neg (by rw [← HLB.out]; simp), if_pos HDB.out.symm])
      go_enter Tryd.func17, Tryd.ntmps17
      go_wp2_with fail
      refine g_start (by kernel_rfl) ?_
      refine g_take (i := 0) (d := (some 4)) (v := ?_) rfl rfl (by kernel_rfl) (fun _ _ _ h => h) (by rfl) (fun w' hb' => ?_) ?_
      rotate_left
      · (try go_simp); (try with_reducible rfl)
      try simp only [Act.put, List.setIfInBounds_toArray, List.set_cons_zero, List.set_cons_succ]
      refine g_take (i := 1) (d := (some 5)) (v := ?_) rfl rfl (by kernel_rfl) (fun _ _ _ h => h) (by rfl) (fun w' hb' => ?_) ?_
      rotate_left
      · (try go_simp); (try with_reducible rfl)
      try simp only [Act.put, List.setIfInBounds_toArray, List.set_cons_zero, List.set_cons_succ]
      refine g_take (i := 2) (d := (some 6)) (v := ?_) rfl rfl (by kernel_rfl) (fun _ _ _ h => h) (by rfl) (fun w' hb' => ?_) ?_
      rotate_left
      · (try go_simp); (try with_reducible rfl)
      try simp only [Act.put, List.setIfInBounds_toArray, List.set_cons_zero, List.set_cons_succ]
      refine g_take (i := 3) (d := (some 7)) (v := ?_) rfl rfl (by kernel_rfl) (fun _ _ _ h => h) (by rfl) (fun w' hb' => ?_) ?_
      rotate_left
      · have z := (hb'.cell (p := ⟨p, 0, none⟩) hlp).trans c0; (try go_simp); (try with_reducible rfl)
      try simp only [Act.put, List.setIfInBounds_toArray, List.set_cons_zero, List.set_cons_succ]
      refine g_take (i := 4) (d := (some 8)) (v := ?_) rfl rfl (by kernel_rfl) (fun _ _ _ h => h) (by rfl) (fun w' hb' => ?_) ?_
      rotate_left
      · (try go_simp); (try with_reducible rfl)
      try simp only [Act.put, List.setIfInBounds_toArray, List.set_cons_zero, List.set_cons_succ]
      refine g_take (i := 5) (d := (some 9)) (v := ?_) rfl rfl (by kernel_rfl) (fun _ _ _ h => h) (by rfl) (fun w' hb' => ?_) ?_
      rotate_left
      · (try go_simp); (try with_reducible rfl)
      try simp only [Act.put, List.setIfInBounds_toArray, List.set_cons_zero, List.set_cons_succ]
      refine g_take (i := 6) (d := (some 10)) (v := ?_) rfl rfl (by kernel_rfl) (fun _ _ _ h => h) (by rfl) (fun w' hb' => ?_) ?_
      rotate_left
      · (try go_simp); (try with_reducible rfl)
      try simp only [Act.put, List.setIfInBounds_toArray, List.set_cons_zero, List.set_cons_succ]
      refine g_take (i := 7) (d := (some 11)) (v := ?_) rfl rfl (by kernel_rfl) (fun _ _ _ h => h) (by rfl) (fun w' hb' => ?_) ?_
      rotate_left
      · have z := (hb'.cell (p := ⟨p, 1, none⟩) hlp).trans c1; (try go_simp); (try with_reducible rfl)
      try simp only [Act.put, List.setIfInBounds_toArray, List.set_cons_zero, List.set_cons_succ]
      refine g_take (i := 8) (d := (some 12)) (v := ?_) rfl rfl (by kernel_rfl) (fun _ _ _ h => h) (by rfl) (fun w' hb' => ?_) ?_
      rotate_left
      · refine str_index_op 9 (.tmp 7) (.tmp 11) ?_ s a ?_ ?_ hlt (.int .u8 (c.toNat : Int)) HC.out ?_ <;> rfl; (try go_simp); (try with_reducible rfl)
      try simp only [Act.put, List.setIfInBounds_toArray, List.set_cons_zero, List.set_cons_succ]
      refine g_take (i := 9) (d := (some 3)) (v := ?_) rfl rfl (by kernel_rfl) (fun _ _ _ h => h) (by rfl) (fun w' hb' => ?_) ?_
      rotate_left
      · (try go_simp); (try with_reducible rfl)
      try simp only [Act.put, List.setIfInBounds_toArray, List.set_cons_zero, List.set_cons_succ]
      refine g_done (by kernel_rfl) ?_
      go_wp2_with (first | ((with_reducible refine (PureW.at LE.out _).mono ?_); rintro e w1 ⟨rfl, rfl⟩) | ((with_reducible refine (PureW.at DI.out _).mono ?_); rintro e w1 ⟨rfl, rfl⟩))
      go_ret
      exact ⟨by rw [HF.out]; rfl, Below.drew (Below.refl _ _)⟩
    | false =>
      by_cases h34 : c.toNat = 34
      · have HF := Lib.hid (show fnOf c = 25 by unfold fnOf; rw [if_neg (by rw [← HLB.out]; simp), if_neg (by rw [← HDB.out]; simp), if_pos (UInt8.toNat_inj.1 h34)])
        have i1 : ((c.toNat : Int) == 34) = true := by rw [h34]; rfl
        clear h34
        go_enter Tryd.func17, Tryd.ntmps17
        go_wp2_with fail
        refine g_start (by kernel_rfl) ?_
        refine g_take (i := 0) (d := (some 4)) (v := ?_) rfl rfl (by kernel_rfl) (fun _ _ _ h => h) (by rfl) (fun w' hb' => ?_) ?_
        rotate_left
        · (try go_simp); (try with_reducible rfl)
        try simp only [Act.put, List.setIfInBounds_toArray, List.set_cons_zero, List.set_cons_succ]
        refine g_take (i := 1) (d := (some 5)) (v := ?_) rfl rfl (by kernel_rfl) (fun _ _ _ h => h) (by rfl) (fun w' hb' => ?_) ?_
        rotate_left
        · (try go_simp); (try with_reducible rfl)
        try simp only [Act.put, List.setIfInBounds_toArray, List.set_cons_zero, List.set_cons_succ]
        refine g_take (i := 2) (d := (some 6)) (v := ?_) rfl rfl (by kernel_rfl) (fun _ _ _ h => h) (by rfl) (fun w' hb' => ?_) ?_
        rotate_left
        · (try go_simp); (try with_reducible rfl)
        try simp only [Act.put, List.setIfInBounds_toArray, List.set_cons_zero, List.set_cons_succ]
        refine g_take (i := 3) (d := (some 7)) (v := ?_) rfl rfl (by kernel_rfl) (fun _ _ _ h => h) (by rfl) (fun w' hb' => ?_) ?_
        rotate_left
        · have z := (hb'.cell (p := ⟨p, 0, none⟩) hlp).trans c0; (try go_simp); (try with_reducible rfl)
        try simp only [Act.put, List.setIfInBounds_toArray, List.set_cons_zero, List.set_cons_succ]
        refine g_take (i := 4) (d := (some 8)) (v := ?_) rfl rfl (by kernel_rfl) (fun _ _ _ h => h) (by rfl) (fun w' hb' => ?_) ?_
        rotate_left
        · (try go_simp); (try with_reducible rfl)
        try simp only [Act.put, List.setIfInBounds_toArray, List.set_cons_zero, List.set_cons_succ]
        refine g_take (i := 5) (d := (some 9)) (v := ?_) rfl rfl (by kernel_rfl) (fun _ _ _ h => h) (by rfl) (fun w' hb' => ?_) ?_
        rotate_left
        · (try go_simp); (try with_reducible rfl)
        try simp only [Act.put, List.setIfInBounds_toArray, List.set_cons_zero, List.set_cons_succ]
        refine g_take (i := 6) (d := (some 10)) (v := ?_) rfl rfl (by kernel_rfl) (fun _ _ _ h => h) (by rfl) (fun w' hb' => ?_) ?_
        rotate_left
        · (try go_simp); (try with_reducible rfl)
        try simp only [Act.put, List.setIfInBounds_toArray, List.set_cons_zero, List.set_cons_succ]
        refine g_take (i := 7) (d := (some 11)) (v := ?_) rfl rfl (by kernel_rfl) (fun _ _ _ h => h) (by rfl) (fun w' hb' => ?_) ?_
        rotate_left
        · have z := (hb'.cell (p := ⟨p, 1, none⟩) hlp).trans c1; (try go_simp); (try with_reducible rfl)
        try simp only [Act.put, List.setIfInBounds_toArray, List.set_cons_zero, List.set_cons_succ]
        refine g_take (i := 8) (d := (some 12)) (v := ?_) rfl rfl (by kernel_rfl) (fun _ _ _ h => h) (by rfl) (fun w' hb' => ?_) ?_
        rotate_left
        · refine str_index_op 9 (.tmp 7) (.tmp 11) ?_ s a ?_ ?_ hlt (.int .u8 (c.toNat : Int)) HC.out ?_ <;> rfl; (try go_simp); (try with_reducible rfl)
        try simp only [Act.put, List.setIfInBounds_toArray, List.set_cons_zero, List.set_cons_succ]
        refine g_take (i := 9) (d := (some 3)) (v := ?_) rfl rfl (by kernel_rfl) (fun _ _ _ h => h) (by rfl) (fun w' hb' => ?_) ?_
        rotate_left
        · (try go_simp); (try with_reducible rfl)
        try simp only [Act.put, List.setIfInBounds_toArray, List.set_cons_zero, List.set_cons_succ]
        refine g_done (by kernel_rfl) ?_
        go_wp2_with (first | ((with_reducible refine (PureW.at LE.out _).mono ?_); rintro e w1 ⟨rfl, rfl⟩) | ((with_reducible refine (PureW.at DI.out _).mono ?_); rintro e w1 ⟨rfl, rfl⟩))
        go_ret
        exact ⟨by rw [HF.out]; rfl, Below.drew (Below.refl _ _)⟩
      · have HF := Lib.hid (show fnOf c = 26 by unfold fnOf; rw [if_neg (by rw [← HLB.out]; simp), if_neg (by rw [← HDB.out]; simp), if_neg (fun e => h34 (by rw [e]; rfl))])
        have i1 : ((c.toNat : Int) == 34) = false := by simp; omega
        clear h34
        go_enter Tryd.func17, Tryd.ntmps17
        go_wp2_with fail
        refine g_start (by kernel_rfl) ?_
        refine g_take (i := 0) (d := (some 4)) (v := ?_) rfl rfl (by kernel_rfl) (fun _ _ _ h => h) (by rfl) (fun w' hb' => ?_) ?_
        rotate_left
        · (try go_simp); (try with_reducible rfl)
        try simp only [Act.put, List.setIfInBounds_toArray, List.set_cons_zero, List.set_cons_succ]
        refine g_take (i := 1) (d := (some 5)) (v := ?_) rfl rfl (by kernel_rfl) (fun _ _ _ h => h) (by rfl) (fun w' hb' => ?_) ?_
        rotate_left
        · (try go_simp); (try with_reducible rfl)
        try simp only [Act.put, List.setIfInBounds_toArray, List.set_cons_zero, List.set_cons_succ]
        refine g_take (i := 2) (d := (some 6)) (v := ?_) rfl rfl (by kernel_rfl) (fun _ _ _ h => h) (by rfl) (fun w' hb' => ?_) ?_
        rotate_left
        · (try go_simp); (try with_reducible rfl)
        try simp only [Act.put, List.setIfInBounds_toArray, List.set_cons_zero, List.set_cons_succ]
        refine g_take (i := 3) (d := (some 7)) (v := ?_) rfl rfl (by kernel_rfl) (fun _ _ _ h => h) (by rfl) (fun w' hb' => ?_) ?_
        rotate_left
        · have z := (hb'.cell (p := ⟨p, 0, none⟩) hlp).trans c0; (try go_simp); (try with_reducible rfl)
        try simp only [Act.put, List.setIfInBounds_toArray, List.set_cons_zero, List.set_cons_succ]
        refine g_take (i := 4) (d := (some 8)) (v := ?_) rfl rfl (by kernel_rfl) (fun _ _ _ h => h) (by rfl) (fun w' hb' => ?_) ?_
        rotate_left
        · (try go_simp); (try with_reducible rfl)
        try simp only [Act.put, List.setIfInBounds_toArray, List.set_cons_zero, List.set_cons_succ]
        refine g_take (i := 5) (d := (some 9)) (v := ?_) rfl rfl (by kernel_rfl) (fun _ _ _ h => h) (by rfl) (fun w' hb' => ?_) ?_
        rotate_left
        · (try go_simp); (try with_reducible rfl)
        try simp only [Act.put, List.setIfInBounds_toArray, List.set_cons_zero, List.set_cons_succ]
        refine g_take (i := 6) (d := (some 10)) (v := ?_) rfl rfl (by kernel_rfl) (fun _ _ _ h => h) (by rfl) (fun w' hb' => ?_) ?_
        rotate_left
        · (try go_simp); (try with_reducible rfl)
        try simp only [Act.put, List.setIfInBounds_toArray, List.set_cons_zero, List.set_cons_succ]
        refine g_take (i := 7) (d := (some 11)) (v := ?_) rfl rfl (by kernel_rfl) (fun _ _ _ h => h) (by rfl) (fun w' hb' => ?_) ?_
        rotate_left
        · have z := (hb'.cell (p := ⟨p, 1, none⟩) hlp).trans c1; (try go_simp); (try with_reducible rfl)
        try simp only [Act.put, List.setIfInBounds_toArray, List.set_cons_zero, List.set_cons_succ]
        refine g_take (i := 8) (d := (some 12)) (v := ?_) rfl rfl (by kernel_rfl) (fun _ _ _ h => h) (by rfl) (fun w' hb' => ?_) ?_
        rotate_left
        · refine str_index_op 9 (.tmp 7) (.tmp 11) ?_ s a ?_ ?_ hlt (.int .u8 (c.toNat : Int)) HC.out ?_ <;> rfl; (try go_simp); (try with_reducible rfl)
        try simp only [Act.put, List.setIfInBounds_toArray, List.set_cons_zero, List.set_cons_succ]
        refine g_take (i := 9) (d := (some 3)) (v := ?_) rfl rfl (by kernel_rfl) (fun _ _ _ h => h) (by rfl) (fun w' hb' => ?_) ?_
        rotate_left
        · (try go_simp); (try with_reducible rfl)
        try simp only [Act.put, List.setIfInBounds_toArray, List.set_cons_zero, List.set_cons_succ]
        refine g_done (by kernel_rfl) ?_
        go_wp2_with (first | ((with_reducible refine (PureW.at LE.out _).mono ?_); rintro e w1 ⟨rfl, rfl⟩) | ((with_reducible refine (PureW.at DI.out _).mono ?_); rintro e w1 ⟨rfl, rfl⟩))
        go_ret
        exact ⟨by rw [HF.out]; rfl, Below.drew (Below.refl _ _)⟩
theorem fn_enters (c : UInt8) : ∀ args w, (callFunc (fnOf c) args).run Tryd.prog w = .ok (.enter (fnOf c) args) w := by
  unfold fnOf
  split
  · exact enters_of Tryd.func22 (by kernel_rfl) rfl
  · split
    · exact enters_of Tryd.func24 (by kernel_rfl) rfl
    · split
      · exact enters_of Tryd.func25 (by kernel_rfl) rfl
      · exact enters_of Tryd.func26 (by kernel_rfl) rfl
theorem read_any (p : Nat) (s : List UInt8) (a : Nat) (w : World) (h : Lx w p s a) (c : UInt8) (r : List UInt8) (hcr : s.drop a = c :: r) (hs : s.length ≤ 4096) (tab : TabX w) (hp : 3 ≤ p) :
    Calls Tryd.prog (fnOf c) #[.pointer (some ⟨p, 0, none⟩)] w (GivesR p s a w (oneP (s.drop a))) := by
  have ha : a ≤ s.length := by
    apply Nat.le_of_not_lt
    intro hle
    rw [List.drop_of_length_le (by omega)] at hcr
    cases hcr
  have hl : 1 ≤ (s.drop a).length := by rw [hcr]; simp
  by_cases h1 : letB c = true
  · have e : fnOf c = 22 := by unfold fnOf; rw [if_pos h1]
    have e2 : oneP (s.drop a) = (let n := spF nmB (s.drop a); if 16 < n then .inl 5 else if wordB ((s.drop a).take n) then .inr (⟨5, (s.drop a).take n, 0⟩, n) else .inr (⟨1, (s.drop a).take n, 0⟩, n)) := by rw [hcr]; unfold oneP; simp only; rw [if_pos h1]
    rw [e, e2]
    exact name_any p s a w h ha hs tab hp
  · by_cases h2 : digB c = true
    · have e : fnOf c = 24 := by unfold fnOf; rw [if_neg h1, if_pos h2]
      have e2 : oneP (s.drop a) = numR (s.drop a) c := by rw [hcr]; unfold oneP numR; simp only; rw [if_neg h1, if_pos h2]
      rw [e, e2]
      exact number_any p s a w h c r hcr h2 ha hs tab hp
    · by_cases h3 : c = 34
      · have e : fnOf c = 25 := by unfold fnOf; rw [if_neg h1, if_neg h2, if_pos h3]
        have e2 : oneP (s.drop a) = textR r := by rw [hcr]; unfold oneP textR; simp only; rw [if_neg h1, if_neg h2, if_pos h3]; rfl
        rw [e, e2]
        exact text_any p s a w h r (by rw [hcr, h3]) hs
      · have e : fnOf c = 26 := by unfold fnOf; rw [if_neg h1, if_neg h2, if_neg h3]
        have e2 : oneP (s.drop a) = signF 2 (s.drop a) := by
          have hone : ∀ l : List UInt8, l = c :: r → oneP l = if 2 ≤ l.length ∧ signB (l.take 2) then .inr (⟨4, l.take 2, 0⟩, 2) else if signB (l.take 1) then .inr (⟨4, l.take 1, 0⟩, 1) else .inl 3 := by
            rintro l rfl
            unfold oneP
            simp only
            rw [if_neg h1, if_neg h2, if_neg h3]
          rw [hone _ hcr]
          show _ = if 1 + 1 ≤ (s.drop a).length ∧ signB ((s.drop a).take (1 + 1)) then _ else if 0 + 1 ≤ (s.drop a).length ∧ signB ((s.drop a).take (0 + 1)) then _ else _
          by_cases q : 2 ≤ (s.drop a).length ∧ signB ((s.drop a).take 2)
          · rw [if_pos q, if_pos q]
          · rw [if_neg q, if_neg q]
            by_cases q1 : signB ((s.drop a).take 1) = true
            · rw [if_pos q1, if_pos ⟨hl, q1⟩]
            · rw [if_neg q1, if_neg (fun e => q1 e.2)]
              rfl
        rw [e, e2]
        exact sign_any p s a w h ha hs
end Go.Proofs.YtkmhjodnddfkeaaDoor
