/- Keys: the contracts of the small calls, whatever texts. Written by wip/tools/gen8f.py. -/
import Derived.Test.YtkcflkgfipfdfaaDoorK8E
namespace Go.Proofs.YtkcflkgfipfdfaaDoor
open Go Go.RowKit
set_option linter.unusedVariables false
set_option linter.unusedSimpArgs false
theorem ret_cast {f : Nat} {args : Array Value} {v v' : Value} (h : Ret f args v) (e : v = v') : Ret f args v' := e ▸ h
theorem bool_cast {f : Nat} {args : Array Value} {b b' : Bool} (h : Ret f args (.bool b)) (e : b = b') : Ret f args (.bool b') := e ▸ h
theorem emp_eq (l : List UInt8) : (str l).toList.isEmpty = decide (l = []) := by rw [str_tl]; cases l <;> rfl
theorem patB_nil : patB [] = true := rfl
theorem isB_pos {l : List UInt8} (h : l ≠ []) : isB l = patB l := by
  have : 0 < l.length := List.length_pos_iff.2 h
  simp [isB, this]
theorem pattern_any (l : List UInt8) (hl : l.length ≤ maxLen) : Ret 13 #[.string (str l)] (.bool (patB l)) := by
  refine bool_cast (pattern_g l _ _ (is_any l hl).ret (emp_eq l)) ?_
  by_cases h : l = []
  · subst h; rfl
  · rw [isB_pos h]; simp [h]
theorem under_any (k p : List UInt8) (hk : k.length ≤ maxLen) (hp : p.length ≤ maxLen) : Ret 14 #[.string (str k), .string (str p)] (.bool (isB k && patB p && Lib.hasPrefix k p)) :=
  under_g k p _ _ _ (is_any k hk).ret (pattern_any p hp) (prefix_any k p).ret
theorem refIs_any (l : List UInt8) (hl : l.length ≤ maxLen) : Ret 9 #[.string (str l)] (.bool (isB l)) := by
  have hz := str_size l
  have hl2 := hl
  unfold maxLen at hl2
  by_cases h : l = []
  · subst h
    intro w tab
    have hz0 : (str []).size = 0 := str_size []
    clear hz hl hl2
    rw [isB_nil]
    go_enter Tryd.func9, Tryd.ntmps9
    go_wp2_with fail
    go_ret
    exact ⟨rfl, Below.refl _ _⟩
  · have h0 : 0 < l.length := List.length_pos_iff.2 h
    exact bool_cast (refIs_g l (by omega) (by omega) _ (refPattern_any l hl).ret) (isB_pos h).symm
/-- The last byte turned by d, as it comes out. -/
theorem last_split {l : List UInt8} (h : l ≠ []) : ∃ p c, l = p ++ [c] := ⟨l.dropLast, l.getLast h, (List.dropLast_concat_getLast h).symm⟩
theorem shiftL_snoc (p : List UInt8) (c : UInt8) (d : Nat) : shiftL (p ++ [c]) d = p ++ [UInt8.ofNat (c.toNat + d)] := by
  have h : p ++ [c] ≠ [] := by simp
  unfold shiftL
  rw [if_neg h, List.dropLast_concat]
  simp
theorem snoc_ex (p : List UInt8) (c : UInt8) : (str (p ++ [c])).extract 0 p.length = str p := by rw [str_extract]; simp
theorem snoc_byte (p : List UInt8) (c : UInt8) : ∀ h : p.length < (str (p ++ [c])).size, ((str (p ++ [c]))[p.length]'h).toNat = c.toNat := fun h => by rw [str_byte]; simp
theorem snoc_ne (p : List UInt8) (c : UInt8) : (str (p ++ [c])).toList.isEmpty = false := by rw [emp_eq]; simp
theorem snoc_size (p : List UInt8) (c : UInt8) : (str (p ++ [c])).size = p.length + 1 := by rw [str_size]; simp
theorem shifted_any (l : List UInt8) (d : Int) (n : Nat) (hd : (d = 1 ∧ n = 1) ∨ (d = -1 ∧ n = 255)) (hl : l.length ≤ maxLen) : Ret 44 #[.string (str l), .int .i64 d] (.string (str (shiftL l n))) := by
  by_cases h : l = []
  · subst h
    rw [show shiftL [] n = [] from rfl]
    intro w tab
    have hE := emp_true (l := []) rfl
    clear hl hd
    go_enter Tryd.func44, Tryd.ntmps44
    go_wp2_with fail
    go_ret
    exact ⟨rfl, Below.refl _ _⟩
  · obtain ⟨p, c, rfl⟩ := last_split h
    rw [shiftL_snoc]
    have hc := c.toNat_lt
    have hu : (UInt8.ofNat (c.toNat + n)).toNat = (c.toNat + n) % 256 := by rw [UInt8.toNat_ofNat']
    refine shifted_at (p ++ [c]) p c.toNat p.length (UInt8.ofNat (c.toNat + n)) d (by simpa using hl) (snoc_size p c) (snoc_ne p c) (snoc_ex p c) (str_size p) (snoc_byte p c) (by omega) (by omega) (by omega) ?_ ?_
    · rw [IntKind.wrap_i64]; omega
    · rw [hu]
      rcases hd with ⟨rfl, rfl⟩ | ⟨rfl, rfl⟩
      · simp only [IntKind.wrap_u8]; omega
      · simp only [IntKind.wrap_u8]; omega
theorem end_any (l : List UInt8) (hl : l.length ≤ maxLen) : Ret 33 #[.string (str l)] (.string (str (endL l))) :=
  end_g l _ (shifted_any l 1 1 (.inl ⟨rfl, rfl⟩) hl)
theorem shiftL_len (l : List UInt8) (d : Nat) : (shiftL l d).length = l.length := by
  by_cases h : l = []
  · subst h; rfl
  · obtain ⟨p, c, rfl⟩ := last_split h
    rw [shiftL_snoc]; simp
theorem isEnd_any (l : List UInt8) (hl : l.length ≤ maxLen) : Ret 36 #[.string (str l)] (.bool (!decide (l = []) && isB (shiftL l 255))) :=
  isEnd_g l _ _ _ (shifted_any l (-1) 255 (.inr ⟨rfl, rfl⟩) hl) (is_any _ (by rw [shiftL_len]; exact hl)).ret (emp_eq l)
theorem range_any (p : List UInt8) (hp : p.length ≤ maxLen) : Ret 20 #[.string (str p)] (.tuple (if patB p = true then #[.string (str p), .string (str (endL p)), .int .i64 0] else #[.string (str []), .string (str []), .int .i64 3])) :=
  range_g p _ _ (pattern_any p hp) (end_any p hp)
theorem in_any (k f t : List UInt8) (hk : k.length ≤ maxLen) (hf : f.length ≤ maxLen) (ht : t.length ≤ maxLen) : Ret 22 #[.string (str k), .string (str f), .string (str t)] (.bool (isB k && patB f && patB t && !ltB k f && (decide (t = []) || ltB k t))) :=
  in_g k f t _ _ _ _ _ (is_any k hk).ret (pattern_any f hf) (pattern_any t ht) (before_any k t).ret (geq_str k f)
theorem refIn_any (k f t : List UInt8) (hk : k.length ≤ maxLen) (hf : f.length ≤ maxLen) (ht : t.length ≤ maxLen) : Ret 23 #[.string (str k), .string (str f), .string (str t)] (.bool (isB k && patB f && patB t && !ltB k f && (decide (t = []) || ltB k t))) :=
  refIn_g k f t _ _ _ _ _ _ (refIs_any k hk) (refPattern_any f hf).ret (refPattern_any t ht).ret (ahead_any k f hk hf) (ahead_any k t hk ht) (emp_eq t)
theorem meet_any (a b : List UInt8) (ha : a.length ≤ maxLen) (hb : b.length ≤ maxLen) : Ret 25 #[.string (str a), .string (str b)] (.bool (patB a && patB b && (Lib.hasPrefix a b || Lib.hasPrefix b a))) :=
  meet_g a b _ _ _ _ (pattern_any a ha) (pattern_any b hb) (prefix_any a b).ret (prefix_any b a).ret
theorem endL_len (l : List UInt8) : (endL l).length = l.length := shiftL_len l 1
/-- May a text be the end of a range? -/
def stopB (l : List UInt8) : Bool := patB l || (!decide (l = []) && isB (shiftL l 255))
def overB (f t p : List UInt8) : Bool := patB f && patB p && stopB t && (decide (endL p = []) || ltB f (endL p)) && (decide (t = []) || ltB p t)
theorem overlap_any (f t p : List UInt8) (hf : f.length ≤ maxLen) (ht : t.length ≤ maxLen) (hp : p.length ≤ maxLen) : Ret 26 #[.string (str f), .string (str t), .string (str p)] (.bool (overB f t p)) :=
  overlap_g f t p _ _ _ _ _ _ _ (pattern_any f hf) (pattern_any p hp) (pattern_any t ht) (isEnd_any t ht) (end_any p hp) (before_any f _).ret (before_any p t).ret
theorem refEnd_any (l : List UInt8) (hl : l.length ≤ maxLen) : Ret 21 #[.string (str l)] (.string (str (endL l))) := by
  by_cases h : l = []
  · subst h
    rw [show endL [] = [] from rfl]
    intro w tab
    have hE := emp_true (l := []) rfl
    clear hl
    go_enter Tryd.func21, Tryd.ntmps21
    go_wp2_with fail
    go_ret
    exact ⟨rfl, Below.refl _ _⟩
  · obtain ⟨p, c, rfl⟩ := last_split h
    rw [show endL (p ++ [c]) = _ from shiftL_snoc p c 1]
    have hc := c.toNat_lt
    have hu : (UInt8.ofNat (c.toNat + 1)).toNat = (c.toNat + 1) % 256 := by rw [UInt8.toNat_ofNat']
    refine refEnd_at (p ++ [c]) p c.toNat p.length (UInt8.ofNat (c.toNat + 1)) (by simpa using hl) (snoc_size p c) (snoc_ne p c) (snoc_ex p c) (str_size p) (snoc_byte p c) (by omega) ?_
    rw [hu]
    simp only [IntKind.wrap_u8]; omega
set_option maxRecDepth 100000 in
theorem after_any (l : List UInt8) (hl : l.length ≤ maxLen) : Ret 24 #[.string (str l)] (.string (str (if isB l = true then l ++ [0] else []))) := by
  have H1 := (is_any l hl).ret
  intro w tab
  have bel := Below.refl w.heap.size w
  have hz := str_size l
  cases hb : isB l with
  | true =>
    rw [hb] at H1
    have h24 : l.length ≤ 24 := by
      have : patB l = true := by unfold isB at hb; simp only [Bool.and_eq_true] at hb; exact hb.2
      unfold patB at this
      simp only [Bool.and_eq_true, decide_eq_true_eq] at this
      exact this.1
    rw [if_pos rfl]
    clear hb hl
    go_enter Tryd.func24, Tryd.ntmps24
    go_wp2_with ((with_reducible refine (H1.at _ tab).mono ?_); rintro e w' ⟨rfl, g⟩; have tab := tab.below g; have bel := chain bel g; clear g)
    go_ret
    exact ⟨ret_str (str_append l [0]), bel⟩
  | false =>
    rw [hb] at H1
    rw [if_neg (by simp)]
    clear hb hl
    go_enter Tryd.func24, Tryd.ntmps24
    go_wp2_with ((with_reducible refine (H1.at _ tab).mono ?_); rintro e w' ⟨rfl, g⟩; have tab := tab.below g; have bel := chain bel g; clear g)
    go_ret
    exact ⟨rfl, bel⟩
set_option maxRecDepth 100000 in
theorem bucket_any (l : List UInt8) (hl : l.length ≤ maxLen) : Ret 15 #[.string (str l)] (.int .i64 (if isB l = true then (((l.getD 0 0).toNat % 16 : Nat) : Int) else -1)) := by
  have H1 := (is_any l hl).ret
  intro w tab
  have bel := Below.refl w.heap.size w
  have hz := str_size l
  cases hb : isB l with
  | true =>
    rw [hb] at H1
    have h0 : 0 < l.length := by
      unfold isB at hb; simp only [Bool.and_eq_true, decide_eq_true_eq] at hb; exact hb.1
    have hcc : ∀ h : 0 < (str l).size, ((str l)[0]'h).toNat = (l.getD 0 0).toNat := fun h => by rw [str_byte]
    have h256 := (l.getD 0 0).toNat_lt
    generalize (l.getD 0 0).toNat = m at *
    unfold maxLen at hl
    rw [if_pos rfl]
    clear hb
    go_enter Tryd.func15, Tryd.ntmps15
    go_wp2_with ((with_reducible refine (H1.at _ tab).mono ?_); rintro e w' ⟨rfl, g⟩; have tab := tab.below g; have bel := chain bel g; clear g)
    go_ret
    exact ⟨by push_cast; rfl, bel⟩
  | false =>
    rw [hb] at H1
    rw [if_neg (by simp)]
    clear hb hl
    go_enter Tryd.func15, Tryd.ntmps15
    go_wp2_with ((with_reducible refine (H1.at _ tab).mono ?_); rintro e w' ⟨rfl, g⟩; have tab := tab.below g; have bel := chain bel g; clear g)
    go_ret
    exact ⟨rfl, bel⟩
theorem stop_pat (l : List UInt8) (H1 : Ret 10 #[.string (str l)] (.bool true)) : Ret 37 #[.string (str l)] (.bool true) := by
  intro w tab
  have bel := Below.refl w.heap.size w
  go_enter Tryd.func37, Tryd.ntmps37
  go_wp2_with ((with_reducible refine (H1.at _ tab).mono ?_); rintro e w' ⟨rfl, g⟩; have tab := tab.below g; have bel := chain bel g; clear g)
  go_ret
  exact ⟨rfl, bel⟩
set_option maxRecDepth 100000 in
theorem stop_zero (l p : List UInt8) (m n : Nat) (u : UInt8) (hp : n + 1 ≤ maxLen) (hz : (str l).size = n + 1) (hex : (str l).extract 0 n = str p) (hpz : (str p).size = n)
    (hcc : ∀ h : n < (str l).size, ((str l)[n]'h).toNat = m) (hm : m < 256) (H1 : Ret 10 #[.string (str l)] (.bool false)) (h0 : m ≤ 0) : Ret 37 #[.string (str l)] (.bool false) := by
  intro w tab
  have bel := Below.refl w.heap.size w
  unfold maxLen at hp
  have c1 : (n : Int) ≤ (n : Int) + 1 := by omega
  have c2 : (n : Int) < (n : Int) + 1 := by omega
  have hu : (str [u]).size = 1 := str_size _
  have c3 : ¬ 9223372036854775807 < n + 1 := by omega
  have happ := str_append p [u]
  obtain rfl : m = 0 := by omega
  go_enter Tryd.func37, Tryd.ntmps37
  go_wp2_with ((with_reducible refine (H1.at _ tab).mono ?_); rintro e w' ⟨rfl, g⟩; have tab := tab.below g; have bel := chain bel g; clear g)
  go_ret
  exact ⟨rfl, bel⟩
set_option maxRecDepth 100000 in
theorem stop_mid (l p : List UInt8) (m n : Nat) (u : UInt8) (hp : n + 1 ≤ maxLen) (hz : (str l).size = n + 1) (hex : (str l).extract 0 n = str p) (hpz : (str p).size = n)
    (hcc : ∀ h : n < (str l).size, ((str l)[n]'h).toNat = m) (hm : m < 256) (H1 : Ret 10 #[.string (str l)] (.bool false)) (h0 : 0 < m) (e2 : IntKind.u8.wrap ((m : Int) - 1) = (u.toNat : Int)) (b : Bool) (H2 : Ret 10 #[.string (str (p ++ [u]))] (.bool b)) (H3 : Ret 21 #[.string (str (p ++ [u]))] (.string (str l))) : Ret 37 #[.string (str l)] (.bool b) := by
  intro w0 tab
  have bel := Below.refl w0.heap.size w0
  unfold maxLen at hp
  have c1 : (n : Int) ≤ (n : Int) + 1 := by omega
  have c2 : (n : Int) < (n : Int) + 1 := by omega
  have hu : (str [u]).size = 1 := str_size _
  have c3 : ¬ 9223372036854775807 < n + 1 := by omega
  have happ := str_append p [u]
  go_enter Tryd.func37, Tryd.ntmps37
  go_wp2_with fail
  refine (H1.at _ tab).mono ?_
  rintro e w ⟨rfl, g⟩
  have tab := tab.below g
  have bel := chain bel g
  clear g
  go_wp2_with fail
  refine g_start (by kernel_rfl) ?_
  refine g_take (i := 0) (d := (some 14)) (v := ?_) rfl rfl (by kernel_rfl) (fun _ _ _ h => h) (by rfl) (fun w' hb' => ?_) ?_
  rotate_left
  · (try go_simp); (try with_reducible rfl)
  try simp only [Act.put, List.setIfInBounds_toArray, List.set_cons_zero, List.set_cons_succ]
  refine g_take (i := 1) (d := (some 15)) (v := ?_) rfl rfl (by kernel_rfl) (fun _ _ _ h => h) (by rfl) (fun w' hb' => ?_) ?_
  rotate_left
  · (try go_simp); (try with_reducible rfl)
  try simp only [Act.put, List.setIfInBounds_toArray, List.set_cons_zero, List.set_cons_succ]
  refine g_take (i := 2) (d := (some 16)) (v := ?_) rfl rfl (by kernel_rfl) (fun _ _ _ h => h) (by rfl) (fun w' hb' => ?_) ?_
  rotate_left
  · (try go_simp); (try with_reducible rfl)
  try simp only [Act.put, List.setIfInBounds_toArray, List.set_cons_zero, List.set_cons_succ]
  refine g_take (i := 3) (d := (some 17)) (v := ?_) rfl rfl (by kernel_rfl) (fun _ _ _ h => h) (by rfl) (fun w' hb' => ?_) ?_
  rotate_left
  · (try go_simp); (try with_reducible rfl)
  try simp only [Act.put, List.setIfInBounds_toArray, List.set_cons_zero, List.set_cons_succ]
  refine g_take (i := 4) (d := (some 18)) (v := ?_) rfl rfl (by kernel_rfl) (fun _ _ _ h => h) (by rfl) (fun w' hb' => ?_) ?_
  rotate_left
  · (try go_simp); (try with_reducible rfl)
  try simp only [Act.put, List.setIfInBounds_toArray, List.set_cons_zero, List.set_cons_succ]
  refine g_take (i := 5) (d := (some 19)) (v := ?_) rfl rfl (by kernel_rfl) (fun _ _ _ h => h) (by rfl) (fun w' hb' => ?_) ?_
  rotate_left
  · (try go_simp); (try with_reducible rfl)
  try simp only [Act.put, List.setIfInBounds_toArray, List.set_cons_zero, List.set_cons_succ]
  refine g_take (i := 6) (d := (some 20)) (v := ?_) rfl rfl (by kernel_rfl) (fun _ _ _ h => h) (by rfl) (fun w' hb' => ?_) ?_
  rotate_left
  · (try go_simp); (try with_reducible rfl)
  try simp only [Act.put, List.setIfInBounds_toArray, List.set_cons_zero, List.set_cons_succ]
  refine g_run (i := 7) rfl (by kernel_rfl) (by rfl) (fun K hK => ?_)
  go_simp
  have hb0 := heap_alloc_new w (.cells #[.int .u8 (u.toNat : Int)] 5)
  have gg : Below w.heap.size w (w.alloc (.cells #[.int .u8 (u.toNat : Int)] 5)) := (Below.refl _ _).alloc (Nat.le_refl _) _
  have gd : Below w.drew.heap.size w.drew (w.alloc (.cells #[.int .u8 (u.toNat : Int)] 5)).drew := ⟨gg.os, gg.tape, gg.output, gg.size, gg.block⟩
  refine hK _ _ ⟨gd, ?_⟩
  clear hK K
  try simp only [Act.put, List.setIfInBounds_toArray, List.set_cons_zero, List.set_cons_succ]
  refine g_take (i := 8) (d := (some 22)) (v := ?_) rfl rfl (by kernel_rfl) (fun _ _ _ h => h) (by rfl) (fun w' hb' => ?_) ?_
  rotate_left
  · have k1 := conv_one ((hb'.block _ (lt_of_block hb0)).trans hb0); (try go_simp); (try with_reducible rfl)
  try simp only [Act.put, List.setIfInBounds_toArray, List.set_cons_zero, List.set_cons_succ]
  refine g_take (i := 9) (d := (some 23)) (v := ?_) rfl rfl (by kernel_rfl) (fun _ _ _ h => h) (by rfl) (fun w' hb' => ?_) ?_
  rotate_left
  · (try go_simp); (try with_reducible rfl)
  try simp only [Act.put, List.setIfInBounds_toArray, List.set_cons_zero, List.set_cons_succ]
  refine g_take (i := 10) (d := (some 4)) (v := ?_) rfl rfl (by kernel_rfl) (fun _ _ _ h => h) (by rfl) (fun w' hb' => ?_) ?_
  rotate_left
  · (try go_simp); (try with_reducible rfl)
  try simp only [Act.put, List.setIfInBounds_toArray, List.set_cons_zero, List.set_cons_succ]
  refine g_done (by kernel_rfl) ?_
  have g2 : Below w.heap.size w (World.drew (w.alloc (.cells #[.int .u8 (u.toNat : Int)] 5))) := below_drewN (k := 1) gg
  obtain ⟨v, hv⟩ : ∃ v, v = World.drew (w.alloc (.cells #[.int .u8 (u.toNat : Int)] 5)) := ⟨_, rfl⟩
  rw [← hv] at g2 ⊢
  have tab := tab.below g2
  have bel := chain bel g2
  clear hv g2 gg gd hb0
  cases b with
  | false =>
    go_wp2_with ((with_reducible refine (H2.at _ tab).mono ?_); rintro e w' ⟨rfl, g⟩; have tab := tab.below g; have bel := chain bel g; clear g)
    go_ret
    exact ⟨rfl, bel⟩
  | true =>
    go_wp2_with (first | ((with_reducible refine (H2.at _ tab).mono ?_); rintro e w' ⟨rfl, g⟩; have tab := tab.below g; have bel := chain bel g; clear g) | ((with_reducible refine (H3.at _ tab).mono ?_); rintro e w' ⟨rfl, g⟩; have tab := tab.below g; have bel := chain bel g; clear g))
    go_ret
    exact ⟨rfl, bel⟩
theorem okc_255 : okc 255 = false := rfl
theorem patB_snoc_no (p : List UInt8) {c : UInt8} (h : okc c = false) : patB (p ++ [c]) = false := by
  unfold patB
  rw [List.all_append]
  simp [h]
theorem refStop_any (l : List UInt8) (hl : l.length ≤ maxLen) : Ret 37 #[.string (str l)] (.bool (stopB l)) := by
  have H1 := (refPattern_any l hl).ret
  cases hb : patB l with
  | true =>
    rw [hb] at H1
    exact bool_cast (stop_pat l H1) (by unfold stopB; rw [hb]; rfl)
  | false =>
    rw [hb] at H1
    have hne : l ≠ [] := by intro e; subst e; cases hb
    obtain ⟨p, c, rfl⟩ := last_split hne
    have hc := c.toNat_lt
    have hlp : p.length + 1 ≤ maxLen := by simpa using hl
    by_cases h0 : c.toNat = 0
    · refine bool_cast (stop_zero (p ++ [c]) p c.toNat p.length 0 hlp (snoc_size p c) (snoc_ex p c) (str_size p) (snoc_byte p c) (by omega) H1 (by omega)) ?_
      unfold stopB
      rw [hb, shiftL_snoc, h0, isB_pos (by simp), show UInt8.ofNat (0 + 255) = 255 from rfl, patB_snoc_no p okc_255]
      simp
    · have hu : (UInt8.ofNat (c.toNat + 255)).toNat = c.toNat - 1 := by rw [UInt8.toNat_ofNat']; omega
      have hs := shiftL_snoc p c 255
      have he : endL (p ++ [UInt8.ofNat (c.toNat + 255)]) = p ++ [c] := by
        rw [show endL (p ++ [UInt8.ofNat (c.toNat + 255)]) = _ from shiftL_snoc p _ 1]
        congr 2
        apply UInt8.toNat.inj
        rw [UInt8.toNat_ofNat', hu]; omega
      have H3 := refEnd_any (p ++ [UInt8.ofNat (c.toNat + 255)]) (by simpa using hl)
      rw [he] at H3
      refine bool_cast (stop_mid (p ++ [c]) p c.toNat p.length (UInt8.ofNat (c.toNat + 255)) hlp (snoc_size p c) (snoc_ex p c) (str_size p) (snoc_byte p c) (by omega) H1 (by omega) ?_ _ (refPattern_any _ (by simpa using hl)).ret H3) ?_
      · rw [hu]
        simp only [IntKind.wrap_u8]; omega
      · unfold stopB
        rw [hb, hs, isB_pos (by simp)]
        simp
theorem refOverlap_any (f t p : List UInt8) (hf : f.length ≤ maxLen) (ht : t.length ≤ maxLen) (hp : p.length ≤ maxLen) : Ret 27 #[.string (str f), .string (str t), .string (str p)] (.bool (overB f t p)) := by
  refine bool_cast (refOverlap_g f t p _ _ _ _ _ _ _ _ (refPattern_any f hf).ret (refPattern_any p hp).ret (refStop_any t ht) (refEnd_any p hp) (ahead_any f _ hf (by rw [endL_len]; exact hp)) (ahead_any p t hp ht) (emp_eq _) (emp_eq t)) ?_
  unfold overB
  cases patB f <;> cases patB p <;> cases stopB t <;> rfl
end Go.Proofs.YtkcflkgfipfdfaaDoor
