/- Lex: texts. Written by wip/tools/gen16h.py. -/
import Derived.Test.YtkmhjodnddfkeaaDoorQLBC11
import Derived.Test.YtkmhjodnddfkeaaDoorQLBC15
namespace Go.Proofs.YtkmhjodnddfkeaaDoor
open Go Go.RowKit
set_option linter.unusedVariables false
set_option linter.unusedSimpArgs false
set_option maxRecDepth 100000
def txA (bs : List UInt8) (k : Nat) : Nat ⊕ (List UInt8 × Nat) → Nat ⊕ (List UInt8 × Nat)
  | .inl e => .inl e
  | .inr (t, n) => .inr (bs ++ t, k + n)
theorem txA_txA (a b : List UInt8) (i k : Nat) (R : Nat ⊕ (List UInt8 × Nat)) : txA a i (txA b k R) = txA (a ++ b) (i + k) R := by
  cases R with
  | inl e => rfl
  | inr x => obtain ⟨t, n⟩ := x; simp [txA, Nat.add_assoc]
theorem txA_nil (R : Nat ⊕ (List UInt8 × Nat)) : txA [] 0 R = R := by
  cases R with
  | inl e => rfl
  | inr x => obtain ⟨t, n⟩ := x; simp [txA]
theorem tx_end : txS [] = .inl 2 := by unfold txS; rfl
theorem tx_quote (r : List UInt8) : txS (34 :: r) = .inr ([], 1) := by cases r <;> rfl
/-- A byte more of a text. -/
theorem tx_step (c : UInt8) (r : List UInt8) (hc : c ≠ 34) : ((charP c r).2.1 ≠ 0 → txS (c :: r) = .inl (charP c r).2.1) ∧
    ((charP c r).2.1 = 0 → txS (c :: r) = txA [(charP c r).1] (charP c r).2.2 (txS ((c :: r).drop (charP c r).2.2)) ∧ 1 ≤ (charP c r).2.2 ∧ (charP c r).2.2 ≤ (c :: r).length) := by
  unfold charP
  by_cases h1 : c.toNat < 32 ∨ 126 < c.toNat
  · rw [if_pos h1]
    refine ⟨fun _ => ?_, fun h => by cases h⟩
    cases r <;> (unfold txS; rw [if_neg hc, if_pos h1])
  · rw [if_neg h1]
    by_cases h2 : c ≠ 92
    · rw [if_pos h2]
      refine ⟨fun h => absurd rfl h, fun _ => ⟨?_, Nat.le_refl _, by simp⟩⟩
      cases r with
      | nil =>
        unfold txS
        rw [if_neg hc, if_neg h1]
        rfl
      | cons d r2 =>
        conv => lhs; unfold txS
        rw [if_neg hc, if_neg h1, if_pos h2]
        show _ = txA [c] 1 (txS (d :: r2))
        cases txS (d :: r2) with
        | inl e => rfl
        | inr x => obtain ⟨t, n⟩ := x; simp [txA, Nat.add_comm]
    · rw [if_neg h2]
      cases r with
      | nil =>
        refine ⟨fun _ => ?_, fun h => by cases h⟩
        unfold txS
        rw [if_neg hc, if_neg h1]
        rfl
      | cons d r2 =>
        have e : txS (c :: d :: r2) = if d = 34 ∨ d = 92 then (match txS r2 with
            | .inl e => .inl e
            | .inr (t, n) => .inr (d :: t, n + 2))
          else if d = 110 then (match txS r2 with
            | .inl e => .inl e
            | .inr (t, n) => .inr (10 :: t, n + 2)) else .inl 3 := by
          conv => lhs; unfold txS
          rw [if_neg hc, if_neg h1, if_neg h2]
          rfl
        rw [e]
        by_cases d1 : d = 34
        · have e2 : charQ (d :: r2) = (34, 0, 2) := if_pos d1
          rw [e2]
          subst d1
          refine ⟨fun h => absurd rfl h, fun _ => ⟨?_, (by show (1 : Nat) ≤ 2; decide), (by show 2 ≤ (c :: 34 :: r2).length; simp)⟩⟩
          rw [if_pos (.inl rfl)]
          show _ = txA [34] 2 (txS r2)
          cases txS r2 with
          | inl e => rfl
          | inr x => obtain ⟨t, n⟩ := x; simp [txA, Nat.add_comm]
        by_cases d2 : d = 92
        · have e2 : charQ (d :: r2) = (92, 0, 2) := (if_neg d1).trans (if_pos d2)
          rw [e2]
          subst d2
          refine ⟨fun h => absurd rfl h, fun _ => ⟨?_, (by show (1 : Nat) ≤ 2; decide), (by show 2 ≤ (c :: 92 :: r2).length; simp)⟩⟩
          rw [if_pos (.inr rfl)]
          show _ = txA [92] 2 (txS r2)
          cases txS r2 with
          | inl e => rfl
          | inr x => obtain ⟨t, n⟩ := x; simp [txA, Nat.add_comm]
        by_cases d3 : d = 110
        · have e2 : charQ (d :: r2) = (10, 0, 2) := (if_neg d1).trans ((if_neg d2).trans (if_pos d3))
          rw [e2]
          subst d3
          refine ⟨fun h => absurd rfl h, fun _ => ⟨?_, (by show (1 : Nat) ≤ 2; decide), (by show 2 ≤ (c :: 110 :: r2).length; simp)⟩⟩
          rw [if_neg (by decide), if_pos rfl]
          show _ = txA [10] 2 (txS r2)
          cases txS r2 with
          | inl e => rfl
          | inr x => obtain ⟨t, n⟩ := x; simp [txA, Nat.add_comm]
        have e2 : charQ (d :: r2) = (0, 3, 2) := (if_neg d1).trans ((if_neg d2).trans (if_neg d3))
        rw [e2, if_neg (by rintro (h | h); exact d1 h; exact d2 h), if_neg d3]
        exact ⟨fun _ => rfl, fun h => by cases h⟩
theorem bld_drew {B b : Nat} {l : List UInt8} {w : World} (h : Bld B b l w) : Bld B b l w.drew := h
theorem bld_grown {B b p : Nat} {l : List UInt8} {w w' : World} (h : Bld B b l w) (g : w.grownBy w' (some p)) (hp : p < B) : Bld B b l w' := by
  rcases h with ⟨hB, v, hb, hown, hne⟩ | ⟨hB, v, hb, hown, hne⟩
  · refine .inl ⟨hB, v, (g.block b (lt_of_block hb) (by simp; omega)).trans hb, hown.kept g (.inr (fun e => ?_)), hne⟩
    have := (hown.lt p e).1; omega
  · refine .inr ⟨hB, v, (g.block b (lt_of_block hb) (by simp; omega)).trans hb, hown.kept g (.inr (fun e => ?_)), hne⟩
    have := (hown.lt p e).1; omega
theorem grown_belowN {w x y : World} {p B : Nat} (h : w.grownBy x (some p)) (g : Below B x y) (hB : w.heap.size ≤ B) : w.grownBy y (some p) :=
  ⟨g.os.trans h.os, g.tape.trans h.tape, g.output.trans h.output, Nat.le_trans h.size g.size, fun k hk hr => (g.block k (by omega)).trans (h.block k hk hr)⟩
def textR (r : List UInt8) : Nat ⊕ (Tk × Nat) := match txS r with
  | .inl e => .inl e
  | .inr (t, n) => if 64 < t.length then .inl 5 else .inr (⟨3, t, 0⟩, n + 1)
set_option maxHeartbeats 4000000 in
theorem text_any (p : Nat) (s : List UInt8) (a : Nat) (w : World) (h : Lx w p s a) (r : List UInt8) (hcr : s.drop a = 34 :: r) (hs : s.length ≤ 4096) :
    Calls Tryd.prog 25 #[.pointer (some ⟨p, 0, none⟩)] w (GivesR p s a w (textR r)) := by
  have hal : a < s.length := by
    apply Nat.lt_of_not_le
    intro hle
    rw [List.drop_of_length_le hle] at hcr
    cases hcr
  have hd1 : s.drop (a + 1) = r := by
    have := congrArg (List.drop 1) hcr
    rwa [List.drop_drop] at this
  have CH := Lib.hid (fun j c r w' (hj : s.drop j = c :: r) (h : Lx w' p s j) => char_any p s j w' h c r hj hs)
  have WB := Lib.hid (fun B b l c w' (h : Bld B b l w') (hB : B ≤ w'.heap.size) hl => writeByte_any B b l c w' h hB hl)
  have BL := Lib.hid (fun B b (l : List UInt8) w' (h : Bld B b l w') => (show Calls Tryd.prog 32 #[.pointer (some ⟨b, 0, none⟩)] w' fun e w'' => e = .returned (.int .i64 (l.length : Int)) ∧ w'' = w' by
    have := Tryd.Builder_Len B b (Lib.byteCells l) w' h
    rwa [Lib.byteCells_length] at this))
  have BS := Lib.hid (fun B b l w' (h : Bld B b l w') hB => Tryd.Builder_String_any B b l w' h hB)
  have hsz := str_size s
  obtain ⟨R, hR⟩ : ∃ R, R = textR r := ⟨_, rfl⟩
  rw [← hR]
  obtain ⟨Z, hZ⟩ : ∃ Z, Z = GivesR p s a w R := ⟨_, rfl⟩
  rw [← hZ]
  have HZ := Lib.hid hZ
  have HR := Lib.hid hR
  have HD1 := Lib.hid hd1
  have hpw := lt_of_block h
  have q1 := h.below (((Below.refl w.heap.size w).alloc (Nat.le_refl _) (.cells #[.int .i64 0, .int .i64 0, .string ⟨#[]⟩, .int .i64 0] 33)).alloc (by simp) (.cells #[.pointer none, .slice none 0 0] 38))
  obtain ⟨r1, r2, r3, -⟩ := two_allocs w (.cells #[.int .i64 0, .int .i64 0, .string ⟨#[]⟩, .int .i64 0] 33) (.cells #[.pointer none, .slice none 0 0] 38)
  have g1 : w.grownBy ((w.alloc (.cells #[.int .i64 0, .int .i64 0, .string ⟨#[]⟩, .int .i64 0] 33)).alloc (.cells #[.pointer none, .slice none 0 0] 38)) (some p) := grown_none (((Below.refl w.heap.size w).alloc (Nat.le_refl _) _).alloc (by simp) _)
  have bl1 : Bld (w.heap.size + 1) (w.heap.size + 1) [] ((w.alloc (.cells #[.int .i64 0, .int .i64 0, .string ⟨#[]⟩, .int .i64 0] 33)).alloc (.cells #[.pointer none, .slice none 0 0] 38)) := .inl ⟨Nat.le_refl _, .slice none 0 0, r2, World.ownsRow_nil _ _ _ _, by simp [Value.ownBlock]⟩
  obtain ⟨W0, hW0⟩ : ∃ W, W = (w.alloc (.cells #[.int .i64 0, .int .i64 0, .string ⟨#[]⟩, .int .i64 0] 33)).alloc (.cells #[.pointer none, .slice none 0 0] 38) := ⟨_, rfl⟩
  have HW0 := Lib.hid hW0
  rw [← hW0] at q1 r1 g1 bl1
  obtain ⟨c0, c1, cf⟩ := block_cells2 q1
  clear hR hZ hd1 hcr r2 r3 hW0 h
  go_enter Tryd.func25, Tryd.ntmps25
  go_upto_region 2 with (fail)
  rw [← HW0.out]
  go_wp2_with fail
  obtain ⟨a1, ha1⟩ : ∃ a1, a1 = a + 1 := ⟨_, rfl⟩
  have YS : (a : Int) + 1 = (a1 : Int) := by rw [ha1]; push_cast; rfl
  have ha1s : a1 ≤ s.length := by omega
  have HA1 := Lib.hid ha1
  rw [← ha1] at HD1
  clear ha1
  rw [YS]
  have q2 := lx_store (b := a1) q1
  have g2 := grown_setB (i := 1) (u := .int .i64 (a1 : Int)) g1
  have bl2 := bld_grown bl1 (grown_setB (B := p) (i := 1) (u := .int .i64 (a1 : Int)) grown_reflB) (by omega)
  have m2 : (W0.setCell ⟨p, 1, none⟩ (.int .i64 (a1 : Int))).heap[w.heap.size]? = some (.cells #[.int .i64 0, .int .i64 0, .string ⟨#[]⟩, .int .i64 0] 33 (0, 0)) := (set_old (by omega)).trans r1
  obtain ⟨W1, hW1⟩ : ∃ W, W = W0.setCell ⟨p, 1, none⟩ (.int .i64 (a1 : Int)) := ⟨_, rfl⟩
  rw [← hW1] at q2 g2 bl2 m2 ⊢
  clear hW1 q1 g1 bl1 r1 c0 c1 cf YS HW0
  go_loopw [] (fun wr => ∃ (j : Nat) (bs : List UInt8), a1 ≤ j ∧ j ≤ s.length ∧ Hid (bs.length + a1 ≤ j) ∧ Lx wr p s j ∧ Hid (Bld (w.heap.size + 1) (w.heap.size + 1) bs wr) ∧ wr.heap[w.heap.size]? = some (.cells #[.int .i64 0, .int .i64 0, .string ⟨#[]⟩, .int .i64 0] 33 (0, 0)) ∧ Hid (txS r = txA bs (j - a1) (txS (s.drop j))) ∧ Hid (w.grownBy wr (some p))) (fun wr => s.length - atOf p wr)
  case atStart => exact ⟨a1, [], Nat.le_refl _, ha1s, Lib.hid (by simp), q2, Lib.hid bl2, m2, Lib.hid (by rw [HD1.out, Nat.sub_self, txA_nil]), Lib.hid g2⟩
  case round =>
    clear q2 g2 bl2 m2
    obtain ⟨j, bs, haj, hjs, HBS, q0, HB, m0, HT, HG⟩ := hrel
    have hat := Lib.hid (atOf_lx q0)
    obtain ⟨c0, c1, cf⟩ := block_cells2 q0
    have hlp := lt_of_block q0
    by_cases hlt : j < s.length
    · have h1 : ((j : Int) < (s.length : Int)) := by omega
      have h2 : decide ((j : Int) < (s.length : Int)) = true := decide_eq_true h1
      have hd := List.drop_eq_getElem_cons hlt
      have HGet : s.getD j 0 = s[j] := by simp [List.getD, hlt]
      obtain ⟨c, hc⟩ : ∃ c, c = s[j] := ⟨_, rfl⟩
      rw [← hc] at hd HGet
      have HD := Lib.hid hd
      have HC := Lib.hid (show bv (s.getD j 0) = .int .u8 (c.toNat : Int) by rw [HGet]; rfl)
      clear hc HGet hd
      by_cases h34 : c.toNat = 34
      · have h3 : ((c.toNat : Int) != 34) = false := by rw [h34]; rfl
        have hc34 : c = 34 := UInt8.toNat_inj.1 h34
        have HT2 := Lib.hid (show txS r = .inr (bs, j - a1 + 1) by rw [HT.out, HD.out, hc34, tx_quote]; simp [txA])
        clear hc34 h34
        go_wp2
        refine g_start (by kernel_rfl) ?_
        refine g_take (i := 0) (d := (some 14)) (v := ?_) rfl rfl (by kernel_rfl) (fun _ _ _ h => h) (by rfl) (fun w' hb' => ?_) ?_
        rotate_left
        · (try go_simp); (try with_reducible rfl)
        try simp only [Act.put, List.setIfInBounds_toArray, List.set_cons_zero, List.set_cons_succ]
        refine g_take (i := 1) (d := (some 15)) (v := ?_) rfl rfl (by kernel_rfl) (fun _ _ _ h => h) (by rfl) (fun w' hb' => ?_) ?_
        rotate_left
        · (try go_simp); (try with_reducible rfl)
        try simp only [Act.put, List.setIfInBounds_toArray, List.set_cons_zero, List.set_cons_succ]
        refine g_take (i := 2) (d := (some 16)) (v := ?_) rfl rfl (by kernel_rfl) (fun _ _ _ h => h) (by rfl) (fun w' hb' => ?_) ?_
        rotate_left
        · (try go_simp); (try with_reducible rfl)
        try simp only [Act.put, List.setIfInBounds_toArray, List.set_cons_zero, List.set_cons_succ]
        refine g_take (i := 3) (d := (some 17)) (v := ?_) rfl rfl (by kernel_rfl) (fun _ _ _ h => h) (by rfl) (fun w' hb' => ?_) ?_
        rotate_left
        · have z := (hb'.cell (p := ⟨p, 1, none⟩) hlp).trans c1; (try go_simp); (try with_reducible rfl)
        try simp only [Act.put, List.setIfInBounds_toArray, List.set_cons_zero, List.set_cons_succ]
        refine g_take (i := 4) (d := (some 18)) (v := ?_) rfl rfl (by kernel_rfl) (fun _ _ _ h => h) (by rfl) (fun w' hb' => ?_) ?_
        rotate_left
        · (try go_simp); (try with_reducible rfl)
        try simp only [Act.put, List.setIfInBounds_toArray, List.set_cons_zero, List.set_cons_succ]
        refine g_take (i := 5) (d := (some 19)) (v := ?_) rfl rfl (by kernel_rfl) (fun _ _ _ h => h) (by rfl) (fun w' hb' => ?_) ?_
        rotate_left
        · (try go_simp); (try with_reducible rfl)
        try simp only [Act.put, List.setIfInBounds_toArray, List.set_cons_zero, List.set_cons_succ]
        refine g_take (i := 6) (d := (some 20)) (v := ?_) rfl rfl (by kernel_rfl) (fun _ _ _ h => h) (by rfl) (fun w' hb' => ?_) ?_
        rotate_left
        · (try go_simp); (try with_reducible rfl)
        try simp only [Act.put, List.setIfInBounds_toArray, List.set_cons_zero, List.set_cons_succ]
        refine g_take (i := 7) (d := (some 21)) (v := ?_) rfl rfl (by kernel_rfl) (fun _ _ _ h => h) (by rfl) (fun w' hb' => ?_) ?_
        rotate_left
        · have z := (hb'.cell (p := ⟨p, 0, none⟩) hlp).trans c0; (try go_simp); (try with_reducible rfl)
        try simp only [Act.put, List.setIfInBounds_toArray, List.set_cons_zero, List.set_cons_succ]
        refine g_take (i := 8) (d := (some 22)) (v := ?_) rfl rfl (by kernel_rfl) (fun _ _ _ h => h) (by rfl) (fun w' hb' => ?_) ?_
        rotate_left
        · (try go_simp); (try with_reducible rfl)
        try simp only [Act.put, List.setIfInBounds_toArray, List.set_cons_zero, List.set_cons_succ]
        refine g_take (i := 9) (d := (some 23)) (v := ?_) rfl rfl (by kernel_rfl) (fun _ _ _ h => h) (by rfl) (fun w' hb' => ?_) ?_
        rotate_left
        · (try go_simp); (try with_reducible rfl)
        try simp only [Act.put, List.setIfInBounds_toArray, List.set_cons_zero, List.set_cons_succ]
        refine g_take (i := 10) (d := (some 24)) (v := ?_) rfl rfl (by kernel_rfl) (fun _ _ _ h => h) (by rfl) (fun w' hb' => ?_) ?_
        rotate_left
        · (try go_simp); (try with_reducible rfl)
        try simp only [Act.put, List.setIfInBounds_toArray, List.set_cons_zero, List.set_cons_succ]
        refine g_take (i := 11) (d := (some 25)) (v := ?_) rfl rfl (by kernel_rfl) (fun _ _ _ h => h) (by rfl) (fun w' hb' => ?_) ?_
        rotate_left
        · (try go_simp); (try with_reducible rfl)
        try simp only [Act.put, List.setIfInBounds_toArray, List.set_cons_zero, List.set_cons_succ]
        refine g_take (i := 12) (d := (some 26)) (v := ?_) rfl rfl (by kernel_rfl) (fun _ _ _ h => h) (by rfl) (fun w' hb' => ?_) ?_
        rotate_left
        · (try go_simp); (try with_reducible rfl)
        try simp only [Act.put, List.setIfInBounds_toArray, List.set_cons_zero, List.set_cons_succ]
        refine g_take (i := 13) (d := (some 27)) (v := ?_) rfl rfl (by kernel_rfl) (fun _ _ _ h => h) (by rfl) (fun w' hb' => ?_) ?_
        rotate_left
        · (try go_simp); (try with_reducible rfl)
        try simp only [Act.put, List.setIfInBounds_toArray, List.set_cons_zero, List.set_cons_succ]
        refine g_take (i := 14) (d := (some 28)) (v := ?_) rfl rfl (by kernel_rfl) (fun _ _ _ h => h) (by rfl) (fun w' hb' => ?_) ?_
        rotate_left
        · have z := (hb'.cell (p := ⟨p, 0, none⟩) hlp).trans c0; (try go_simp); (try with_reducible rfl)
        try simp only [Act.put, List.setIfInBounds_toArray, List.set_cons_zero, List.set_cons_succ]
        refine g_take (i := 15) (d := (some 29)) (v := ?_) rfl rfl (by kernel_rfl) (fun _ _ _ h => h) (by rfl) (fun w' hb' => ?_) ?_
        rotate_left
        · (try go_simp); (try with_reducible rfl)
        try simp only [Act.put, List.setIfInBounds_toArray, List.set_cons_zero, List.set_cons_succ]
        refine g_take (i := 16) (d := (some 30)) (v := ?_) rfl rfl (by kernel_rfl) (fun _ _ _ h => h) (by rfl) (fun w' hb' => ?_) ?_
        rotate_left
        · (try go_simp); (try with_reducible rfl)
        try simp only [Act.put, List.setIfInBounds_toArray, List.set_cons_zero, List.set_cons_succ]
        refine g_take (i := 17) (d := (some 31)) (v := ?_) rfl rfl (by kernel_rfl) (fun _ _ _ h => h) (by rfl) (fun w' hb' => ?_) ?_
        rotate_left
        · (try go_simp); (try with_reducible rfl)
        try simp only [Act.put, List.setIfInBounds_toArray, List.set_cons_zero, List.set_cons_succ]
        refine g_take (i := 18) (d := (some 32)) (v := ?_) rfl rfl (by kernel_rfl) (fun _ _ _ h => h) (by rfl) (fun w' hb' => ?_) ?_
        rotate_left
        · have z := (hb'.cell (p := ⟨p, 1, none⟩) hlp).trans c1; (try go_simp); (try with_reducible rfl)
        try simp only [Act.put, List.setIfInBounds_toArray, List.set_cons_zero, List.set_cons_succ]
        refine g_take (i := 19) (d := (some 33)) (v := ?_) rfl rfl (by kernel_rfl) (fun _ _ _ h => h) (by rfl) (fun w' hb' => ?_) ?_
        rotate_left
        · refine str_index_op 9 (.tmp 28) (.tmp 32) ?_ s j ?_ ?_ hlt (.int .u8 (c.toNat : Int)) HC.out ?_ <;> rfl; (try go_simp); (try with_reducible rfl)
        try simp only [Act.put, List.setIfInBounds_toArray, List.set_cons_zero, List.set_cons_succ]
        refine g_take (i := 20) (d := (some 34)) (v := ?_) rfl rfl (by kernel_rfl) (fun _ _ _ h => h) (by rfl) (fun w' hb' => ?_) ?_
        rotate_left
        · (try go_simp); (try with_reducible rfl)
        try simp only [Act.put, List.setIfInBounds_toArray, List.set_cons_zero, List.set_cons_succ]
        refine g_take (i := 21) (d := (some 35)) (v := ?_) rfl rfl (by kernel_rfl) (fun _ _ _ h => h) (by rfl) (fun w' hb' => ?_) ?_
        rotate_left
        · (try go_simp); (try with_reducible rfl)
        try simp only [Act.put, List.setIfInBounds_toArray, List.set_cons_zero, List.set_cons_succ]
        refine g_done (by kernel_rfl) ?_
        obtain ⟨W3, hW3⟩ : ∃ W, W = wr.drew := ⟨_, rfl⟩
        replace q0 : Lx W3 p s j := by rw [hW3]; exact q0
        replace HG : Hid (w.grownBy W3 (some p)) := Lib.hid (by rw [hW3]; exact grown_drewB HG.out)
        replace HB : Hid (Bld (w.heap.size + 1) (w.heap.size + 1) bs W3) := Lib.hid (by rw [hW3]; exact bld_drew HB.out)
        replace m0 : W3.heap[w.heap.size]? = some (.cells #[.int .i64 0, .int .i64 0, .string ⟨#[]⟩, .int .i64 0] 33 (0, 0)) := by rw [hW3]; exact m0
        rw [← hW3]
        clear c0 c1 cf hW3
        obtain ⟨c0, c1, cf⟩ := block_cells2 q0
        obtain ⟨d0, d1, d2, d3, df⟩ := block_cells4 m0
        replace hlp := lt_of_block q0
        go_wp2_with fail
        refine g_start (by kernel_rfl) ?_
        refine g_take (i := 0) (d := (some 48)) (v := ?_) rfl rfl (by kernel_rfl) (fun _ _ _ h => h) (by rfl) (fun w' hb' => ?_) ?_
        rotate_left
        · (try go_simp); (try with_reducible rfl)
        try simp only [Act.put, List.setIfInBounds_toArray, List.set_cons_zero, List.set_cons_succ]
        refine g_take (i := 1) (d := (some 49)) (v := ?_) rfl rfl (by kernel_rfl) (fun _ _ _ h => h) (by rfl) (fun w' hb' => ?_) ?_
        rotate_left
        · (try go_simp); (try with_reducible rfl)
        try simp only [Act.put, List.setIfInBounds_toArray, List.set_cons_zero, List.set_cons_succ]
        refine g_take (i := 2) (d := (some 50)) (v := ?_) rfl rfl (by kernel_rfl) (fun _ _ _ h => h) (by rfl) (fun w' hb' => ?_) ?_
        rotate_left
        · (try go_simp); (try with_reducible rfl)
        try simp only [Act.put, List.setIfInBounds_toArray, List.set_cons_zero, List.set_cons_succ]
        refine g_take (i := 3) (d := (some 51)) (v := ?_) rfl rfl (by kernel_rfl) (fun _ _ _ h => h) (by rfl) (fun w' hb' => ?_) ?_
        rotate_left
        · have z := (hb'.cell (p := ⟨p, 1, none⟩) hlp).trans c1; (try go_simp); (try with_reducible rfl)
        try simp only [Act.put, List.setIfInBounds_toArray, List.set_cons_zero, List.set_cons_succ]
        refine g_take (i := 4) (d := (some 52)) (v := ?_) rfl rfl (by kernel_rfl) (fun _ _ _ h => h) (by rfl) (fun w' hb' => ?_) ?_
        rotate_left
        · (try go_simp); (try with_reducible rfl)
        try simp only [Act.put, List.setIfInBounds_toArray, List.set_cons_zero, List.set_cons_succ]
        refine g_take (i := 5) (d := (some 53)) (v := ?_) rfl rfl (by kernel_rfl) (fun _ _ _ h => h) (by rfl) (fun w' hb' => ?_) ?_
        rotate_left
        · (try go_simp); (try with_reducible rfl)
        try simp only [Act.put, List.setIfInBounds_toArray, List.set_cons_zero, List.set_cons_succ]
        refine g_take (i := 6) (d := (some 54)) (v := ?_) rfl rfl (by kernel_rfl) (fun _ _ _ h => h) (by rfl) (fun w' hb' => ?_) ?_
        rotate_left
        · (try go_simp); (try with_reducible rfl)
        try simp only [Act.put, List.setIfInBounds_toArray, List.set_cons_zero, List.set_cons_succ]
        refine g_take (i := 7) (d := (some 55)) (v := ?_) rfl rfl (by kernel_rfl) (fun _ _ _ h => h) (by rfl) (fun w' hb' => ?_) ?_
        rotate_left
        · have z := (hb'.cell (p := ⟨p, 0, none⟩) hlp).trans c0; (try go_simp); (try with_reducible rfl)
        try simp only [Act.put, List.setIfInBounds_toArray, List.set_cons_zero, List.set_cons_succ]
        refine g_take (i := 8) (d := (some 56)) (v := ?_) rfl rfl (by kernel_rfl) (fun _ _ _ h => h) (by rfl) (fun w' hb' => ?_) ?_
        rotate_left
        · (try go_simp); (try with_reducible rfl)
        try simp only [Act.put, List.setIfInBounds_toArray, List.set_cons_zero, List.set_cons_succ]
        refine g_take (i := 9) (d := (some 57)) (v := ?_) rfl rfl (by kernel_rfl) (fun _ _ _ h => h) (by rfl) (fun w' hb' => ?_) ?_
        rotate_left
        · (try go_simp); (try with_reducible rfl)
        try simp only [Act.put, List.setIfInBounds_toArray, List.set_cons_zero, List.set_cons_succ]
        refine g_take (i := 10) (d := (some 47)) (v := ?_) rfl rfl (by kernel_rfl) (fun _ _ _ h => h) (by rfl) (fun w' hb' => ?_) ?_
        rotate_left
        · (try go_simp); (try with_reducible rfl)
        try simp only [Act.put, List.setIfInBounds_toArray, List.set_cons_zero, List.set_cons_succ]
        refine g_done (by kernel_rfl) ?_
        obtain ⟨W4, hW4⟩ : ∃ W, W = W3.drew := ⟨_, rfl⟩
        replace q0 : Lx W4 p s j := by rw [hW4]; exact q0
        replace HG : Hid (w.grownBy W4 (some p)) := Lib.hid (by rw [hW4]; exact grown_drewB HG.out)
        replace HB : Hid (Bld (w.heap.size + 1) (w.heap.size + 1) bs W4) := Lib.hid (by rw [hW4]; exact bld_drew HB.out)
        replace m0 : W4.heap[w.heap.size]? = some (.cells #[.int .i64 0, .int .i64 0, .string ⟨#[]⟩, .int .i64 0] 33 (0, 0)) := by rw [hW4]; exact m0
        rw [← hW4]
        clear c0 c1 cf hW4
        obtain ⟨c0, c1, cf⟩ := block_cells2 q0
        obtain ⟨d0, d1, d2, d3, df⟩ := block_cells4 m0
        replace hlp := lt_of_block q0
        by_cases h64 : 64 < bs.length
        · have hbl : (64 : Int) < (bs.length : Int) := by omega
          have HRR := Lib.hid (show R = .inl 5 by rw [HR.out]; unfold textR; rw [HT2.out]; exact if_pos h64)
          go_wp2_with ((with_reducible refine (BL.out _ _ bs _ HB.out).mono ?_); rintro e w5 ⟨rfl, rfl⟩)
          refine bodyPost_ret (results_cell_row_tmp rfl _ _ _ 33 #[.int .i64 0, .int .i64 0, .string ⟨#[]⟩, .int .i64 0] (0, 0) _ rfl (set4_new m0) Tryd.underlying33 rfl tok_cells) rfl ?_
          rw [HZ.out, HRR.out]
          exact ⟨rfl, set4_fin HG.out (Nat.le_refl _)⟩
        · have hbl : ¬ (64 : Int) < (bs.length : Int) := by omega
          have HRR := Lib.hid (show R = .inr (⟨3, bs, 0⟩, j - a1 + 1 + 1) by rw [HR.out]; unfold textR; rw [HT2.out]; exact if_neg h64)
          have q5 : Lx (W4.setCell ⟨p, 1, none⟩ (.int .i64 ((j : Int) + 1))) p s (j + 1) := by
            have := lx_store (b := j + 1) q0
            rwa [show ((j + 1 : Nat) : Int) = (j : Int) + 1 by push_cast; rfl] at this
          have g5 : w.grownBy (W4.setCell ⟨p, 1, none⟩ (.int .i64 ((j : Int) + 1))) (some p) := grown_setB HG.out
          have b5 := bld_grown HB.out (grown_setB (B := p) (i := 1) (u := .int .i64 ((j : Int) + 1)) grown_reflB) (by omega)
          have m5 : (W4.setCell ⟨p, 1, none⟩ (.int .i64 ((j : Int) + 1))).heap[w.heap.size]? = some (.cells #[.int .i64 0, .int .i64 0, .string ⟨#[]⟩, .int .i64 0] 33 (0, 0)) := (set_old (by omega)).trans m0
          have hs5 : w.heap.size + 1 ≤ (W4.setCell ⟨p, 1, none⟩ (.int .i64 ((j : Int) + 1))).heap.size := by have := lt_of_block m5; omega
          have Q5 := Lib.hid q5
          have G5 := Lib.hid g5
          have B5 := Lib.hid b5
          have M5 := Lib.hid m5
          have S5 := Lib.hid hs5
          clear q5 g5 b5 m5 hs5
          go_wp2_with ((with_reducible refine (BL.out _ _ bs _ HB.out).mono ?_); rintro e w5 ⟨rfl, rfl⟩)
          refine (BS.out _ _ bs _ B5.out S5.out).mono ?_
          rintro e w6 ⟨rfl, g6⟩
          have m6 := (g6.block _ (Nat.lt_succ_self _)).trans M5.out
          obtain ⟨d0, d1, d2, d3, df⟩ := block_cells4 m6
          clear c0 c1 cf
          go_wp2_with fail
          refine bodyPost_ret (results_cell_row_tmp rfl _ _ _ 33 #[.int .i64 3, .int .i64 0, .string (str bs), .int .i64 0] (0, 0) _ rfl (set4_new m6) Tryd.underlying33 rfl tok_cells) rfl ?_
          rw [HZ.out, HRR.out]
          refine ⟨⟨rfl, (set4_old (by omega)).trans ?_⟩, set4_fin (grown_belowN G5.out g6 (by omega)) (Nat.le_refl _)⟩
          have e : a + (j - a1 + 1 + 1) = j + 1 := by have := HA1.out; omega
          rw [e]
          exact (g6.block p (by omega)).trans Q5.out
      · have h3 : ((c.toNat : Int) != 34) = true := by simp; omega
        have hc34 : c ≠ 34 := fun e => h34 (by rw [e]; rfl)
        obtain ⟨t1, t2⟩ := tx_step c (s.drop (j + 1)) hc34
        have CHJ := Lib.hid (fun w' (h : Lx w' p s j) => CH.out j c (s.drop (j + 1)) w' HD.out h)
        unfold GivesC at CHJ
        obtain ⟨⟨cb, ce, ck⟩, hQ⟩ : ∃ Q, Q = charP c (s.drop (j + 1)) := ⟨_, rfl⟩
        rw [← hQ] at CHJ t1 t2
        simp only at CHJ t1 t2
        rw [← HD.out] at t1 t2
        have HT1 := Lib.hid t1
        have HT2 := Lib.hid t2
        clear t1 t2 hQ hc34
        by_cases hce : ce = 0
        · subst hce
          obtain ⟨u1, u2, u3⟩ := HT2.out rfl
          rw [List.length_drop] at u3
          have U1 := Lib.hid u1
          have hbs := HBS.out
          have hbl : bs.length ≤ 100000 := by omega
          clear u1
          go_wp2
          refine g_start (by kernel_rfl) ?_
          refine g_take (i := 0) (d := (some 14)) (v := ?_) rfl rfl (by kernel_rfl) (fun _ _ _ h => h) (by rfl) (fun w' hb' => ?_) ?_
          rotate_left
          · (try go_simp); (try with_reducible rfl)
          try simp only [Act.put, List.setIfInBounds_toArray, List.set_cons_zero, List.set_cons_succ]
          refine g_take (i := 1) (d := (some 15)) (v := ?_) rfl rfl (by kernel_rfl) (fun _ _ _ h => h) (by rfl) (fun w' hb' => ?_) ?_
          rotate_left
          · (try go_simp); (try with_reducible rfl)
          try simp only [Act.put, List.setIfInBounds_toArray, List.set_cons_zero, List.set_cons_succ]
          refine g_take (i := 2) (d := (some 16)) (v := ?_) rfl rfl (by kernel_rfl) (fun _ _ _ h => h) (by rfl) (fun w' hb' => ?_) ?_
          rotate_left
          · (try go_simp); (try with_reducible rfl)
          try simp only [Act.put, List.setIfInBounds_toArray, List.set_cons_zero, List.set_cons_succ]
          refine g_take (i := 3) (d := (some 17)) (v := ?_) rfl rfl (by kernel_rfl) (fun _ _ _ h => h) (by rfl) (fun w' hb' => ?_) ?_
          rotate_left
          · have z := (hb'.cell (p := ⟨p, 1, none⟩) hlp).trans c1; (try go_simp); (try with_reducible rfl)
          try simp only [Act.put, List.setIfInBounds_toArray, List.set_cons_zero, List.set_cons_succ]
          refine g_take (i := 4) (d := (some 18)) (v := ?_) rfl rfl (by kernel_rfl) (fun _ _ _ h => h) (by rfl) (fun w' hb' => ?_) ?_
          rotate_left
          · (try go_simp); (try with_reducible rfl)
          try simp only [Act.put, List.setIfInBounds_toArray, List.set_cons_zero, List.set_cons_succ]
          refine g_take (i := 5) (d := (some 19)) (v := ?_) rfl rfl (by kernel_rfl) (fun _ _ _ h => h) (by rfl) (fun w' hb' => ?_) ?_
          rotate_left
          · (try go_simp); (try with_reducible rfl)
          try simp only [Act.put, List.setIfInBounds_toArray, List.set_cons_zero, List.set_cons_succ]
          refine g_take (i := 6) (d := (some 20)) (v := ?_) rfl rfl (by kernel_rfl) (fun _ _ _ h => h) (by rfl) (fun w' hb' => ?_) ?_
          rotate_left
          · (try go_simp); (try with_reducible rfl)
          try simp only [Act.put, List.setIfInBounds_toArray, List.set_cons_zero, List.set_cons_succ]
          refine g_take (i := 7) (d := (some 21)) (v := ?_) rfl rfl (by kernel_rfl) (fun _ _ _ h => h) (by rfl) (fun w' hb' => ?_) ?_
          rotate_left
          · have z := (hb'.cell (p := ⟨p, 0, none⟩) hlp).trans c0; (try go_simp); (try with_reducible rfl)
          try simp only [Act.put, List.setIfInBounds_toArray, List.set_cons_zero, List.set_cons_succ]
          refine g_take (i := 8) (d := (some 22)) (v := ?_) rfl rfl (by kernel_rfl) (fun _ _ _ h => h) (by rfl) (fun w' hb' => ?_) ?_
          rotate_left
          · (try go_simp); (try with_reducible rfl)
          try simp only [Act.put, List.setIfInBounds_toArray, List.set_cons_zero, List.set_cons_succ]
          refine g_take (i := 9) (d := (some 23)) (v := ?_) rfl rfl (by kernel_rfl) (fun _ _ _ h => h) (by rfl) (fun w' hb' => ?_) ?_
          rotate_left
          · (try go_simp); (try with_reducible rfl)
          try simp only [Act.put, List.setIfInBounds_toArray, List.set_cons_zero, List.set_cons_succ]
          refine g_take (i := 10) (d := (some 24)) (v := ?_) rfl rfl (by kernel_rfl) (fun _ _ _ h => h) (by rfl) (fun w' hb' => ?_) ?_
          rotate_left
          · (try go_simp); (try with_reducible rfl)
          try simp only [Act.put, List.setIfInBounds_toArray, List.set_cons_zero, List.set_cons_succ]
          refine g_take (i := 11) (d := (some 25)) (v := ?_) rfl rfl (by kernel_rfl) (fun _ _ _ h => h) (by rfl) (fun w' hb' => ?_) ?_
          rotate_left
          · (try go_simp); (try with_reducible rfl)
          try simp only [Act.put, List.setIfInBounds_toArray, List.set_cons_zero, List.set_cons_succ]
          refine g_take (i := 12) (d := (some 26)) (v := ?_) rfl rfl (by kernel_rfl) (fun _ _ _ h => h) (by rfl) (fun w' hb' => ?_) ?_
          rotate_left
          · (try go_simp); (try with_reducible rfl)
          try simp only [Act.put, List.setIfInBounds_toArray, List.set_cons_zero, List.set_cons_succ]
          refine g_take (i := 13) (d := (some 27)) (v := ?_) rfl rfl (by kernel_rfl) (fun _ _ _ h => h) (by rfl) (fun w' hb' => ?_) ?_
          rotate_left
          · (try go_simp); (try with_reducible rfl)
          try simp only [Act.put, List.setIfInBounds_toArray, List.set_cons_zero, List.set_cons_succ]
          refine g_take (i := 14) (d := (some 28)) (v := ?_) rfl rfl (by kernel_rfl) (fun _ _ _ h => h) (by rfl) (fun w' hb' => ?_) ?_
          rotate_left
          · have z := (hb'.cell (p := ⟨p, 0, none⟩) hlp).trans c0; (try go_simp); (try with_reducible rfl)
          try simp only [Act.put, List.setIfInBounds_toArray, List.set_cons_zero, List.set_cons_succ]
          refine g_take (i := 15) (d := (some 29)) (v := ?_) rfl rfl (by kernel_rfl) (fun _ _ _ h => h) (by rfl) (fun w' hb' => ?_) ?_
          rotate_left
          · (try go_simp); (try with_reducible rfl)
          try simp only [Act.put, List.setIfInBounds_toArray, List.set_cons_zero, List.set_cons_succ]
          refine g_take (i := 16) (d := (some 30)) (v := ?_) rfl rfl (by kernel_rfl) (fun _ _ _ h => h) (by rfl) (fun w' hb' => ?_) ?_
          rotate_left
          · (try go_simp); (try with_reducible rfl)
          try simp only [Act.put, List.setIfInBounds_toArray, List.set_cons_zero, List.set_cons_succ]
          refine g_take (i := 17) (d := (some 31)) (v := ?_) rfl rfl (by kernel_rfl) (fun _ _ _ h => h) (by rfl) (fun w' hb' => ?_) ?_
          rotate_left
          · (try go_simp); (try with_reducible rfl)
          try simp only [Act.put, List.setIfInBounds_toArray, List.set_cons_zero, List.set_cons_succ]
          refine g_take (i := 18) (d := (some 32)) (v := ?_) rfl rfl (by kernel_rfl) (fun _ _ _ h => h) (by rfl) (fun w' hb' => ?_) ?_
          rotate_left
          · have z := (hb'.cell (p := ⟨p, 1, none⟩) hlp).trans c1; (try go_simp); (try with_reducible rfl)
          try simp only [Act.put, List.setIfInBounds_toArray, List.set_cons_zero, List.set_cons_succ]
          refine g_take (i := 19) (d := (some 33)) (v := ?_) rfl rfl (by kernel_rfl) (fun _ _ _ h => h) (by rfl) (fun w' hb' => ?_) ?_
          rotate_left
          · refine str_index_op 9 (.tmp 28) (.tmp 32) ?_ s j ?_ ?_ hlt (.int .u8 (c.toNat : Int)) HC.out ?_ <;> rfl; (try go_simp); (try with_reducible rfl)
          try simp only [Act.put, List.setIfInBounds_toArray, List.set_cons_zero, List.set_cons_succ]
          refine g_take (i := 20) (d := (some 34)) (v := ?_) rfl rfl (by kernel_rfl) (fun _ _ _ h => h) (by rfl) (fun w' hb' => ?_) ?_
          rotate_left
          · (try go_simp); (try with_reducible rfl)
          try simp only [Act.put, List.setIfInBounds_toArray, List.set_cons_zero, List.set_cons_succ]
          refine g_take (i := 21) (d := (some 35)) (v := ?_) rfl rfl (by kernel_rfl) (fun _ _ _ h => h) (by rfl) (fun w' hb' => ?_) ?_
          rotate_left
          · (try go_simp); (try with_reducible rfl)
          try simp only [Act.put, List.setIfInBounds_toArray, List.set_cons_zero, List.set_cons_succ]
          refine g_done (by kernel_rfl) ?_
          obtain ⟨W3, hW3⟩ : ∃ W, W = wr.drew := ⟨_, rfl⟩
          replace q0 : Lx W3 p s j := by rw [hW3]; exact q0
          replace HG : Hid (w.grownBy W3 (some p)) := Lib.hid (by rw [hW3]; exact grown_drewB HG.out)
          replace HB : Hid (Bld (w.heap.size + 1) (w.heap.size + 1) bs W3) := Lib.hid (by rw [hW3]; exact bld_drew HB.out)
          replace m0 : W3.heap[w.heap.size]? = some (.cells #[.int .i64 0, .int .i64 0, .string ⟨#[]⟩, .int .i64 0] 33 (0, 0)) := by rw [hW3]; exact m0
          rw [← hW3]
          clear c0 c1 cf hW3
          obtain ⟨c0, c1, cf⟩ := block_cells2 q0
          obtain ⟨d0, d1, d2, d3, df⟩ := block_cells4 m0
          replace hlp := lt_of_block q0
          go_wp2_with (first | ((with_reducible refine (CHJ.out _ q0).mono ?_); rintro e w5 ⟨rfl, l5, g5⟩; (have b5 := bld_grown HB.out g5 (by omega)); (have s5 : w.heap.size + 1 ≤ w5.heap.size := Nat.le_trans (by have := lt_of_block m0; omega) g5.size)) | ((with_reducible refine (WB.out _ _ bs cb _ b5 s5 hbl).mono ?_); rintro e w6 ⟨rfl, b6, g6⟩))
          have l6 : Lx w6 p s (j + ck) := (g6.block p (by omega)).trans l5
          have m6 := (g6.block _ (by omega)).trans ((g5.block _ (lt_of_block m0) (by simp; omega)).trans m0)
          refine ⟨⟨j + ck, bs ++ [cb], by omega, by omega, Lib.hid (by rw [List.length_append, List.length_singleton]; omega), l6, Lib.hid b6, m6, Lib.hid ?_, Lib.hid (grown_belowN (grown_transB HG.out g5) g6 (by omega))⟩, by rw [atOf_lx l6, hat.out]; omega⟩
          rw [HT.out, U1.out, txA_txA, List.drop_drop]
          congr 1
          omega
        · have HRR := Lib.hid (show R = .inl ce by rw [HR.out]; unfold textR; rw [HT.out, HT1.out hce]; rfl)
          have hce1 : ((ce : Int) != 0) = true := by simp; omega
          go_wp2
          refine g_start (by kernel_rfl) ?_
          refine g_take (i := 0) (d := (some 14)) (v := ?_) rfl rfl (by kernel_rfl) (fun _ _ _ h => h) (by rfl) (fun w' hb' => ?_) ?_
          rotate_left
          · (try go_simp); (try with_reducible rfl)
          try simp only [Act.put, List.setIfInBounds_toArray, List.set_cons_zero, List.set_cons_succ]
          refine g_take (i := 1) (d := (some 15)) (v := ?_) rfl rfl (by kernel_rfl) (fun _ _ _ h => h) (by rfl) (fun w' hb' => ?_) ?_
          rotate_left
          · (try go_simp); (try with_reducible rfl)
          try simp only [Act.put, List.setIfInBounds_toArray, List.set_cons_zero, List.set_cons_succ]
          refine g_take (i := 2) (d := (some 16)) (v := ?_) rfl rfl (by kernel_rfl) (fun _ _ _ h => h) (by rfl) (fun w' hb' => ?_) ?_
          rotate_left
          · (try go_simp); (try with_reducible rfl)
          try simp only [Act.put, List.setIfInBounds_toArray, List.set_cons_zero, List.set_cons_succ]
          refine g_take (i := 3) (d := (some 17)) (v := ?_) rfl rfl (by kernel_rfl) (fun _ _ _ h => h) (by rfl) (fun w' hb' => ?_) ?_
          rotate_left
          · have z := (hb'.cell (p := ⟨p, 1, none⟩) hlp).trans c1; (try go_simp); (try with_reducible rfl)
          try simp only [Act.put, List.setIfInBounds_toArray, List.set_cons_zero, List.set_cons_succ]
          refine g_take (i := 4) (d := (some 18)) (v := ?_) rfl rfl (by kernel_rfl) (fun _ _ _ h => h) (by rfl) (fun w' hb' => ?_) ?_
          rotate_left
          · (try go_simp); (try with_reducible rfl)
          try simp only [Act.put, List.setIfInBounds_toArray, List.set_cons_zero, List.set_cons_succ]
          refine g_take (i := 5) (d := (some 19)) (v := ?_) rfl rfl (by kernel_rfl) (fun _ _ _ h => h) (by rfl) (fun w' hb' => ?_) ?_
          rotate_left
          · (try go_simp); (try with_reducible rfl)
          try simp only [Act.put, List.setIfInBounds_toArray, List.set_cons_zero, List.set_cons_succ]
          refine g_take (i := 6) (d := (some 20)) (v := ?_) rfl rfl (by kernel_rfl) (fun _ _ _ h => h) (by rfl) (fun w' hb' => ?_) ?_
          rotate_left
          · (try go_simp); (try with_reducible rfl)
          try simp only [Act.put, List.setIfInBounds_toArray, List.set_cons_zero, List.set_cons_succ]
          refine g_take (i := 7) (d := (some 21)) (v := ?_) rfl rfl (by kernel_rfl) (fun _ _ _ h => h) (by rfl) (fun w' hb' => ?_) ?_
          rotate_left
          · have z := (hb'.cell (p := ⟨p, 0, none⟩) hlp).trans c0; (try go_simp); (try with_reducible rfl)
          try simp only [Act.put, List.setIfInBounds_toArray, List.set_cons_zero, List.set_cons_succ]
          refine g_take (i := 8) (d := (some 22)) (v := ?_) rfl rfl (by kernel_rfl) (fun _ _ _ h => h) (by rfl) (fun w' hb' => ?_) ?_
          rotate_left
          · (try go_simp); (try with_reducible rfl)
          try simp only [Act.put, List.setIfInBounds_toArray, List.set_cons_zero, List.set_cons_succ]
          refine g_take (i := 9) (d := (some 23)) (v := ?_) rfl rfl (by kernel_rfl) (fun _ _ _ h => h) (by rfl) (fun w' hb' => ?_) ?_
          rotate_left
          · (try go_simp); (try with_reducible rfl)
          try simp only [Act.put, List.setIfInBounds_toArray, List.set_cons_zero, List.set_cons_succ]
          refine g_take (i := 10) (d := (some 24)) (v := ?_) rfl rfl (by kernel_rfl) (fun _ _ _ h => h) (by rfl) (fun w' hb' => ?_) ?_
          rotate_left
          · (try go_simp); (try with_reducible rfl)
          try simp only [Act.put, List.setIfInBounds_toArray, List.set_cons_zero, List.set_cons_succ]
          refine g_take (i := 11) (d := (some 25)) (v := ?_) rfl rfl (by kernel_rfl) (fun _ _ _ h => h) (by rfl) (fun w' hb' => ?_) ?_
          rotate_left
          · (try go_simp); (try with_reducible rfl)
          try simp only [Act.put, List.setIfInBounds_toArray, List.set_cons_zero, List.set_cons_succ]
          refine g_take (i := 12) (d := (some 26)) (v := ?_) rfl rfl (by kernel_rfl) (fun _ _ _ h => h) (by rfl) (fun w' hb' => ?_) ?_
          rotate_left
          · (try go_simp); (try with_reducible rfl)
          try simp only [Act.put, List.setIfInBounds_toArray, List.set_cons_zero, List.set_cons_succ]
          refine g_take (i := 13) (d := (some 27)) (v := ?_) rfl rfl (by kernel_rfl) (fun _ _ _ h => h) (by rfl) (fun w' hb' => ?_) ?_
          rotate_left
          · (try go_simp); (try with_reducible rfl)
          try simp only [Act.put, List.setIfInBounds_toArray, List.set_cons_zero, List.set_cons_succ]
          refine g_take (i := 14) (d := (some 28)) (v := ?_) rfl rfl (by kernel_rfl) (fun _ _ _ h => h) (by rfl) (fun w' hb' => ?_) ?_
          rotate_left
          · have z := (hb'.cell (p := ⟨p, 0, none⟩) hlp).trans c0; (try go_simp); (try with_reducible rfl)
          try simp only [Act.put, List.setIfInBounds_toArray, List.set_cons_zero, List.set_cons_succ]
          refine g_take (i := 15) (d := (some 29)) (v := ?_) rfl rfl (by kernel_rfl) (fun _ _ _ h => h) (by rfl) (fun w' hb' => ?_) ?_
          rotate_left
          · (try go_simp); (try with_reducible rfl)
          try simp only [Act.put, List.setIfInBounds_toArray, List.set_cons_zero, List.set_cons_succ]
          refine g_take (i := 16) (d := (some 30)) (v := ?_) rfl rfl (by kernel_rfl) (fun _ _ _ h => h) (by rfl) (fun w' hb' => ?_) ?_
          rotate_left
          · (try go_simp); (try with_reducible rfl)
          try simp only [Act.put, List.setIfInBounds_toArray, List.set_cons_zero, List.set_cons_succ]
          refine g_take (i := 17) (d := (some 31)) (v := ?_) rfl rfl (by kernel_rfl) (fun _ _ _ h => h) (by rfl) (fun w' hb' => ?_) ?_
          rotate_left
          · (try go_simp); (try with_reducible rfl)
          try simp only [Act.put, List.setIfInBounds_toArray, List.set_cons_zero, List.set_cons_succ]
          refine g_take (i := 18) (d := (some 32)) (v := ?_) rfl rfl (by kernel_rfl) (fun _ _ _ h => h) (by rfl) (fun w' hb' => ?_) ?_
          rotate_left
          · have z := (hb'.cell (p := ⟨p, 1, none⟩) hlp).trans c1; (try go_simp); (try with_reducible rfl)
          try simp only [Act.put, List.setIfInBounds_toArray, List.set_cons_zero, List.set_cons_succ]
          refine g_take (i := 19) (d := (some 33)) (v := ?_) rfl rfl (by kernel_rfl) (fun _ _ _ h => h) (by rfl) (fun w' hb' => ?_) ?_
          rotate_left
          · refine str_index_op 9 (.tmp 28) (.tmp 32) ?_ s j ?_ ?_ hlt (.int .u8 (c.toNat : Int)) HC.out ?_ <;> rfl; (try go_simp); (try with_reducible rfl)
          try simp only [Act.put, List.setIfInBounds_toArray, List.set_cons_zero, List.set_cons_succ]
          refine g_take (i := 20) (d := (some 34)) (v := ?_) rfl rfl (by kernel_rfl) (fun _ _ _ h => h) (by rfl) (fun w' hb' => ?_) ?_
          rotate_left
          · (try go_simp); (try with_reducible rfl)
          try simp only [Act.put, List.setIfInBounds_toArray, List.set_cons_zero, List.set_cons_succ]
          refine g_take (i := 21) (d := (some 35)) (v := ?_) rfl rfl (by kernel_rfl) (fun _ _ _ h => h) (by rfl) (fun w' hb' => ?_) ?_
          rotate_left
          · (try go_simp); (try with_reducible rfl)
          try simp only [Act.put, List.setIfInBounds_toArray, List.set_cons_zero, List.set_cons_succ]
          refine g_done (by kernel_rfl) ?_
          obtain ⟨W3, hW3⟩ : ∃ W, W = wr.drew := ⟨_, rfl⟩
          replace q0 : Lx W3 p s j := by rw [hW3]; exact q0
          replace HG : Hid (w.grownBy W3 (some p)) := Lib.hid (by rw [hW3]; exact grown_drewB HG.out)
          replace HB : Hid (Bld (w.heap.size + 1) (w.heap.size + 1) bs W3) := Lib.hid (by rw [hW3]; exact bld_drew HB.out)
          replace m0 : W3.heap[w.heap.size]? = some (.cells #[.int .i64 0, .int .i64 0, .string ⟨#[]⟩, .int .i64 0] 33 (0, 0)) := by rw [hW3]; exact m0
          rw [← hW3]
          clear c0 c1 cf hW3
          obtain ⟨c0, c1, cf⟩ := block_cells2 q0
          obtain ⟨d0, d1, d2, d3, df⟩ := block_cells4 m0
          replace hlp := lt_of_block q0
          go_wp2_with (first | ((with_reducible refine (CHJ.out _ q0).mono ?_); rintro e w5 ⟨rfl, l5, g5⟩; (replace m0 := (g5.block _ (lt_of_block m0) (by simp; omega)).trans m0); (replace HG : Hid (w.grownBy w5 (some p)) := Lib.hid (grown_transB HG.out g5)); (obtain ⟨d0, d1, d2, d3, df⟩ := block_cells4 m0)))
          refine bodyPost_ret (results_cell_row_tmp rfl _ _ _ 33 #[.int .i64 0, .int .i64 0, .string ⟨#[]⟩, .int .i64 0] (0, 0) _ rfl (set4_new m0) Tryd.underlying33 rfl tok_cells) rfl ?_
          rw [HZ.out, HRR.out]
          exact ⟨rfl, set4_fin HG.out (Nat.le_refl _)⟩
    · have h1 : ¬ ((j : Int) < (s.length : Int)) := by omega
      have h2 : decide ((j : Int) < (s.length : Int)) = false := decide_eq_false h1
      have HT2 := Lib.hid (show txS r = .inl 2 by rw [HT.out, List.drop_of_length_le (by omega), tx_end]; rfl)
      obtain rfl : j = s.length := by omega
      go_wp2
      refine g_start (by kernel_rfl) ?_
      refine g_take (i := 0) (d := (some 14)) (v := ?_) rfl rfl (by kernel_rfl) (fun _ _ _ h => h) (by rfl) (fun w' hb' => ?_) ?_
      rotate_left
      · (try go_simp); (try with_reducible rfl)
      try simp only [Act.put, List.setIfInBounds_toArray, List.set_cons_zero, List.set_cons_succ]
      refine g_take (i := 1) (d := (some 15)) (v := ?_) rfl rfl (by kernel_rfl) (fun _ _ _ h => h) (by rfl) (fun w' hb' => ?_) ?_
      rotate_left
      · (try go_simp); (try with_reducible rfl)
      try simp only [Act.put, List.setIfInBounds_toArray, List.set_cons_zero, List.set_cons_succ]
      refine g_take (i := 2) (d := (some 16)) (v := ?_) rfl rfl (by kernel_rfl) (fun _ _ _ h => h) (by rfl) (fun w' hb' => ?_) ?_
      rotate_left
      · (try go_simp); (try with_reducible rfl)
      try simp only [Act.put, List.setIfInBounds_toArray, List.set_cons_zero, List.set_cons_succ]
      refine g_take (i := 3) (d := (some 17)) (v := ?_) rfl rfl (by kernel_rfl) (fun _ _ _ h => h) (by rfl) (fun w' hb' => ?_) ?_
      rotate_left
      · have z := (hb'.cell (p := ⟨p, 1, none⟩) hlp).trans c1; (try go_simp); (try with_reducible rfl)
      try simp only [Act.put, List.setIfInBounds_toArray, List.set_cons_zero, List.set_cons_succ]
      refine g_take (i := 4) (d := (some 18)) (v := ?_) rfl rfl (by kernel_rfl) (fun _ _ _ h => h) (by rfl) (fun w' hb' => ?_) ?_
      rotate_left
      · (try go_simp); (try with_reducible rfl)
      try simp only [Act.put, List.setIfInBounds_toArray, List.set_cons_zero, List.set_cons_succ]
      refine g_take (i := 5) (d := (some 19)) (v := ?_) rfl rfl (by kernel_rfl) (fun _ _ _ h => h) (by rfl) (fun w' hb' => ?_) ?_
      rotate_left
      · (try go_simp); (try with_reducible rfl)
      try simp only [Act.put, List.setIfInBounds_toArray, List.set_cons_zero, List.set_cons_succ]
      refine g_take (i := 6) (d := (some 20)) (v := ?_) rfl rfl (by kernel_rfl) (fun _ _ _ h => h) (by rfl) (fun w' hb' => ?_) ?_
      rotate_left
      · (try go_simp); (try with_reducible rfl)
      try simp only [Act.put, List.setIfInBounds_toArray, List.set_cons_zero, List.set_cons_succ]
      refine g_take (i := 7) (d := (some 21)) (v := ?_) rfl rfl (by kernel_rfl) (fun _ _ _ h => h) (by rfl) (fun w' hb' => ?_) ?_
      rotate_left
      · have z := (hb'.cell (p := ⟨p, 0, none⟩) hlp).trans c0; (try go_simp); (try with_reducible rfl)
      try simp only [Act.put, List.setIfInBounds_toArray, List.set_cons_zero, List.set_cons_succ]
      refine g_take (i := 8) (d := (some 22)) (v := ?_) rfl rfl (by kernel_rfl) (fun _ _ _ h => h) (by rfl) (fun w' hb' => ?_) ?_
      rotate_left
      · (try go_simp); (try with_reducible rfl)
      try simp only [Act.put, List.setIfInBounds_toArray, List.set_cons_zero, List.set_cons_succ]
      refine g_take (i := 9) (d := (some 23)) (v := ?_) rfl rfl (by kernel_rfl) (fun _ _ _ h => h) (by rfl) (fun w' hb' => ?_) ?_
      rotate_left
      · (try go_simp); (try with_reducible rfl)
      try simp only [Act.put, List.setIfInBounds_toArray, List.set_cons_zero, List.set_cons_succ]
      refine g_take (i := 10) (d := (some 24)) (v := ?_) rfl rfl (by kernel_rfl) (fun _ _ _ h => h) (by rfl) (fun w' hb' => ?_) ?_
      rotate_left
      · (try go_simp); (try with_reducible rfl)
      try simp only [Act.put, List.setIfInBounds_toArray, List.set_cons_zero, List.set_cons_succ]
      refine g_skip (i := 11) (d := (some 25)) rfl rfl (by kernel_rfl) (fun _ _ _ h => h) (by rfl) ?_
      try simp only [Act.put, List.setIfInBounds_toArray, List.set_cons_zero, List.set_cons_succ]
      refine g_skip (i := 12) (d := (some 26)) rfl rfl (by kernel_rfl) (fun _ _ _ h => h) (by rfl) ?_
      try simp only [Act.put, List.setIfInBounds_toArray, List.set_cons_zero, List.set_cons_succ]
      refine g_skip (i := 13) (d := (some 27)) rfl rfl (by kernel_rfl) (fun _ _ _ h => h) (by rfl) ?_
      try simp only [Act.put, List.setIfInBounds_toArray, List.set_cons_zero, List.set_cons_succ]
      refine g_skip (i := 14) (d := (some 28)) rfl rfl (by kernel_rfl) (fun _ _ _ h => h) (by rfl) ?_
      try simp only [Act.put, List.setIfInBounds_toArray, List.set_cons_zero, List.set_cons_succ]
      refine g_skip (i := 15) (d := (some 29)) rfl rfl (by kernel_rfl) (fun _ _ _ h => h) (by rfl) ?_
      try simp only [Act.put, List.setIfInBounds_toArray, List.set_cons_zero, List.set_cons_succ]
      refine g_skip (i := 16) (d := (some 30)) rfl rfl (by kernel_rfl) (fun _ _ _ h => h) (by rfl) ?_
      try simp only [Act.put, List.setIfInBounds_toArray, List.set_cons_zero, List.set_cons_succ]
      refine g_skip (i := 17) (d := (some 31)) rfl rfl (by kernel_rfl) (fun _ _ _ h => h) (by rfl) ?_
      try simp only [Act.put, List.setIfInBounds_toArray, List.set_cons_zero, List.set_cons_succ]
      refine g_skip (i := 18) (d := (some 32)) rfl rfl (by kernel_rfl) (fun _ _ _ h => h) (by rfl) ?_
      try simp only [Act.put, List.setIfInBounds_toArray, List.set_cons_zero, List.set_cons_succ]
      refine g_skip (i := 19) (d := (some 33)) rfl rfl (by kernel_rfl) (fun _ _ _ h => h) (by rfl) ?_
      try simp only [Act.put, List.setIfInBounds_toArray, List.set_cons_zero, List.set_cons_succ]
      refine g_skip (i := 20) (d := (some 34)) rfl rfl (by kernel_rfl) (fun _ _ _ h => h) (by rfl) ?_
      try simp only [Act.put, List.setIfInBounds_toArray, List.set_cons_zero, List.set_cons_succ]
      refine g_take (i := 21) (d := (some 35)) (v := ?_) rfl rfl (by kernel_rfl) (fun _ _ _ h => h) (by rfl) (fun w' hb' => ?_) ?_
      rotate_left
      · (try go_simp); (try with_reducible rfl)
      try simp only [Act.put, List.setIfInBounds_toArray, List.set_cons_zero, List.set_cons_succ]
      refine g_done (by kernel_rfl) ?_
      obtain ⟨W3, hW3⟩ : ∃ W, W = wr.drew := ⟨_, rfl⟩
      replace q0 : Lx W3 p s s.length := by rw [hW3]; exact q0
      replace HG : Hid (w.grownBy W3 (some p)) := Lib.hid (by rw [hW3]; exact grown_drewB HG.out)
      replace HB : Hid (Bld (w.heap.size + 1) (w.heap.size + 1) bs W3) := Lib.hid (by rw [hW3]; exact bld_drew HB.out)
      replace m0 : W3.heap[w.heap.size]? = some (.cells #[.int .i64 0, .int .i64 0, .string ⟨#[]⟩, .int .i64 0] 33 (0, 0)) := by rw [hW3]; exact m0
      rw [← hW3]
      clear c0 c1 cf hW3
      obtain ⟨c0, c1, cf⟩ := block_cells2 q0
      obtain ⟨d0, d1, d2, d3, df⟩ := block_cells4 m0
      replace hlp := lt_of_block q0
      go_wp2_with fail
      refine g_start (by kernel_rfl) ?_
      refine g_take (i := 0) (d := (some 48)) (v := ?_) rfl rfl (by kernel_rfl) (fun _ _ _ h => h) (by rfl) (fun w' hb' => ?_) ?_
      rotate_left
      · (try go_simp); (try with_reducible rfl)
      try simp only [Act.put, List.setIfInBounds_toArray, List.set_cons_zero, List.set_cons_succ]
      refine g_take (i := 1) (d := (some 49)) (v := ?_) rfl rfl (by kernel_rfl) (fun _ _ _ h => h) (by rfl) (fun w' hb' => ?_) ?_
      rotate_left
      · (try go_simp); (try with_reducible rfl)
      try simp only [Act.put, List.setIfInBounds_toArray, List.set_cons_zero, List.set_cons_succ]
      refine g_take (i := 2) (d := (some 50)) (v := ?_) rfl rfl (by kernel_rfl) (fun _ _ _ h => h) (by rfl) (fun w' hb' => ?_) ?_
      rotate_left
      · (try go_simp); (try with_reducible rfl)
      try simp only [Act.put, List.setIfInBounds_toArray, List.set_cons_zero, List.set_cons_succ]
      refine g_take (i := 3) (d := (some 51)) (v := ?_) rfl rfl (by kernel_rfl) (fun _ _ _ h => h) (by rfl) (fun w' hb' => ?_) ?_
      rotate_left
      · have z := (hb'.cell (p := ⟨p, 1, none⟩) hlp).trans c1; (try go_simp); (try with_reducible rfl)
      try simp only [Act.put, List.setIfInBounds_toArray, List.set_cons_zero, List.set_cons_succ]
      refine g_take (i := 4) (d := (some 52)) (v := ?_) rfl rfl (by kernel_rfl) (fun _ _ _ h => h) (by rfl) (fun w' hb' => ?_) ?_
      rotate_left
      · (try go_simp); (try with_reducible rfl)
      try simp only [Act.put, List.setIfInBounds_toArray, List.set_cons_zero, List.set_cons_succ]
      refine g_take (i := 5) (d := (some 53)) (v := ?_) rfl rfl (by kernel_rfl) (fun _ _ _ h => h) (by rfl) (fun w' hb' => ?_) ?_
      rotate_left
      · (try go_simp); (try with_reducible rfl)
      try simp only [Act.put, List.setIfInBounds_toArray, List.set_cons_zero, List.set_cons_succ]
      refine g_take (i := 6) (d := (some 54)) (v := ?_) rfl rfl (by kernel_rfl) (fun _ _ _ h => h) (by rfl) (fun w' hb' => ?_) ?_
      rotate_left
      · (try go_simp); (try with_reducible rfl)
      try simp only [Act.put, List.setIfInBounds_toArray, List.set_cons_zero, List.set_cons_succ]
      refine g_take (i := 7) (d := (some 55)) (v := ?_) rfl rfl (by kernel_rfl) (fun _ _ _ h => h) (by rfl) (fun w' hb' => ?_) ?_
      rotate_left
      · have z := (hb'.cell (p := ⟨p, 0, none⟩) hlp).trans c0; (try go_simp); (try with_reducible rfl)
      try simp only [Act.put, List.setIfInBounds_toArray, List.set_cons_zero, List.set_cons_succ]
      refine g_take (i := 8) (d := (some 56)) (v := ?_) rfl rfl (by kernel_rfl) (fun _ _ _ h => h) (by rfl) (fun w' hb' => ?_) ?_
      rotate_left
      · (try go_simp); (try with_reducible rfl)
      try simp only [Act.put, List.setIfInBounds_toArray, List.set_cons_zero, List.set_cons_succ]
      refine g_take (i := 9) (d := (some 57)) (v := ?_) rfl rfl (by kernel_rfl) (fun _ _ _ h => h) (by rfl) (fun w' hb' => ?_) ?_
      rotate_left
      · (try go_simp); (try with_reducible rfl)
      try simp only [Act.put, List.setIfInBounds_toArray, List.set_cons_zero, List.set_cons_succ]
      refine g_take (i := 10) (d := (some 47)) (v := ?_) rfl rfl (by kernel_rfl) (fun _ _ _ h => h) (by rfl) (fun w' hb' => ?_) ?_
      rotate_left
      · (try go_simp); (try with_reducible rfl)
      try simp only [Act.put, List.setIfInBounds_toArray, List.set_cons_zero, List.set_cons_succ]
      refine g_done (by kernel_rfl) ?_
      obtain ⟨W4, hW4⟩ : ∃ W, W = W3.drew := ⟨_, rfl⟩
      replace q0 : Lx W4 p s s.length := by rw [hW4]; exact q0
      replace HG : Hid (w.grownBy W4 (some p)) := Lib.hid (by rw [hW4]; exact grown_drewB HG.out)
      replace HB : Hid (Bld (w.heap.size + 1) (w.heap.size + 1) bs W4) := Lib.hid (by rw [hW4]; exact bld_drew HB.out)
      replace m0 : W4.heap[w.heap.size]? = some (.cells #[.int .i64 0, .int .i64 0, .string ⟨#[]⟩, .int .i64 0] 33 (0, 0)) := by rw [hW4]; exact m0
      rw [← hW4]
      clear c0 c1 cf hW4
      obtain ⟨c0, c1, cf⟩ := block_cells2 q0
      obtain ⟨d0, d1, d2, d3, df⟩ := block_cells4 m0
      replace hlp := lt_of_block q0
      go_wp2_with fail
      have HRR := Lib.hid (show R = .inl 2 by rw [HR.out]; unfold textR; rw [HT2.out])
      refine bodyPost_ret (results_cell_row_tmp rfl _ _ _ 33 #[.int .i64 0, .int .i64 0, .string ⟨#[]⟩, .int .i64 0] (0, 0) _ rfl (set4_new m0) Tryd.underlying33 rfl tok_cells) rfl ?_
      rw [HZ.out, HRR.out]
      exact ⟨rfl, set4_fin HG.out (Nat.le_refl _)⟩
end Go.Proofs.YtkmhjodnddfkeaaDoor
