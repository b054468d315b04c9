/- Lex: Quote. Written by wip/tools/gen16p.py. -/
import Derived.Test.YtkmhjodnddfkeaaDoorQLBC16
import Derived.Test.YtkmhjodnddfkeaaDoorQLBC15
import Derived.Lib.AppendStr
namespace Go.Proofs.YtkmhjodnddfkeaaDoor
open Go Go.RowKit
set_option linter.unusedVariables false
set_option linter.unusedSimpArgs false
set_option maxRecDepth 100000
set_option maxHeartbeats 1000000 in
theorem writeString_any (B b : Nat) (l t : List UInt8) (w : World) (h : Bld B b l w) (hB : B ≤ w.heap.size) (hl : l.length + t.length ≤ 100000) :
    Calls Tryd.prog 14 #[.pointer (some ⟨b, 0, none⟩), .string (str t)] w fun e w' => e = .returned (.tuple #[.int .i64 (t.length : Int), .nilIface]) ∧ Bld B b (l ++ t) w' ∧ Below B w w' := by
  obtain ⟨i0, hi, hz0, hz1, hz2⟩ := info_parts u8_info
  have CC := Lib.hid (check_any B b l w h)
  have hll : (Lib.byteCells l).length = l.length := Lib.byteCells_length l
  have hts : (str t).size = t.length := str_size t
  clear h
  go_enter Tryd.func14, Tryd.ntmps14
  go_wp2_with fail
  refine CC.out.mono ?_
  rintro e w1 ⟨rfl, ⟨hbB, v, hb, hown, hne⟩, g1⟩
  rw [hll] at hown
  obtain ⟨va, vc, rfl⟩ := own_val hown
  obtain ⟨c0, c1, cf⟩ := block_cells2 hb
  have hblt := lt_of_block hb
  have HB := Lib.hid hb
  have hBw1 : B ≤ w1.heap.size := Nat.le_trans hB g1.size
  go_wp2_with (at_builtin; refine Lib.wpList_append_own_string _ rfl (.tmp 12) (.tmp 13) 36 9 rfl B 5 i0 Tryd.underlying36 Tryd.underlying9 hi hz0 hz1 hz2 _ _ _ rfl hown (str t) rfl (by unfold maxLen; omega) (by omega) hBw1 ?_; intro v2 w2 own2 gr2 _; obtain ⟨va2, vc2, rfl⟩ := own_val own2; have hb2 := (gr2.block b hblt (fun e => hne e.symm)).trans HB.out; obtain ⟨d0, d1, df⟩ := block_cells2 hb2)
  have hne2 : (Value.slice va2 (l.length + t.length) vc2).ownBlock ≠ some b := by
    intro e
    rcases own2.2 with ⟨e2, _⟩ | ⟨g, cap', cur, e2, _, hgb, _⟩
    · injection e2 with e2; rw [e2] at e; cases e
    · injection e2 with e2 _ _
      rw [e2] at e
      have e9 : g = b := by simpa [Value.ownBlock] using e
      rw [e9, hb2] at hgb
      cases hgb
  have own3 : w2.ownsRow B 5 1 (.slice va2 (l.length + t.length) vc2) (Lib.byteCells (l ++ t)).length (Lib.byteCells (l ++ t)) := by
    have e : Lib.byteCells (l ++ t) = Lib.byteCells l ++ Lib.strCells (str t) := by
      show _ = Lib.byteCells l ++ Lib.byteCells t
      unfold Lib.byteCells
      rw [List.map_append]
    rw [Lib.byteCells_length, e, List.length_append, ← hts]
    exact own2
  go_ret2
  refine ⟨rfl, .inr ⟨hbB, .slice va2 (l.length + t.length) vc2, by simpa using set_at (i := 1) (u := .slice va2 (l.length + t.length) vc2) hb2, own3.kept (grown_setB grown_reflB) (.inr hne2), hne2⟩, ?_⟩
  exact (g1.grown gr2 hBw1 (fun k hk => (hown.lt k hk).1)).setCell (p := ⟨b, 1, none⟩) hbB _
def quoA (A : List UInt8) : Option (List UInt8) → Option (List UInt8)
  | none => none
  | some t => some (A ++ t)
theorem quoA_quoA (A B : List UInt8) (R : Option (List UInt8)) : quoA A (quoA B R) = quoA (A ++ B) R := by
  cases R with
  | none => rfl
  | some t => simp [quoA]
theorem quoA_nil (R : Option (List UInt8)) : quoA [] R = R := by cases R <;> rfl
theorem quo_bad {c : UInt8} {r : List UInt8} (h : c ≠ 10 ∧ (c.toNat < 32 ∨ 126 < c.toNat)) : quoF (c :: r) = none := if_pos h
theorem quo_step {c : UInt8} {r : List UInt8} (h : ¬ (c ≠ 10 ∧ (c.toNat < 32 ∨ 126 < c.toNat))) : quoF (c :: r) = quoA (quoC c) (quoF r) := by
  have : quoF (c :: r) = match quoF r with
    | none => none
    | some t => some (quoC c ++ t) := if_neg h
  rw [this]
  cases quoF r <;> rfl
theorem quo_len : ∀ c : UInt8, (quoC c).length ≤ 2 := by
  intro c; unfold quoC; split
  · decide
  · split
    · exact Nat.le_refl 2
    · exact Nat.le_succ 1
set_option maxHeartbeats 4000000 in
theorem quote_any (s : List UInt8) (w : World) : Calls Tryd.prog 8 #[.string (str s)] w fun e w' => e = .returned (.tuple #[.string (str (quoP s)), .int .i64 (quoE s : Int)]) ∧ Below w.heap.size w w' := by
  have hsz := str_size s
  by_cases hs : s.length ≤ 64
  case neg =>
    have h1 : (64 : Int) < (s.length : Int) := by omega
    go_enter Tryd.func8, Tryd.ntmps8
    go_wp2_with fail
    go_ret2
    have e1 : quoP s = [] := by unfold quoP; rw [if_pos (by omega)]
    have e2 : quoE s = 5 := by unfold quoE; rw [if_pos (by omega)]
    rw [e1, e2]
    exact ⟨rfl, Below.refl _ _⟩
  have h1 : ¬ (64 : Int) < (s.length : Int) := by omega
  have WB := Lib.hid (fun l c w' (h : Bld w.heap.size w.heap.size l w') (hB : w.heap.size ≤ w'.heap.size) hl => writeByte_any w.heap.size w.heap.size l c w' h hB hl)
  have WS := Lib.hid (fun l w' (h : Bld w.heap.size w.heap.size l w') (hB : w.heap.size ≤ w'.heap.size) hl => (show Calls Tryd.prog 14 #[.pointer (some ⟨w.heap.size, 0, none⟩), .string ⟨#[92, 110]⟩] w' fun e w'' => e = .returned (.tuple #[.int .i64 2, .nilIface]) ∧ Bld w.heap.size w.heap.size (l ++ [92, 110]) w'' ∧ Below w.heap.size w' w'' from writeString_any w.heap.size w.heap.size l [92, 110] w' h hB hl))
  have BS := Lib.hid (fun l w' (h : Bld w.heap.size w.heap.size l w') hB => Tryd.Builder_String_any w.heap.size w.heap.size l w' h hB)
  have WQ := Lib.hid (fun l w' (h : Bld w.heap.size w.heap.size l w') (hB : w.heap.size ≤ w'.heap.size) hl => (show Calls Tryd.prog 13 #[.pointer (some ⟨w.heap.size, 0, none⟩), .int .u8 34] w' fun e w'' => e = .returned .nilIface ∧ Bld w.heap.size w.heap.size (l ++ [34]) w'' ∧ Below w.heap.size w' w'' from writeByte_any w.heap.size w.heap.size l 34 w' h hB hl))
  have WR := Lib.hid (fun l w' (h : Bld w.heap.size w.heap.size l w') (hB : w.heap.size ≤ w'.heap.size) hl => (show Calls Tryd.prog 13 #[.pointer (some ⟨w.heap.size, 0, none⟩), .int .u8 92] w' fun e w'' => e = .returned .nilIface ∧ Bld w.heap.size w.heap.size (l ++ [92]) w'' ∧ Below w.heap.size w' w'' from writeByte_any w.heap.size w.heap.size l 92 w' h hB hl))
  have r2 := heap_alloc_new w (.cells #[.pointer none, .slice none 0 0] 38)
  have b0 : Bld w.heap.size w.heap.size [] (w.alloc (.cells #[.pointer none, .slice none 0 0] 38)) := .inl ⟨Nat.le_refl _, .slice none 0 0, r2, World.ownsRow_nil _ _ _ _, by simp [Value.ownBlock]⟩
  have g0 : Below w.heap.size w (w.alloc (.cells #[.pointer none, .slice none 0 0] 38)) := (Below.refl w.heap.size w).alloc (Nat.le_refl _) _
  obtain ⟨W0, hW0⟩ : ∃ W, W = w.alloc (.cells #[.pointer none, .slice none 0 0] 38) := ⟨_, rfl⟩
  have HW0 := Lib.hid hW0
  rw [← hW0] at b0 g0
  obtain ⟨p, hp⟩ : ∃ p, p = w.heap.size := ⟨_, rfl⟩
  have HP := Lib.hid hp
  rw [← hp] at WB WS BS WQ WR b0 g0
  rw [← hp]
  clear hW0 r2 hp
  go_enter Tryd.func8, Tryd.ntmps8
  go_upto_region 4 with (fail)
  rw [← HW0.out, ← HP.out]
  have hs0 : p ≤ W0.heap.size := by have := g0.size; rw [HP.out]; exact this
  go_upto_region 5 with ((with_reducible refine (WQ.out [] _ b0 hs0 (by decide)).mono ?_); rintro e w1 ⟨rfl, b1, g1⟩)
  have g2 := g0.trans g1
  have s1 : p ≤ w1.heap.size := Nat.le_trans hs0 g1.size
  clear b0 g0 g1 HW0 hs0
  go_wp2_with fail
  go_loopw [13] (fun i wr => ∃ (j : Nat) (A : List UInt8), j ≤ s.length ∧ i = .int .i64 (j : Int) ∧ A.length ≤ 2 * j ∧ Hid (quoF s = quoA A (quoF (s.drop j))) ∧ Hid (Bld p p (34 :: A) wr) ∧ Hid (Below p w wr) ∧ p ≤ wr.heap.size) (fun i _ => s.length - (intOf i).toNat)
  case atStart => exact ⟨0, [], Nat.zero_le _, rfl, Nat.zero_le _, Lib.hid (quoA_nil _).symm, Lib.hid b1, Lib.hid g2, s1⟩
  case round =>
    clear b1 g2 s1
    obtain ⟨j, A, hjs, rfl, hA, HQ, HB, HBE, hps⟩ := hrel
    by_cases hlt : j < s.length
    · have h2 : ((j : Int) < (s.length : Int)) := by omega
      have h3 : decide ((j : Int) < (s.length : Int)) = true := decide_eq_true h2
      have hd := List.drop_eq_getElem_cons hlt
      have HGet : s.getD j 0 = s[j] := by simp [List.getD, hlt]
      obtain ⟨c, hc⟩ : ∃ c, c = s[j] := ⟨_, rfl⟩
      rw [← hc] at hd HGet
      obtain ⟨m, hm⟩ : ∃ m, m = c.toNat := ⟨_, rfl⟩
      have hcc : ∀ h : j < (str s).size, ((str s)[j]'h).toNat = m := fun h => by rw [str_byte, HGet, hm]
      have HM := Lib.hid hm
      have HD := Lib.hid hd
      clear hc HGet hd
      by_cases h10 : m = 10
      · have i1 : ((m : Int) == 10) = true := by rw [h10]; rfl
        have hc10 : c = 10 := UInt8.toNat_inj.1 (hm.symm.trans h10)
        have HQ2 := Lib.hid (show quoF s = quoA (A ++ [92, 110]) (quoF (s.drop (j + 1))) by rw [HQ.out, HD.out, quo_step (fun e => e.1 hc10), quoA_quoA, hc10]; rfl)
        clear h10 hc10 hm
        go_wp2_with ((with_reducible refine (WS.out (34 :: A) _ HB.out hps (by simp; omega)).mono ?_); rintro e w3 ⟨rfl, b3, g3⟩)
        exact ⟨⟨j + 1, A ++ [92, 110], by omega, by push_cast; rfl, by simp; omega, HQ2, Lib.hid b3, Lib.hid (HBE.out.trans g3), Nat.le_trans hps g3.size⟩, by simp [intOf]; omega⟩
      · have i1 : ((m : Int) == 10) = false := by simp; omega
        have hc10 : c ≠ 10 := fun e => h10 (by rw [hm, e]; rfl)
        by_cases hq : m = 34 ∨ m = 92
        · have hcq : c = 34 ∨ c = 92 := hq.imp (fun h => UInt8.toNat_inj.1 (hm.symm.trans h)) (fun h => UInt8.toNat_inj.1 (hm.symm.trans h))
          have HQ2 := Lib.hid (show quoF s = quoA (A ++ [92, c]) (quoF (s.drop (j + 1))) by
            rw [HQ.out, HD.out, quo_step (fun e => by rcases hcq with h | h <;> (rw [h] at e; exact absurd e.2 (by decide))), quoA_quoA]
            unfold quoC
            rw [if_neg hc10, if_pos hcq])
          have WM := Lib.hid (fun l w' (h : Bld p p l w') (hB : p ≤ w'.heap.size) hl => (show Calls Tryd.prog 13 #[.pointer (some ⟨p, 0, none⟩), .int .u8 (m : Int)] w' fun e w'' => e = .returned .nilIface ∧ Bld p p (l ++ [c]) w'' ∧ Below p w' w'' by rw [HM.out]; exact WB.out l c w' h hB hl))
          clear hcq hc10 hm
          have HQ3 := Lib.hid hq
          by_cases q34 : m = 34
          · have i2 : ((m : Int) == 34) = true := by rw [q34]; rfl
            clear q34 hq h10
            go_wp2_with (first | ((with_reducible refine (WR.out (34 :: A) _ HB.out hps (by simp; omega)).mono ?_); rintro e w3 ⟨rfl, b3, g3⟩; (have s3 : p ≤ w3.heap.size := Nat.le_trans hps g3.size)) | ((with_reducible refine (WM.out (34 :: A ++ [92]) _ b3 s3 (by simp; omega)).mono ?_); rintro e w4 ⟨rfl, b4, g4⟩))
            exact ⟨⟨j + 1, A ++ [92, c], by omega, by push_cast; rfl, by simp; omega, HQ2, Lib.hid (by simpa using b4), Lib.hid ((HBE.out.trans g3).trans g4), Nat.le_trans s3 g4.size⟩, by simp [intOf]; omega⟩
          · have i2 : ((m : Int) == 34) = false := by simp; omega
            have i3 : ((m : Int) == 92) = true := by rw [hq.resolve_left q34]; rfl
            clear q34 hq h10
            go_wp2_with (first | ((with_reducible refine (WR.out (34 :: A) _ HB.out hps (by simp; omega)).mono ?_); rintro e w3 ⟨rfl, b3, g3⟩; (have s3 : p ≤ w3.heap.size := Nat.le_trans hps g3.size)) | ((with_reducible refine (WM.out (34 :: A ++ [92]) _ b3 s3 (by simp; omega)).mono ?_); rintro e w4 ⟨rfl, b4, g4⟩))
            exact ⟨⟨j + 1, A ++ [92, c], by omega, by push_cast; rfl, by simp; omega, HQ2, Lib.hid (by simpa using b4), Lib.hid ((HBE.out.trans g3).trans g4), Nat.le_trans s3 g4.size⟩, by simp [intOf]; omega⟩
        · have i2 : ((m : Int) == 34) = false := by simp; omega
          have i3 : ((m : Int) == 92) = false := by simp; omega
          by_cases hr : m < 32 ∨ 126 < m
          · have HQ2 := Lib.hid (show quoF s = none by rw [HQ.out, HD.out, quo_bad ⟨hc10, by rw [← hm]; exact hr⟩]; rfl)
            have HP1 := Lib.hid (show quoP s = [] by unfold quoP; rw [if_neg (by omega), HQ2.out])
            have HE1 := Lib.hid (show quoE s = 3 by unfold quoE; rw [if_neg (by omega), HQ2.out]; rfl)
            clear hc10 hm
            by_cases r32 : m < 32
            · have i4 : ((m : Int) < 32) := by omega
              clear hr hq h10 r32
              go_wp2_with fail
              (try go_ret2)
              rw [HP1.out, HE1.out]
              exact ⟨rfl, HBE.out⟩
            · have i4 : ¬ ((m : Int) < 32) := by omega
              have i5 : ((126 : Int) < m) := by omega
              clear hr hq h10 r32
              go_wp2_with fail
              (try go_ret2)
              rw [HP1.out, HE1.out]
              exact ⟨rfl, HBE.out⟩
          · have i4 : ¬ ((m : Int) < 32) := by omega
            have i5 : ¬ ((126 : Int) < m) := by omega
            have HQ2 := Lib.hid (show quoF s = quoA (A ++ [c]) (quoF (s.drop (j + 1))) by
              rw [HQ.out, HD.out, quo_step (fun e => hr (by rw [hm]; exact e.2)), quoA_quoA]
              unfold quoC
              rw [if_neg hc10, if_neg (fun e => hq (e.imp (fun h => by rw [hm, h]; rfl) (fun h => by rw [hm, h]; rfl)))])
            have WM := Lib.hid (fun l w' (h : Bld p p l w') (hB : p ≤ w'.heap.size) hl => (show Calls Tryd.prog 13 #[.pointer (some ⟨p, 0, none⟩), .int .u8 (m : Int)] w' fun e w'' => e = .returned .nilIface ∧ Bld p p (l ++ [c]) w'' ∧ Below p w' w'' by rw [HM.out]; exact WB.out l c w' h hB hl))
            clear hc10 hm hr hq h10
            go_wp2_with ((with_reducible refine (WM.out (34 :: A) _ HB.out hps (by simp; omega)).mono ?_); rintro e w3 ⟨rfl, b3, g3⟩)
            exact ⟨⟨j + 1, A ++ [c], by omega, by push_cast; rfl, by simp; omega, HQ2, Lib.hid b3, Lib.hid (HBE.out.trans g3), Nat.le_trans hps g3.size⟩, by simp [intOf]; omega⟩
    · have h2 : ¬ ((j : Int) < (s.length : Int)) := by omega
      obtain rfl : j = s.length := by omega
      have HQ2 := Lib.hid (show quoF s = some A by rw [HQ.out, List.drop_of_length_le (Nat.le_refl _)]; simp [quoF, quoA])
      have HP1 := Lib.hid (show quoP s = 34 :: A ++ [34] by unfold quoP; rw [if_neg (by omega), HQ2.out])
      have HE1 := Lib.hid (show quoE s = 0 by unfold quoE; rw [if_neg (by omega), HQ2.out]; rfl)
      go_wp2_with (first | ((with_reducible refine (WQ.out (34 :: A) _ HB.out hps (by simp; omega)).mono ?_); rintro e w3 ⟨rfl, b3, g3⟩; (have s3 : p ≤ w3.heap.size := Nat.le_trans hps g3.size)) | ((with_reducible refine (BS.out (34 :: A ++ [34]) _ b3 s3).mono ?_); rintro e w4 ⟨rfl, g4⟩))
      (try go_ret2)
      rw [HP1.out, HE1.out]
      exact ⟨rfl, (HBE.out.trans g3).trans g4⟩
end Go.Proofs.YtkmhjodnddfkeaaDoor
