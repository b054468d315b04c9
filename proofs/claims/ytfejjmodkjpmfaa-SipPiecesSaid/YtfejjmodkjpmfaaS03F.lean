/- The tag at once; the chapter's examples. -/
import Derived.Test.YtfejjmodkjpmfaaS03E
namespace Go.Proofs.Ytfejjmodkjpmfaa
open Go.RowKit
set_option linter.unusedVariables false
set_option linter.unusedSimpArgs false
theorem Rd.far {w w1 : World} {v : Value} {l : List UInt8} {B : Nat} (h : Rd w v l) (hb : Below w.heap.size w w1) (hB : w.heap.size ≤ B) : RdN w1 v l B := by
  obtain ⟨ao, cap, h1, h2, h3, h4, h5⟩ := h
  refine ⟨ao, cap, h1, h2, h3, h4, fun hl => ?_⟩
  obtain ⟨b, off, h6, h7, h8⟩ := h5 hl
  exact ⟨b, off, h6, by omega, Nat.lt_of_lt_of_le h7 hb.size, fun i hi => (hb.cell (p := ⟨b, off + i, none⟩) h7).trans (h8 i hi)⟩
theorem below_grownB {w w1 w2 : World} {B : Nat} (hb : Below w.heap.size w w1) (hB : w.heap.size ≤ B) (hg : w1.grownBy w2 (some B)) : Below w.heap.size w w2 :=
  ⟨hg.os.trans hb.os, hg.tape.trans hb.tape, hg.output.trans hb.output, Nat.le_trans hb.size hg.size, fun k hk => (hg.block k (Nat.lt_of_lt_of_le hk hb.size) (by simp; omega)).trans (hb.block k hk)⟩
theorem rd_lit (w : World) (cs : List UInt8) (e : TypeId) (n : Nat) (hn : n = cs.length) (hm : n ≤ maxLen) : Rd (w.alloc (.cells (cs.map bv).toArray e)) (.slice (some ⟨w.heap.size, 0, none⟩) n n) cs := by
  subst hn
  refine own_rd (base := 0) (e := e) ?_
  have := World.ownsRow_lit (base := 0) (size := 1) (e := e) (w := w) (cs.map bv).toArray cs.length (Nat.zero_le _) hm (by simp)
  simpa using this
set_option maxRecDepth 100000 in
set_option maxHeartbeats 1000000 in
theorem sip_any (k0 k1 : Nat) (h0 : k0 < 18446744073709551616) (h1 : k1 < 18446744073709551616) (v : Value) (l : List UInt8) (hl : l.length ≤ 1000000) (w : World) (h : Rd w v l) :
    Calls Try.prog 9 #[.agg #[.int .u64 (k0 : Int), .int .u64 (k1 : Int)], v] w fun e w' => e = .returned (.int .u64 (sipN k0 k1 l : Int)) ∧ Below w.heap.size w w' := by
  have Tn := new_any k0 k1 h0 h1
  have hok := init_ok k0 k1 h0 h1
  obtain ⟨s, es⟩ : ∃ s, s = initN k0 k1 := ⟨_, rfl⟩
  have htag : sipN k0 k1 l = tagN (feed (s, [0, 0, 0, 0, 0, 0, 0, 0]) 0 l) l.length := by rw [es]; rfl
  rw [htag]
  rw [← es] at Tn hok
  clear htag es h0 h1
  go_enter Try.func9, Try.ntmps9
  go_wp2_with fail
  refine (Tn _).mono ?_
  rintro e w1 ⟨B, rfl, hB, hz, g⟩
  simp only [World.size_alloc] at hB
  have Bel : Below w.heap.size w w1 := chain (by go_grown) g
  clear g
  have hd := h.far Bel (by omega : w.heap.size ≤ B)
  go_wp2_with fail
  refine (add_any B s hok 0 0 0 0 0 0 0 0 0 v l (by omega) w1 hz hd).mono ?_
  rintro e w2 ⟨rfl, s2, r0, r1, r2, r3, r4, r5, r6, r7, hf, hok2, hz2, hg⟩
  have Bel2 := below_grownB Bel (by omega) hg
  have HF := Lib.hid hf
  rw [Nat.zero_add] at hz2
  clear hf hd hz hg Bel
  go_wp2_with fail
  refine (tag_any B s2 hok2 r0 r1 r2 r3 r4 r5 r6 r7 l.length hl w2 hz2).mono ?_
  rintro e w3 ⟨rfl, g⟩
  have Bel3 : Below w.heap.size w w3 := chain Bel2 g
  clear g hz2
  go_wp2_with fail
  go_ret
  exact ⟨by rw [HF.out]; rfl, Bel3⟩
set_option maxRecDepth 100000 in
set_option maxHeartbeats 1000000 in
theorem check_any (k0 k1 : Nat) (h0 : k0 < 18446744073709551616) (h1 : k1 < 18446744073709551616) (v : Value) (l : List UInt8) (hl : l.length ≤ 1000000) (T : Int) (w : World) (h : Rd w v l) :
    Calls Try.prog 10 #[.agg #[.int .u64 (k0 : Int), .int .u64 (k1 : Int)], v, .int .u64 T] w fun e w' => e = .returned (.bool ((sipN k0 k1 l : Int) == T)) ∧ Below w.heap.size w w' := by
  have S := fun w1 hd => sip_any k0 k1 h0 h1 v l hl w1 hd
  generalize sipN k0 k1 l = t at S ⊢
  clear h0 h1
  go_enter Try.func10, Try.ntmps10
  go_wp2_with fail
  have Bel : Below w.heap.size w (w.alloc (.cells #[.int .u64 (k0 : Int), .int .u64 (k1 : Int)] 24)) := by go_grown
  have hd := h.below Bel (Nat.le_refl _)
  refine (S _ hd).mono ?_
  rintro e w1 ⟨rfl, g⟩
  have Bel := chain Bel g
  clear g S hd
  go_wp2_with fail
  go_ret
  exact ⟨rfl, Bel⟩
def bytes15 : List UInt8 := [0, 1, 2, 3, 4, 5, 6, 7, 8, 9, 10, 11, 12, 13, 14]
set_option maxRecDepth 100000 in
set_option maxHeartbeats 1000000 in
theorem awake_any (w : World) : Calls Try.prog 11 #[] w fun e w' => e = .returned (.bool true) ∧ Below w.heap.size w w' := by
  have S1 := fun w1 => sip_any known0 known1 (by decide) (by decide) (.slice none 0 0) [] (by decide) w1 (rd_nil w1)
  have S2 := fun v w1 hd => sip_any known0 known1 (by decide) (by decide) v bytes15 (by decide) w1 hd
  have S3 := fun v w1 hd => check_any known0 known1 (by decide) (by decide) v bytes15 (by decide) 11613035633349379557 w1 hd
  rw [show sipN known0 known1 bytes15 = 11613035633349379557 from awake2] at S2 S3
  rw [awake1] at S1
  simp only [known0, known1, Int.cast_ofNat_Int, beq_self_eq_true] at S1 S2 S3
  have K := known_any
  go_enter Try.func11, Try.ntmps11
  go_wp2_with fail
  have r0 : Rd (w.alloc (.cells #[.int .u8 0, .int .u8 1, .int .u8 2, .int .u8 3, .int .u8 4, .int .u8 5, .int .u8 6, .int .u8 7, .int .u8 8, .int .u8 9, .int .u8 10, .int .u8 11, .int .u8 12, .int .u8 13, .int .u8 14] 5)) (.slice (some ⟨w.heap.size, 0, none⟩) 15 15) bytes15 := rd_lit w bytes15 5 15 rfl (by decide)
  have B0 : Below w.heap.size w (w.alloc (.cells #[.int .u8 0, .int .u8 1, .int .u8 2, .int .u8 3, .int .u8 4, .int .u8 5, .int .u8 6, .int .u8 7, .int .u8 8, .int .u8 9, .int .u8 10, .int .u8 11, .int .u8 12, .int .u8 13, .int .u8 14] 5)) := (Below.refl _ _).alloc (Nat.le_refl _) _
  generalize w.alloc (.cells #[.int .u8 0, .int .u8 1, .int .u8 2, .int .u8 3, .int .u8 4, .int .u8 5, .int .u8 6, .int .u8 7, .int .u8 8, .int .u8 9, .int .u8 10, .int .u8 11, .int .u8 12, .int .u8 13, .int .u8 14] 5) = w0 at r0 B0 ⊢
  refine (K _).mono ?_
  rintro e w1 ⟨rfl, g⟩
  have r1 := r0.below g (Nat.le_refl _)
  have B1 := chain B0 g
  clear g r0 B0
  go_wp2_with fail
  refine (S1 _).mono ?_
  rintro e w2 ⟨rfl, g⟩
  have r2 := r1.below g (Nat.le_refl _)
  have B2 := chain B1 g
  clear g r1 B1
  go_wp2_with fail
  refine (K _).mono ?_
  rintro e w3 ⟨rfl, g⟩
  have r3 := r2.below g (Nat.le_refl _)
  have B3 := chain B2 g
  clear g r2 B2
  go_wp2_with fail
  refine (S2 _ _ r3).mono ?_
  rintro e w4 ⟨rfl, g⟩
  have r4 := r3.below g (Nat.le_refl _)
  have B4 := chain B3 g
  clear g r3 B3
  go_wp2_with fail
  refine (K _).mono ?_
  rintro e w5 ⟨rfl, g⟩
  have r5 := r4.below g (Nat.le_refl _)
  have B5 := chain B4 g
  clear g r4 B4
  go_wp2_with fail
  refine (S3 _ _ r5).mono ?_
  rintro e w6 ⟨rfl, g⟩
  have r6 := r5.below g (Nat.le_refl _)
  have B6 := chain B5 g
  clear g r5 B5
  go_wp2_with fail
  go_ret
  exact ⟨rfl, B6⟩
end Go.Proofs.Ytfejjmodkjpmfaa
