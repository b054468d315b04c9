/- The chapter's examples: what the statements of layer 1 ask of them holds. -/
import Derived.Test.YtlafmalgioffkaaL01A
namespace Go.Proofs.Ytlafmalgioffkaa
open Go.RowKit
set_option linter.unusedVariables false
set_option linter.unusedSimpArgs false
theorem rd_lit (w : World) (cs : List UInt8) (e : TypeId) (n : Nat) (hn : n = cs.length) (hm : n ≤ maxLen) : Rd (w.alloc (.cells (cs.map bv).toArray e)) (.slice (some ⟨w.heap.size, 0, none⟩) n n) cs := by
  subst hn
  refine own_rd (base := 0) (e := e) ?_
  have := World.ownsRow_lit (base := 0) (size := 1) (e := e) (w := w) (cs.map bv).toArray cs.length (Nat.zero_le _) hm (by simp)
  simpa using this
theorem conv_own {w : World} {base : Nat} {e' : TypeId} {g n cap : Nat} {l : List UInt8} (h : w.ownsRow base e' 1 (.slice (some ⟨g, 0, none⟩) n cap) n (l.map bv)) :
    (convert 24 9 (.slice (some ⟨g, 0, none⟩) n cap)).run Try.prog w = .ok (.string (str l)) w :=
  conv_rd (own_rd h) 24 5 9 Try.underlying24 Try.underlying5 Try.underlying9
set_option maxRecDepth 100000 in
set_option maxHeartbeats 1000000 in
theorem awake_any (w : World) : Calls Try.prog 11 #[] w fun e w' => e = .returned (.bool true) ∧ Below w.heap.size w w' := by
  go_enter Try.func11, Try.ntmps11
  go_wp2_with fail
  have r1 : Rd (w.alloc (.cells #[.int .u8 128, .int .u8 0] 5)) (.slice (some ⟨w.heap.size, 0, none⟩) 2 2) [128, 0] := rd_lit w [128, 0] 5 2 rfl (by decide)
  have B1 : Below w.heap.size w (w.alloc (.cells #[.int .u8 128, .int .u8 0] 5)) := (Below.refl _ _).alloc (Nat.le_refl _) _
  refine (cut_at _ [128, 0] 0 0 3 rfl _ r1).mono ?_
  clear r1
  rintro e w1 ⟨rfl, rfl⟩
  generalize w.alloc (.cells #[.int .u8 128, .int .u8 0] 5) = W1 at B1 ⊢
  go_wp2_with fail
  have r1 : Rd (W1.alloc (.cells #[.int .u8 128] 5)) (.slice (some ⟨W1.heap.size, 0, none⟩) 1 1) [128] := rd_lit W1 [128] 5 1 rfl (by decide)
  have B2 : Below w.heap.size w (W1.alloc (.cells #[.int .u8 128] 5)) := B1.alloc B1.size _
  refine (cut_at _ [128] 0 0 2 rfl _ r1).mono ?_
  clear r1 B1
  rintro e w1 ⟨rfl, rfl⟩
  generalize W1.alloc (.cells #[.int .u8 128] 5) = W2 at B2 ⊢
  go_wp2_with fail
  refine (put_at 300 300 rfl ⟨by decide, by decide⟩ _).mono ?_
  rintro e W3 ⟨g1, n1, c1, rfl, _, _, o1, b1⟩
  have k1 := conv_own o1
  rw [show str (putL 300) = ⟨#[172, 2]⟩ from rfl] at k1
  have B3 : Below w.heap.size w W3 := B2.trans (b1.mono B2.size)
  clear o1 b1 B2
  go_wp2_with fail
  refine (put_at 0 0 rfl ⟨by decide, by decide⟩ _).mono ?_
  rintro e W4 ⟨g3, n3, c3, rfl, _, _, o1, b1⟩
  have k1 := conv_own o1
  rw [show str (putL 0) = ⟨#[0]⟩ from rfl] at k1
  have B4 : Below w.heap.size w W4 := B3.trans (b1.mono B3.size)
  clear o1 b1 B3
  go_wp2_with fail
  refine (putInt_any (-1) ⟨by decide, by decide⟩ _).mono ?_
  rintro e W5 ⟨g4, n4, c4, rfl, _, _, o1, b1⟩
  have k1 := conv_own o1
  rw [show str (putL (zigN (-1))) = ⟨#[1]⟩ from rfl] at k1
  have B5 : Below w.heap.size w W5 := B4.trans (b1.mono B4.size)
  clear o1 b1 B4
  go_wp2_with fail
  refine (putInt_any 1 ⟨by decide, by decide⟩ _).mono ?_
  rintro e W6 ⟨g5, n5, c5, rfl, _, _, o1, b1⟩
  have k1 := conv_own o1
  rw [show str (putL (zigN 1)) = ⟨#[2]⟩ from rfl] at k1
  have B6 : Below w.heap.size w W6 := B5.trans (b1.mono B5.size)
  clear o1 b1 B5
  go_wp2_with fail
  refine (putText_any [97, 98] _ (by decide)).mono ?_
  rintro e W7 ⟨v, rfl, r1, _, b1⟩
  have k1 := conv_rd (P := Try.prog) r1 24 5 9 Try.underlying24 Try.underlying5 Try.underlying9
  rw [show str (textL [97, 98]) = ⟨#[2, 97, 98]⟩ from rfl] at k1
  have B7 : Below w.heap.size w W7 := B6.trans (b1.mono B6.size)
  clear r1 b1 B6
  go_wp2
  go_ret
  exact ⟨rfl, B7⟩
set_option maxRecDepth 100000 in
theorem numbers_any (w : World) : Calls Try.prog 3 #[] w fun e w' => e = .returned (.bool true) ∧ Below w.heap.size w w' := by
  go_enter Try.func3, Try.ntmps3
  go_wp2_with (go_at_call 11; refine (awake_any _).mono ?_; rintro e w' ⟨rfl, hb⟩)
  go_ret
  exact ⟨rfl, hb⟩
end Go.Proofs.Ytlafmalgioffkaa
