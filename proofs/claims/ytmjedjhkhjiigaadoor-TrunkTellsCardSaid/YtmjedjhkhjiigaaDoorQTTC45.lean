/- Values: their bytes, by the document. -/
import Derived.Test.YtmjedjhkhjiigaaDoorQTTC34
import Derived.Test.YtmjedjhkhjiigaaDoorQTTC12
namespace Go.Proofs.YtmjedjhkhjiigaaDoor.V7
open Go Go.RowKit
set_option linter.unusedVariables false
set_option linter.unusedSimpArgs false
theorem ret_str {a b : ByteArray} (h : a = b) : Ending.returned (.string a) = Ending.returned (.string b) := by rw [h]
theorem one_str (c : UInt8) (l : List UInt8) : (ByteArray.mk #[c]) ++ str l = str (c :: l) := by
  rw [show ByteArray.mk #[c] = str [c] from rfl, str_append]; rfl
theorem rd_block {w : World} {g : Nat} {l : List UInt8} {t : TypeId} (h : w.heap[g]? = some (.cells (l.map bv).toArray t (0, 0))) (hm : l.length ≤ maxLen) : Rd w (.slice (some ⟨g, 0, none⟩) l.length l.length) l := by
  refine ⟨some ⟨g, 0, none⟩, l.length, rfl, Nat.le_refl _, hm, by simp, ?_⟩
  intro _
  refine ⟨g, 0, rfl, lt_of_block h, ?_⟩
  intro i hi
  rw [Nat.zero_add, block_cell h]
  simp [hi]
theorem conv_one (w : World) (i : Int) (c : UInt8) (n : Int) (hn : n = (c.toNat : Int)) : (convert 88 9 (.slice (some ⟨w.heap.size + 1, 0, none⟩) 1 1)).run Tryd.prog ((w.alloc (.cells #[.int .i64 1, .int .i64 i, .string (str [])] 30)).alloc (.cells #[.int .u8 n] 5)) = .ok (.string (str [c])) ((w.alloc (.cells #[.int .i64 1, .int .i64 i, .string (str [])] 30)).alloc (.cells #[.int .u8 n] 5)) := by
  subst hn
  have q := (two_allocs w (.cells #[.int .i64 1, .int .i64 i, .string (str [])] 30) (.cells #[.int .u8 (c.toNat : Int)] 5)).2.1
  exact conv_rd (P := Tryd.prog) (rd_block (l := [c]) q (by simp [maxLen])) 88 5 9 Tryd.underlying88 Tryd.underlying5 Tryd.underlying9
set_option maxRecDepth 100000 in
theorem refEncode_any (k i : Int) (s : List UInt8) (w : World) (hs : s.length ≤ maxLen) (hI : I64 i) (hm : mayB ⟨k, i, s⟩ = true) :
    Calls Tryd.prog 20 #[.agg #[.int .i64 k, .int .i64 i, .string (str s)]] w fun e w' => e = .returned (.string (str (encL ⟨k, i, s⟩))) ∧ Below w.heap.size w w' := by
  have hc := hm
  simp only [mayB, decide_eq_true_eq] at hc
  rcases hc with ⟨rfl, rfl, rfl⟩ | ⟨rfl, h2, rfl⟩ | ⟨rfl, rfl⟩ | ⟨rfl, rfl, h3⟩
  · have e : encL ⟨0, 0, []⟩ = [0] := by decide
    rw [e]
    clear e hm hs hI
    go_enter Tryd.func20, Tryd.ntmps20
    go_wp2_with fail
    go_ret
    exact ⟨ret_str rfl, (Below.refl _ _).alloc (Nat.le_refl _) _⟩
  · rcases h2 with rfl | rfl
    · have e : encL ⟨1, 0, []⟩ = [1, 0] := by decide
      rw [e]
      clear e hm hs hI
      have k1 := conv_one w 0 0 0 rfl
      go_enter Tryd.func20, Tryd.ntmps20
      go_wp2_with fail
      go_ret
      exact ⟨ret_str rfl, ((Below.refl _ _).alloc (Nat.le_refl _) _).alloc (by simp) _⟩
    · have e : encL ⟨1, 1, []⟩ = [1, 1] := by decide
      rw [e]
      clear e hm hs hI
      have k1 := conv_one w 1 1 1 rfl
      go_enter Tryd.func20, Tryd.ntmps20
      go_wp2_with fail
      go_ret
      exact ⟨ret_str rfl, ((Below.refl _ _).alloc (Nat.le_refl _) _).alloc (by simp) _⟩
  · have e : encL ⟨2, i, []⟩ = 2 :: putL (zigN i) := by unfold encL; rw [if_neg (by rw [hm]; simp)]; rfl
    rw [e]
    have ZI := fun w => zig_any i hI w
    have PU := fun w => refPut_any (zigN i : Int) (zigN i) rfl (zigN_u64 hI) w
    have hsz : (str (putL (zigN i))).size ≤ 10 := by rw [str_size]; exact (putL_len _).2
    generalize putL (zigN i) = l at PU hsz
    generalize zigN i = z at ZI PU
    clear e hm hs hI
    have bel : ∀ o, Below w.heap.size w (w.alloc o) := fun o => (Below.refl _ _).alloc (Nat.le_refl _) o
    go_enter Tryd.func20, Tryd.ntmps20
    go_wp2_with fail
    refine (ZI _).mono ?_
    rintro e w1 ⟨rfl, rfl⟩
    go_wp2_with fail
    refine (PU _).mono ?_
    rintro e w1 ⟨rfl, g⟩
    go_wp2_with fail
    go_ret
    exact ⟨ret_str (one_str 2 l), (bel _).trans (g.mono (bel _).size)⟩
  · have e : encL ⟨3, 0, s⟩ = 3 :: (putL s.length ++ s) := by unfold encL; rw [if_neg (by rw [hm]; simp)]; simp [textL]; omega
    rw [e]
    have TX := fun w => refText_at s (by omega) w
    have hsz : (str (putL s.length ++ s)).size ≤ 74 := by rw [str_size, List.length_append]; have := (putL_len s.length).2; omega
    generalize putL s.length ++ s = l at TX hsz
    clear e hm hs hI
    have bel : ∀ o, Below w.heap.size w (w.alloc o) := fun o => (Below.refl _ _).alloc (Nat.le_refl _) o
    go_enter Tryd.func20, Tryd.ntmps20
    go_wp2_with fail
    refine (TX _).mono ?_
    rintro e w1 ⟨rfl, g⟩
    go_wp2_with fail
    go_ret
    exact ⟨ret_str (one_str 3 l), (bel _).trans (g.mono (bel _).size)⟩
end Go.Proofs.YtmjedjhkhjiigaaDoor.V7
