/- Texts of layer 1. -/
import Derived.Test.YtcehgfganjdghaaDoorQVTC20
import Derived.Test.YtcehgfganjdghaaDoorQVTC21
namespace Go.Proofs.YtcehgfganjdghaaDoor
open Go.RowKit
set_option linter.unusedVariables false
set_option linter.unusedSimpArgs false
set_option maxRecDepth 100000 in
theorem refCutInt_at (l : List UInt8) (x n c : Nat) (hr : Hid (cutL l = (x, n, c))) (hlen : l.length ≤ maxLen) (w : World) :
    Calls Tryd.prog 93 #[.string (str l)] w fun e w' => e = .returned (.tuple #[.int .i64 (unzig x), .int .i64 n, .int .i64 c]) ∧ w = w' := by
  have hx := Lib.hid (cutL_facts hr.out).1
  have h2 : x % 2 = 1 ∨ x % 2 ≤ 0 := by omega
  rcases h2 with h2 | h2
  all_goals
   go_enter Tryd.func93, Tryd.ntmps93
   go_wp2_with (go_at_call 67; refine (refCut_at _ x n c hr hlen _).mono ?_; rintro e w' ⟨rfl, rfl⟩)
   have hx' := hx.out
   go_ret3
   refine ⟨?_, rfl⟩
   have : ∀ y : Int, y = unzig x → Ending.returned (.tuple #[.int .i64 y, .int .i64 n, .int .i64 c]) = Ending.returned (.tuple #[.int .i64 (unzig x), .int .i64 n, .int .i64 c]) := fun y h => by rw [h]
   refine this _ ?_
   unfold unzig wrap64
   simp only [IntKind.wrap_u64]
   split <;> omega
/-- What a text is read as. -/
def cutTextL (l : List UInt8) : List UInt8 × Nat × Nat :=
  match cutL l with
  | (x, n, c) => if c ≠ 0 then ([], 0, c) else if 255 < x then ([], 0, 8) else if l.length < n + x then ([], 0, 2) else ((l.drop n).take x, n + x, 0)
theorem cutTextL_eq {l : List UInt8} {x n c : Nat} (h : cutL l = (x, n, c)) : cutTextL l = if c ≠ 0 then ([], 0, c) else if 255 < x then ([], 0, 8) else if l.length < n + x then ([], 0, 2) else ((l.drop n).take x, n + x, 0) := by
  unfold cutTextL; rw [h]
theorem str_extract (l : List UInt8) (i j : Nat) : (str l).extract i j = str ((l.drop i).take (j - i)) := by
  apply ByteArray.ext
  simp [str, ByteArray.data_extract]
theorem str_append (a b : List UInt8) : str a ++ str b = str (a ++ b) := by
  apply ByteArray.ext
  simp [str, ByteArray.data_append]
set_option maxRecDepth 100000 in
theorem refCutText_at (l : List UInt8) (x n c : Nat) (hr : Hid (cutL l = (x, n, c))) (hlen : l.length ≤ 2000) (w : World) :
    Calls Tryd.prog 65 #[.string (str l)] w fun e w' => e = .returned (.tuple #[.string (str (cutTextL l).1), .int .i64 (cutTextL l).2.1, .int .i64 (cutTextL l).2.2]) ∧ w = w' := by
  have hsz : (str l).size = l.length := str_size l
  have hf := cutL_facts hr.out
  obtain ⟨f1, f2, f3, f4, f5, f6⟩ := hf
  have hv := Lib.hid f1
  have h4 := Lib.hid f4
  clear f1 f4 f5 f6
  have hml : l.length ≤ maxLen := by unfold maxLen; omega
  go_enter Tryd.func65, Tryd.ntmps65
  have K := Lib.hid (cutTextL_eq hr.out)
  have hc : 0 < c ∨ c ≤ 0 := by omega
  rcases hc with hc | hc
  all_goals
    go_wp2_with (go_at_call 67; refine (refCut_at _ x n c hr hml _).mono ?_; rintro e w' ⟨rfl, rfl⟩)
  all_goals
    go_ret3
    refine ⟨?_, rfl⟩
    rw [K.out]
  · rw [if_pos (by omega)]; rfl
  · rw [if_neg (by omega), if_pos (by omega)]; rfl
  · rw [if_neg (by omega), if_neg (by omega), if_pos (by omega)]; rfl
  · rw [if_neg (by omega), if_neg (by omega), if_neg (by omega)]
    show Ending.returned (.tuple #[.string ((str l).extract n (n + x)), .int .i64 ((n : Int) + (x : Int)), .int .i64 0]) = _
    rw [str_extract]; simp
set_option maxRecDepth 100000 in
theorem cutText_at (v : Value) (l : List UInt8) (x n c : Nat) (hr : Hid (cutL l = (x, n, c))) (hlen : l.length ≤ 2000) (w : World) (h : Rd w v l) :
    Calls Tryd.prog 90 #[v] w fun e w' => e = .returned (.tuple #[.string (str (cutTextL l).1), .int .i64 (cutTextL l).2.1, .int .i64 (cutTextL l).2.2]) ∧ w = w' := by
  have hf := cutL_facts hr.out
  obtain ⟨f1, f2, f3, f4, f5, f6⟩ := hf
  have hv := Lib.hid f1
  have h4 := Lib.hid f4
  clear f1 f4 f5 f6
  have h0 := h
  obtain ⟨ao, cap, rfl, hl, hm, hn, hx⟩ := h0
  have HX := Lib.hid hx
  have HN := Lib.hid hn
  clear hx hn
  go_enter Tryd.func90, Tryd.ntmps90
  have K := Lib.hid (cutTextL_eq hr.out)
  obtain ⟨i0, hi, hz0, hz1, hz2⟩ := info_parts u8info
  unfold maxLen at hm
  have hc : 0 < c ∨ c ≤ 0 := by omega
  rcases hc with hc | hc
  all_goals
   go_wp2_with (first
    | (go_at_call 92; refine (cut_at _ _ x n c hr _ h).mono ?_; rintro e w' ⟨rfl, rfl⟩)
    | (with_reducible refine wpList_slice_rd rfl 58 5 _ _ _ rfl i0 Tryd.underlying58 hi hz1 _ _ _ l rfl h _ _ _ _ rfl rfl n x (by omega) (by omega) (by omega) ?_; intro ao' cap' hr'; have k1 := conv_rd (P := Tryd.prog) hr' 58 5 9 Tryd.underlying58 Tryd.underlying5 Tryd.underlying9))
  all_goals
    go_ret3
    refine ⟨?_, rfl⟩
    rw [K.out]
  · rw [if_pos (by omega)]; rfl
  · rw [if_neg (by omega), if_pos (by omega)]; rfl
  · rw [if_neg (by omega), if_neg (by omega), if_pos (by omega)]; rfl
  · rw [if_neg (by omega), if_neg (by omega), if_neg (by omega)]; rfl
set_option maxRecDepth 100000 in
theorem refText_at (l : List UInt8) (hlen : l.length ≤ 255) (w : World) :
    Calls Tryd.prog 51 #[.string (str l)] w fun e w' => e = .returned (.string (str (putL l.length ++ l))) ∧ Below w.heap.size w w' := by
  have hsz : (str l).size = l.length := str_size l
  go_enter Tryd.func51, Tryd.ntmps51
  have hpl : (str (putL l.length)).size ≤ 10 := by rw [str_size]; exact (putL_len _).2
  go_wp2_with (go_at_call 49; refine (refPut_any _ l.length rfl ⟨by omega, by omega⟩ _).mono ?_; rintro e w' ⟨rfl, hb⟩)
  go_ret
  refine ⟨?_, hb⟩
  show Ending.returned (.string (str (putL l.length) ++ str l)) = _
  rw [str_append]
end Go.Proofs.YtcehgfganjdghaaDoor
