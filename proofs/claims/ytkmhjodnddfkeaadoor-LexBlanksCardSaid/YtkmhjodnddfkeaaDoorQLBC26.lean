/- Lex: LexWords. Written by wip/tools/gen16s.py. -/
import Derived.Test.YtkmhjodnddfkeaaDoorQLBC19
import Derived.Test.YtkmhjodnddfkeaaDoorQLBC25
namespace Go.Proofs.YtkmhjodnddfkeaaDoor
open Go Go.RowKit
set_option linter.unusedVariables false
set_option linter.unusedSimpArgs false
set_option maxRecDepth 100000
set_option maxHeartbeats 4000000 in
theorem words_any (s0 : List UInt8) (w : World) (hm : s0.length ≤ maxLen) (tab : TabX w) : Calls Tryd.prog 4 #[.string (str s0)] w fun e w' => e = .returned (.bool true) ∧ Below w.heap.size w w' := by
  have hsz := str_size s0
  have hm9 : s0.length ≤ 9223372036854775807 := hm
  have AW := Lib.hid (fun w' (t : TabX w') => awake_any w' t)
  have WD := Lib.hid (fun s w' (t : TabX w') => word_any s w' t)
  have QU := Lib.hid (fun s w' => quote_any s w')
  have RQ := Lib.hid (fun s w' => refQuote_any s w')
  have RW := Lib.hid (fun s hl w' => refWord_any s hl w')
  have TAB := Lib.hid tab
  obtain ⟨s, hs⟩ : ∃ s, s = s0.take 100 := ⟨_, rfl⟩
  have hl : s.length ≤ 100 := by rw [hs]; exact List.length_take_le _ _
  obtain ⟨q, hq⟩ : ∃ q, q = str (quoP s) := ⟨_, rfl⟩
  obtain ⟨n, hn⟩ : ∃ n, n = quoE s := ⟨_, rfl⟩
  obtain ⟨b, hb⟩ : ∃ b, b = wordB s := ⟨_, rfl⟩
  have QU1 := QU.out s
  have RQ1 := RQ.out s
  have WD1 := WD.out s
  have RW1 := RW.out s hl
  rw [← hq, ← hn] at QU1 RQ1
  rw [← hb] at WD1 RW1
  have QUH := Lib.hid QU1
  have RQH := Lib.hid RQ1
  have WDH := Lib.hid WD1
  have RWH := Lib.hid RW1
  have tq : (q.toList == q.toList) = true := by simp
  clear tab QU1 RQ1 WD1 RW1 hq hn hb
  by_cases h100 : 100 < s0.length
  · have h1 : ((100 : Int) < (s0.length : Int)) := by omega
    have hx : (str s0).extract 0 100 = str s := by rw [str_extract, hs]; rfl
    clear hs h100
    go_enter Tryd.func4, Tryd.ntmps4
    go_wp2_with (first | ((with_reducible refine (QUH.out _).mono ?_); rintro e w1 ⟨rfl, b1⟩; (have B1 := Lib.hid b1); (have T1 := Lib.hid (TAB.out.below b1)); clear b1) | ((with_reducible refine (RQH.out _).mono ?_); rintro e w2 ⟨rfl, rfl⟩) | ((with_reducible refine (WDH.out _ T1.out).mono ?_); rintro e w3 ⟨rfl, rfl⟩) | ((with_reducible refine (RWH.out _).mono ?_); rintro e w4 ⟨rfl, rfl⟩) | ((with_reducible refine (AW.out _ T1.out).mono ?_); rintro e w5 ⟨rfl, b5⟩))
    go_ret
    exact ⟨rfl, B1.out.trans (b5.mono B1.out.size)⟩
  · have h1 : ¬ ((100 : Int) < (s0.length : Int)) := by omega
    obtain rfl : s = s0 := by rw [hs]; exact List.take_of_length_le (by omega)
    clear hs h100
    go_enter Tryd.func4, Tryd.ntmps4
    go_wp2_with (first | ((with_reducible refine (QUH.out _).mono ?_); rintro e w1 ⟨rfl, b1⟩; (have B1 := Lib.hid b1); (have T1 := Lib.hid (TAB.out.below b1)); clear b1) | ((with_reducible refine (RQH.out _).mono ?_); rintro e w2 ⟨rfl, rfl⟩) | ((with_reducible refine (WDH.out _ T1.out).mono ?_); rintro e w3 ⟨rfl, rfl⟩) | ((with_reducible refine (RWH.out _).mono ?_); rintro e w4 ⟨rfl, rfl⟩) | ((with_reducible refine (AW.out _ T1.out).mono ?_); rintro e w5 ⟨rfl, b5⟩))
    go_ret
    exact ⟨rfl, B1.out.trans (b5.mono B1.out.size)⟩
theorem str_self (a : ByteArray) : a = str a.data.toList := by unfold str; simp
theorem words_row (a : ByteArray) (w : World) (hm : a.size ≤ maxLen) (tab : TabX w) : Calls Tryd.prog 4 #[.string a] w fun e w' => e = .returned (.bool true) ∧ Below w.heap.size w w' := by
  have h : a.data.toList.length ≤ maxLen := by rw [str_self a, str_size] at hm; exact hm
  have := words_any a.data.toList w h tab
  rw [← str_self] at this
  exact this
end Go.Proofs.YtkmhjodnddfkeaaDoor
