/- Values: the law ValueTexts, its ways joined; what the row's listed variables give it. Written by wip/tools/gen9q4.py. -/
import Derived.Test.YtcehgfganjdghaaDoorRows
import Derived.Test.YtcehgfganjdghaaDoorQVTC35
import Derived.Test.YtcehgfganjdghaaDoorQVTC36
import Derived.Test.YtcehgfganjdghaaDoorQVTC37
import Derived.Test.YtcehgfganjdghaaDoorQVTC38
import Derived.Lib.ItoaLen
import Derived.Lib.LaidTab
import Derived.ProofKit
import Derived.LaidMore
import Derived.OpenShut
import Derived.Stop.Joined
namespace Go.Proofs.YtcehgfganjdghaaDoor
open Go Go.ChangeShapes Go.WideShapes Go.ChangeAt Go.RowKit
set_option linter.unusedVariables false
def laid7 : List (String × DataW Unit) := [("math/bits.deBruijn32tab", Rows.laid_math_bits_deBruijn32tab), ("math/bits.deBruijn64tab", Rows.laid_math_bits_deBruijn64tab), ("internal/strconv.uint64pow10", Rows.laid_internal_strconv_uint64pow10)]
theorem pow_data {H : Type} : (Rows.laid_internal_strconv_uint64pow10 : DataW H) = Lib.tabData .u64 Lib.pow10Tab := by kernel_rfl
theorem gTy (g : Nat) (h : Tryd.prog.globalNamed "internal/strconv.uint64pow10" = some g) : (Tryd.prog.globals[g]?).map (·.type) = some 144 := by
  obtain rfl := Option.some.inj (h.symm.trans (by kernel_rfl : Tryd.prog.globalNamed "internal/strconv.uint64pow10" = some (Tryd.prog.globals.findIdx? (·.name == "internal/strconv.uint64pow10")).get!))
  kernel_rfl
theorem tab_of_laid7 {W : World} (h : laidMetH Tryd.prog laid7 W) : Lib.TabIs Tryd.prog W "internal/strconv.uint64pow10" .u64 Lib.pow10Tab := by
  rw [MakeChecks.laidMetH_plain _ _ _ (by kernel_rfl)] at h
  obtain ⟨ps, ⟨_, _, _, _, _, _, _, _, _, _, r1, _⟩, _⟩ := h
  obtain ⟨_, _, _, _, _, _, _, _, _, _, r2, _⟩ := r1
  obtain ⟨g, t, cs, fuel, p, q, hg, hty, hvar, hd, _, _⟩ := r2
  obtain rfl := Option.some.inj ((gTy g hg).symm.trans hty)
  unfold Lib.TabIs
  rw [pow_data] at hd
  rw [hvar, ← Lib.cells_of_tab Tryd.underlying144 Tryd.underlying78 (by kernel_rfl) (by kernel_rfl) hd]
namespace V7
theorem itoa_short (n : Int) (h : fits n) : (Lib.itoa n).length ≤ 64 := by
  exact Nat.le_trans (Lib.itoa_length_le n h.1 h.2) (by decide)
theorem texts_row (ka ia : Int) (sa : List UInt8) (kb ib : Int) (sb : List UInt8) (w : World) (wka : (Lit.int .i64 ka).wf = true) (wia : (Lit.int .i64 ia).wf = true) (ha : sa.length ≤ maxLen)
    (wkb : (Lit.int .i64 kb).wf = true) (wib : (Lit.int .i64 ib).wf = true) (hb : sb.length ≤ maxLen) (tab : Lib.TabIs Tryd.prog w "internal/strconv.uint64pow10" .u64 Lib.pow10Tab) :
    Calls Tryd.prog 9 #[.agg #[.int .i64 ka, .int .i64 ia, .string (str sa)], .agg #[.int .i64 kb, .int .i64 ib, .string (str sb)]] w fun e w' => e = .returned (.bool true) ∧ Below w.heap.size w w' := by
  have hi : fits ia := by
    simp [Lit.wf, IntKind.min, IntKind.max, IntKind.signed, IntKind.bits] at wia
    unfold fits; omega
  have FA := fun w => few_any ka ia sa w ha
  have FB := fun w => few_any kb ib sb w hb
  have la : (sa.take 200).length ≤ 200 := List.length_take_le _ _
  have lb : (sb.take 200).length ≤ 200 := List.length_take_le _ _
  generalize sa.take 200 = ta at FA la
  generalize sb.take 200 = tb at FB lb
  have ma : ta.length ≤ maxLen := Nat.le_trans la (by decide)
  have mb : tb.length ≤ maxLen := Nat.le_trans lb (by decide)
  have RMA := fun w => refMay_any ka ia ta w ma
  have RMB := fun w => refMay_any kb ib tb w mb
  cases m1 : mayB ⟨ka, ia, ta⟩ with
  | false =>
    rw [m1] at RMA
    have e1 : ∀ K, expE1 K ⟨ka, ia, ta⟩ = 1 := fun K => by unfold expE1; rw [m1]; rfl
    exact texts_a ka ia sa kb ib sb ta tb w FA FB (fun w => join_err ka ia ta kb ib tb ma mb 1 (by unfold expE; rw [m1]; rfl) rfl w) (fun w => length_err ka ia ta ma 1 (e1 3) rfl w) (fun w => not_err ka ia ta ma 1 (e1 1) rfl w) (fun W _ => show_err ka ia ta ma m1 W) RMA la lb
  | true =>
    rw [m1] at RMA
    have m1' := m1
    unfold mayB at m1'
    rw [decide_eq_true_eq] at m1'
    simp only at m1'
    have ty : ∀ K, ka ≠ K → expE1 K ⟨ka, ia, ta⟩ = 10 := fun K h => by unfold expE1; rw [m1, if_neg (by simp), if_pos h]
    have ok : ∀ K, ka = K → expE1 K ⟨ka, ia, ta⟩ = 0 := fun K h => by unfold expE1; rw [m1, if_neg (by simp), if_neg (by simpa using h)]
    cases m2 : mayB ⟨kb, ib, tb⟩ with
    | false =>
      rw [m2] at RMB
      have hE : expE 3 ⟨ka, ia, ta⟩ ⟨kb, ib, tb⟩ = 1 := by unfold expE; rw [m1, m2]; rfl
      rcases m1' with ⟨rfl, rfl, rfl⟩ | ⟨rfl, h2, rfl⟩ | ⟨rfl, rfl⟩ | ⟨rfl, rfl, h3⟩
      · exact texts_0b 0 sa kb ib sb [] tb [110, 105, 108] w FA FB (fun w => join_err _ _ _ kb ib tb ma mb 1 hE rfl w) (fun w => length_err _ _ _ ma 10 (ty 3 (by decide)) rfl w) (fun w => not_err _ _ _ ma 10 (ty 1 (by decide)) rfl w) (fun W _ => show_nil m1 W) RMA (fun w => refShow_nil 0 [] w) RMB la lb
      · rcases h2 with rfl | rfl
        · exact texts_1b 0 sa kb ib sb [] tb [102, 97, 108, 115, 101] true w FA FB (fun w => join_err _ _ _ kb ib tb ma mb 1 hE rfl w) (fun w => length_err _ _ _ ma 10 (ty 3 (by decide)) rfl w) (fun w => not_ok _ _ _ ma true (ok 1 rfl) rfl w) (fun W _ => show_no m1 W) RMA (fun w => refShow_no [] w) RMB rfl la lb
        · exact texts_1b 1 sa kb ib sb [] tb [116, 114, 117, 101] false w FA FB (fun w => join_err _ _ _ kb ib tb ma mb 1 hE rfl w) (fun w => length_err _ _ _ ma 10 (ty 3 (by decide)) rfl w) (fun w => not_ok _ _ _ ma false (ok 1 rfl) rfl w) (fun W _ => show_yes m1 W) RMA (fun w => refShow_yes [] w) RMB rfl la lb
      · exact texts_2b ia sa kb ib sb [] tb (Lib.itoa ia) w FA FB (fun w => join_err _ _ _ kb ib tb ma mb 1 hE rfl w) (fun w => length_err _ _ _ ma 10 (ty 3 (by decide)) rfl w) (fun w => not_err _ _ _ ma 10 (ty 1 (by decide)) rfl w) (fun W b => show_int ia m1 hi (itoa_short ia hi) W (tabIs_below tab b)) RMA (fun w => refShow_int ia [] hi w) RMB la lb
      · exact texts_3b 0 sa kb ib sb ta tb ta w FA FB (fun w => join_err _ _ _ kb ib tb ma mb 1 hE rfl w) (fun w => length_ok _ _ _ ma (ok 3 rfl) w) (fun w => not_err _ _ _ ma 10 (ty 1 (by decide)) rfl w) (fun W _ => show_text ta ma m1 W) RMA (fun w => refShow_text 0 ta w) RMB la lb
    | true =>
      rw [m2] at RMB
      have hE : (ka ≠ 3 ∨ kb ≠ 3) → expE 3 ⟨ka, ia, ta⟩ ⟨kb, ib, tb⟩ = 10 := fun h => by unfold expE; rw [m1, m2, if_neg (by simp), if_neg (by simp), if_pos h]
      rcases m1' with ⟨rfl, rfl, rfl⟩ | ⟨rfl, h2, rfl⟩ | ⟨rfl, rfl⟩ | ⟨rfl, rfl, h3⟩
      · exact texts_0t 0 sa kb ib sb [] tb [110, 105, 108] w FA FB (fun w => join_err _ _ _ kb ib tb ma mb 10 (hE (.inl (by decide))) rfl w) (fun w => length_err _ _ _ ma 10 (ty 3 (by decide)) rfl w) (fun w => not_err _ _ _ ma 10 (ty 1 (by decide)) rfl w) (fun W _ => show_nil m1 W) RMA (fun w => refShow_nil 0 [] w) RMB la lb
      · rcases h2 with rfl | rfl
        · exact texts_1t 0 sa kb ib sb [] tb [102, 97, 108, 115, 101] true w FA FB (fun w => join_err _ _ _ kb ib tb ma mb 10 (hE (.inl (by decide))) rfl w) (fun w => length_err _ _ _ ma 10 (ty 3 (by decide)) rfl w) (fun w => not_ok _ _ _ ma true (ok 1 rfl) rfl w) (fun W _ => show_no m1 W) RMA (fun w => refShow_no [] w) RMB rfl la lb
        · exact texts_1t 1 sa kb ib sb [] tb [116, 114, 117, 101] false w FA FB (fun w => join_err _ _ _ kb ib tb ma mb 10 (hE (.inl (by decide))) rfl w) (fun w => length_err _ _ _ ma 10 (ty 3 (by decide)) rfl w) (fun w => not_ok _ _ _ ma false (ok 1 rfl) rfl w) (fun W _ => show_yes m1 W) RMA (fun w => refShow_yes [] w) RMB rfl la lb
      · exact texts_2t ia sa kb ib sb [] tb (Lib.itoa ia) w FA FB (fun w => join_err _ _ _ kb ib tb ma mb 10 (hE (.inl (by decide))) rfl w) (fun w => length_err _ _ _ ma 10 (ty 3 (by decide)) rfl w) (fun w => not_err _ _ _ ma 10 (ty 1 (by decide)) rfl w) (fun W b => show_int ia m1 hi (itoa_short ia hi) W (tabIs_below tab b)) RMA (fun w => refShow_int ia [] hi w) RMB la lb
      · by_cases hkb : kb = 3
        · subst hkb
          have h0 : expE 3 ⟨3, 0, ta⟩ ⟨3, ib, tb⟩ = 0 := by unfold expE; rw [m1, m2]; rfl
          by_cases hl : ta.length + tb.length ≤ 64
          · exact texts_3k 0 sa ib sb ta tb ta w FA FB (fun w => join_ok _ _ _ 3 ib tb ma mb h0 (by rw [List.length_append]; exact hl) (by omega) (by omega) w) (fun w => length_ok _ _ _ ma (ok 3 rfl) w) (fun w => not_err _ _ _ ma 10 (ty 1 (by decide)) rfl w) (fun W _ => show_text ta ma m1 W) RMA (fun w => refShow_text 0 ta w) RMB la lb hl
          · exact texts_3l 0 sa ib sb ta tb ta w FA FB (fun w => join_long _ _ _ 3 ib tb ma mb h0 (by rw [List.length_append]; omega) (by omega) (by omega) w) (fun w => length_ok _ _ _ ma (ok 3 rfl) w) (fun w => not_err _ _ _ ma 10 (ty 1 (by decide)) rfl w) (fun W _ => show_text ta ma m1 W) RMA (fun w => refShow_text 0 ta w) RMB la lb (by omega)
        · exact texts_3t 0 sa kb ib sb ta tb ta w FA FB (fun w => join_err _ _ _ kb ib tb ma mb 10 (hE (.inr hkb)) rfl w) (fun w => length_ok _ _ _ ma (ok 3 rfl) w) (fun w => not_err _ _ _ ma 10 (ty 1 (by decide)) rfl w) (fun W _ => show_text ta ma m1 W) RMA (fun w => refShow_text 0 ta w) RMB la lb (by rw [bne_iff_ne]; exact hkb)
end V7
end Go.Proofs.YtcehgfganjdghaaDoor
