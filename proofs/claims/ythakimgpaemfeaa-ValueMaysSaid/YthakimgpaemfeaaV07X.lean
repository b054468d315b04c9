/- Values: the law ValueMays, its ways joined. Written by wip/tools/gen7u.py. -/
import Derived.Test.YthakimgpaemfeaaV07U
import Derived.Test.YthakimgpaemfeaaV07V1
import Derived.Test.YthakimgpaemfeaaV07V2
import Derived.Test.YthakimgpaemfeaaV07V3
import Derived.Test.YthakimgpaemfeaaV07V4
import Derived.Test.YthakimgpaemfeaaV07V5
import Derived.Test.YthakimgpaemfeaaV07Q
namespace Go.Proofs.Ythakimgpaemfeaa
open Go Go.RowKit
set_option linter.unusedVariables false
theorem mays_row (ka ia : Int) (sa : List UInt8) (kb ib : Int) (sb : List UInt8) (n : Int) (w : World) (wka : (Lit.int .i64 ka).wf = true) (wia : (Lit.int .i64 ia).wf = true) (ha : sa.length ≤ maxLen)
    (wkb : (Lit.int .i64 kb).wf = true) (wib : (Lit.int .i64 ib).wf = true) (hb : sb.length ≤ maxLen) (wn : (Lit.int .i64 n).wf = true) :
    Calls Try.prog 3 #[.agg #[.int .i64 ka, .int .i64 ia, .string (str sa)], .agg #[.int .i64 kb, .int .i64 ib, .string (str sb)], .int .i64 n] w fun e w' => e = .returned (.bool true) ∧ Below w.heap.size w w' := by
  have FA := fun w => few_any ka ia sa w ha
  have FB := fun w => few_any kb ib sb w hb
  have la := take_max sa ha
  have lb := take_max sb hb
  generalize sa.take 200 = ta at FA la
  generalize sb.take 200 = tb at FB lb
  have VMA := fun w => may_any ka ia ta w la
  have RMA := fun w => refMay_any ka ia ta w la
  have RMB := fun w => refMay_any kb ib tb w lb
  have RO := fun w => refOrder_any ka ia ta kb ib tb w
  have LV := fun w => less_any ka ia ta kb ib tb w la lb
  have sz : (str ta).size = ta.length := str_size ta
  have szm : (str ta).size ≤ 9223372036854775807 := by rw [sz]; exact la
  cases m1 : mayB ⟨ka, ia, ta⟩ with
  | false =>
    rw [show lessB ⟨ka, ia, ta⟩ ⟨kb, ib, tb⟩ = false by unfold lessB; rw [m1]; rfl] at LV
    rw [m1] at VMA RMA
    by_cases h : ta.length ≤ 64
    · exact mays_fs n ka ia sa kb ib sb ta tb w FA FB RMA VMA LV (fun w => text_short ta w h) (by omega)
    · exact mays_fl n ka ia sa kb ib sb ta tb w FA FB RMA VMA LV (fun w => text_long ta w (by omega) la) (by omega) szm
  | true =>
  cases m2 : mayB ⟨kb, ib, tb⟩ with
  | false =>
    rw [show lessB ⟨ka, ia, ta⟩ ⟨kb, ib, tb⟩ = false by unfold lessB; rw [m1, m2]; rfl] at LV
    rw [m1] at VMA RMA
    rw [m2] at RMB
    by_cases h : ta.length ≤ 64
    · exact mays_tfs n ka ia sa kb ib sb ta tb w FA FB RMA VMA RMB LV (fun w => text_short ta w h) (by omega)
    · exact mays_tfl n ka ia sa kb ib sb ta tb w FA FB RMA VMA RMB LV (fun w => text_long ta w (by omega) la) (by omega) szm
  | true =>
  rw [less_of _ _ m1 m2] at LV
  rw [m1] at VMA RMA
  rw [m2] at RMB
  rcases ordV_range ⟨ka, ia, ta⟩ ⟨kb, ib, tb⟩ with h0 | h0 | h0
  · rw [h0] at RO LV
    by_cases h : ta.length ≤ 64
    · exact mays_as n ka ia sa kb ib sb ta tb w FA FB RMA VMA RMB RO LV (fun w => text_short ta w h) (by omega)
    · exact mays_al n ka ia sa kb ib sb ta tb w FA FB RMA VMA RMB RO LV (fun w => text_long ta w (by omega) la) (by omega) szm
  · rw [h0] at RO LV
    by_cases h : ta.length ≤ 64
    · exact mays_zs n ka ia sa kb ib sb ta tb w FA FB RMA VMA RMB RO LV (fun w => text_short ta w h) (by omega)
    · exact mays_zl n ka ia sa kb ib sb ta tb w FA FB RMA VMA RMB RO LV (fun w => text_long ta w (by omega) la) (by omega) szm
  · rw [h0] at RO LV
    by_cases h : ta.length ≤ 64
    · exact mays_bs n ka ia sa kb ib sb ta tb w FA FB RMA VMA RMB RO LV (fun w => text_short ta w h) (by omega)
    · exact mays_bl n ka ia sa kb ib sb ta tb w FA FB RMA VMA RMB RO LV (fun w => text_long ta w (by omega) la) (by omega) szm
end Go.Proofs.Ythakimgpaemfeaa
