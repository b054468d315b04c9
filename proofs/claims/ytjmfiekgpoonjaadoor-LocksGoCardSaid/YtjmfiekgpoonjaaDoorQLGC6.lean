/- Keys: what is a key, a pattern; what begins; what is ahead. -/
/- Keys: which text is ahead; what begins with what; lengths cut. -/
/- A region whose order is open, walked once: what only reads is taken first, since what was there stays as it was; what runs comes in the one order that its edges leave. -/
/- Keys: a text with its last byte turned. Written by wip/tools/gen8d.py. -/
import Derived.Test.YtjmfiekgpoonjaaDoorQLGC5
import Derived.Deep.QuietTactic
import Derived.BigQuiet
import Derived.Test.YtjmfiekgpoonjaaDoorQLGC2
import Derived.OrdersHeld
import Derived.Deep.RegionWith
namespace Go.Proofs.YtjmfiekgpoonjaaDoor
open Go Go.RowKit
set_option linter.unusedVariables false
set_option linter.unusedSimpArgs false
theorem isB_long {l : List UInt8} (h : 24 < l.length) : isB l = false := by
  have : ¬ l.length ≤ 24 := by omega
  simp [isB, patB, this]
theorem isB_nil : isB [] = false := rfl
theorem isB_mid {l : List UInt8} (h0 : 0 < l.length) (h : l.length ≤ 24) : isB l = l.all okc := by simp [isB, patB, h, h0]
theorem emp_true {l : List UInt8} (h : l = []) : (str l).toList.isEmpty = true := by rw [str_tl, h]; rfl
theorem emp_false {l : List UInt8} (h : 0 < l.length) : (str l).toList.isEmpty = false := by
  rw [str_tl]
  cases l with
  | nil => simp at h
  | cons => rfl
set_option maxRecDepth 100000 in
theorem is_any (l : List UInt8) (hl : l.length ≤ maxLen) : Pure 63 #[.string (str l)] (.bool (isB l)) := by
  intro w tab
  have hz : (str l).size = l.length := str_size l
  unfold maxLen at hl
  by_cases h0 : l.length = 0
  · obtain rfl : l = [] := List.eq_nil_of_length_eq_zero h0
    have hne := emp_true (l := []) rfl
    rw [isB_nil]
    go_enter Tryd.func63, Tryd.ntmps63
    go_wp2_with fail
    go_ret
    exact ⟨rfl, rfl⟩
  · have hne := emp_false (l := l) (by omega)
    by_cases h24 : 24 < l.length
    · rw [isB_long h24]
      go_enter Tryd.func63, Tryd.ntmps63
      go_wp2_with fail
      go_ret
      exact ⟨rfl, rfl⟩
    · rw [isB_mid (by omega) (by omega)]
      obtain ⟨B, hB⟩ : ∃ B, B = l.all okc := ⟨_, rfl⟩
      rw [← hB]
      have HB := Lib.hid hB
      clear hB
      go_enter Tryd.func63, Tryd.ntmps63
      go_wp2_with fail
      go_loop [3, 13] (fun _ i => ∃ k : Nat, k ≤ l.length ∧ i = .int .i64 (k : Int) ∧ Hid ((l.take k).all okc = true)) (fun _ i => l.length - (intOf i).toNat)
      case atStart => exact ⟨0, Nat.zero_le _, rfl, rfl⟩
      case round =>
        obtain ⟨k, hk, rfl, hs⟩ := hrel
        by_cases hlt : k < l.length
        · have hcc : ∀ h : k < (str l).size, ((str l)[k]'h).toNat = (l.getD k 0).toNat := fun h => by rw [str_byte]
          obtain ⟨c, hc⟩ : ∃ c, c = l.getD k 0 := ⟨_, rfl⟩
          rw [← hc] at hcc
          have h256 := c.toNat_lt
          have MH := mayHave_any c.toNat h256
          have eo : okc c = okN c.toNat := rfl
          have ht := all_take hlt hs.out
          have hn := all_no hlt
          rw [← hc] at ht hn
          cases hb : okN c.toNat with
          | true =>
            rw [hb] at MH eo
            rw [eo] at ht
            have HT := Lib.hid ht
            generalize c.toNat = m at *
            clear hc hs ht hn eo hb
            go_wp2_with (go_at_call 71; refine (MH _ tab).mono ?_; rintro e w' ⟨rfl, rfl⟩)
            exact ⟨⟨k + 1, by omega, by push_cast; rfl, HT⟩, by simp [intOf]; omega⟩
          | false =>
            rw [hb] at MH eo
            have hno := hn eo
            have HN := Lib.hid hno
            generalize c.toNat = m at *
            clear hc hs ht hn eo hb hno
            go_wp2_with (go_at_call 71; refine (MH _ tab).mono ?_; rintro e w' ⟨rfl, rfl⟩)
            go_ret
            exact ⟨ret_bool (by rw [HB.out, HN.out]), rfl⟩
        · have hall : l.all okc = true := by have := hs.out; rwa [List.take_of_length_le (by omega)] at this
          have HA := Lib.hid hall
          obtain rfl : k = l.length := by omega
          clear hall hs
          go_wp2_with fail
          go_ret
          exact ⟨ret_bool (by rw [HB.out, HA.out]), rfl⟩
set_option maxRecDepth 100000 in
theorem refPattern_any (l : List UInt8) (hl : l.length ≤ maxLen) : Pure 68 #[.string (str l)] (.bool (patB l)) := by
  intro w tab
  have hz : (str l).size = l.length := str_size l
  unfold maxLen at hl
  obtain ⟨B, hB⟩ : ∃ B, B = patB l := ⟨_, rfl⟩
  rw [← hB]
  have HB := Lib.hid hB
  clear hB
  go_enter Tryd.func68, Tryd.ntmps68
  go_wp2_with fail
  go_loop [3] (fun i => ∃ k : Nat, k ≤ l.length ∧ i = .int .i64 (k : Int) ∧ Hid ((l.take k).all okc = true)) (fun i => l.length - (intOf i).toNat)
  case atStart => exact ⟨0, Nat.zero_le _, rfl, rfl⟩
  case round =>
    obtain ⟨k, hk, rfl, hs⟩ := hrel
    by_cases hlt : k < l.length
    · have hcc : ∀ h : k < (str l).size, ((str l)[k]'h).toNat = (l.getD k 0).toNat := fun h => by rw [str_byte]
      obtain ⟨c, hc⟩ : ∃ c, c = l.getD k 0 := ⟨_, rfl⟩
      rw [← hc] at hcc
      have h256 := c.toNat_lt
      have MH := sign_any c.toNat h256
      have eo : okc c = okN c.toNat := rfl
      have ht := all_take hlt hs.out
      have hn := all_no hlt
      rw [← hc] at ht hn
      cases hb : okN c.toNat with
      | true =>
        rw [hb] at MH eo
        rw [eo] at ht
        have HT := Lib.hid ht
        generalize c.toNat = m at *
        clear hc hs ht hn eo hb
        go_wp2_with (go_at_call 73; refine (MH _ tab).mono ?_; rintro e w' ⟨rfl, rfl⟩)
        exact ⟨⟨k + 1, by omega, by push_cast; rfl, HT⟩, by simp [intOf]; omega⟩
      | false =>
        rw [hb] at MH eo
        have hno := hn eo
        have HN := Lib.hid hno
        generalize c.toNat = m at *
        clear hc hs ht hn eo hb hno
        go_wp2_with (go_at_call 73; refine (MH _ tab).mono ?_; rintro e w' ⟨rfl, rfl⟩)
        go_ret
        exact ⟨ret_bool (by rw [HB.out]; unfold patB; rw [HN.out, Bool.and_false]), rfl⟩
    · have hall : l.all okc = true := by have := hs.out; rwa [List.take_of_length_le (by omega)] at this
      have HA := Lib.hid hall
      obtain rfl : k = l.length := by omega
      clear hall hs
      by_cases h24 : l.length ≤ 24
      · go_wp2_with fail
        go_ret
        exact ⟨ret_bool (by rw [HB.out]; unfold patB; rw [HA.out]; simp [h24]; omega), rfl⟩
      · go_wp2_with fail
        go_ret
        exact ⟨ret_bool (by rw [HB.out]; unfold patB; rw [HA.out]; simp [h24]; omega), rfl⟩
end Go.Proofs.YtjmfiekgpoonjaaDoor
namespace Go.Proofs.YtjmfiekgpoonjaaDoor
open Go Go.RowKit
set_option linter.unusedVariables false
set_option linter.unusedSimpArgs false
theorem less_str (a b : List UInt8) : Op.bytesLess (str a).toList (str b).toList = ltB a b := by rw [str_tl, str_tl, less_cmp]
theorem eq_str (a b : List UInt8) : ((str a).toList == (str b).toList) = decide (a = b) := by
  rw [str_tl, str_tl]
  by_cases h : a = b
  · subst h; simp
  · simp [h]
theorem begins_any (a b : List UInt8) (ha : a.length ≤ maxLen) (hb : b.length ≤ maxLen) : Pure 69 #[.string (str a), .string (str b)] (.bool (Lib.hasPrefix a b)) := by
  intro w tab
  unfold maxLen at ha hb
  have h1 : (str a).size = a.length := str_size a
  have h2 : (str b).size = b.length := str_size b
  obtain ⟨B, hB⟩ : ∃ B, B = Lib.hasPrefix a b := ⟨_, rfl⟩
  rw [← hB]
  by_cases h : b.length ≤ a.length
  · have hx : (((str a).extract 0 b.length).toList == (str b).toList) = B := by
      rw [hB, str_extract, List.drop_zero, Nat.sub_zero, eq_str, ← Lib.hasPrefix_of_take]
      by_cases e : a.take b.length = b <;> simp [h, e]
    clear hB
    go_enter Tryd.func69, Tryd.ntmps69
    go_wp2_with fail
    go_ret
    exact ⟨rfl, rfl⟩
  · have hx : B = false := by
      rw [hB, ← Lib.hasPrefix_of_take]
      simp [h]
    have HX := Lib.hid hx
    clear hB hx
    go_enter Tryd.func69, Tryd.ntmps69
    go_wp2_with fail
    go_ret
    exact ⟨ret_bool HX.out.symm, rfl⟩
theorem prefix_any (a b : List UInt8) : Pure 72 #[.string (str a), .string (str b)] (.bool (Lib.hasPrefix a b)) := by
  intro w tab
  have := Tryd.strings_HasPrefix (str a) (str b) w
  rw [str_toList, str_toList] at this
  exact this.mono fun e w' h => ⟨h.1, h.2.symm⟩
end Go.Proofs.YtjmfiekgpoonjaaDoor
namespace Go.Proofs.YtjmfiekgpoonjaaDoor
open Go.RowKit
set_option linter.unusedVariables false
section
variable {P : Program} {ops : Array Oper} {Q : Exit → Act → World → Prop} {md : Region.Mode}
theorem held_mono {S S' : World → Prop} (hS : ∀ w, S' w → S w) : ∀ (fuel : Nat) (listed : Array Bool) (a : Act) (w : World), wpAnyH P md ops Q S' fuel listed a w → wpAnyH P md ops Q S fuel listed a w
  | 0, _, _, _, h => h
  | fuel + 1, _, _, _, h => ⟨h.1, fun i hi => wpOp_mono (fun a' w' h' => ⟨hS _ h'.1, held_mono hS fuel _ a' w' h'.2⟩) (h.2 i hi)⟩
/-- Whatever order is picked from here on, and what is there now stays as it is. -/
def wpG (P : Program) (ops : Array Oper) (Q : Exit → Act → World → Prop) (fuel : Nat) (listed : Array Bool) (a : Act) (w : World) : Prop :=
  wpAnyH P .any ops Q (fun w' => Below w.heap.size w w') fuel listed a w
theorem g_start {id : Nat} {a : Act} {w : World} (hm : P.follows .mixedOrders = true) (h : wpG P ops Q ops.size (Array.replicate ops.size false) a w.drew) : (Code.region id ops true).wp P Q a w :=
  wp_region_held hm h
def stat (ops : Array Oper) (listed : Array Bool) (i : Nat) : Bool := Region.noSelect ops && Region.free .any ops listed i && (Region.ready .any ops listed).contains i
theorem g_take {i : Nat} {oi : Oper} {d : Option Tmp} {v : Value} {fuel : Nat} {listed : Array Bool} {a : Act} {w : World} (hi : ops[i]? = some oi) (hd : oi.dst = d) (hst : stat ops listed i = true)
    (hQ : ∀ c a w, Q (.panic c) (a.put d v) w → Q (.panic c) a w) (hw : Region.wanted oi (yielded ops a.tmps) = true)
    (hy : ∀ w', Below w.heap.size w w' → (execOp a.eval oi).run P w' = .ok (.value v) w')
    (h : wpG P ops Q fuel (listed.setIfInBounds i true) (a.put d v) w) : wpG P ops Q (fuel + 1) listed a w := by
  subst hd
  unfold stat at hst
  rw [Bool.and_eq_true, Bool.and_eq_true] at hst
  exact wpAnyH_take hi hst.1.1 hst.1.2 hst.2 hQ (.inl ⟨hw, hy⟩) (Below.refl _ _) h
theorem g_skip {i : Nat} {oi : Oper} {d : Option Tmp} {fuel : Nat} {listed : Array Bool} {a : Act} {w : World} (hi : ops[i]? = some oi) (hd : oi.dst = d) (hst : stat ops listed i = true)
    (hQ : ∀ c a w, Q (.panic c) (a.put d undef) w → Q (.panic c) a w) (hw : Region.wanted oi (yielded ops a.tmps) = false)
    (h : wpG P ops Q fuel (listed.setIfInBounds i true) (a.put d undef) w) : wpG P ops Q (fuel + 1) listed a w := by
  subst hd
  unfold stat at hst
  rw [Bool.and_eq_true, Bool.and_eq_true] at hst
  exact wpAnyH_take hi hst.1.1 hst.1.2 hst.2 hQ (.inr ⟨hw, rfl⟩) (Below.refl _ _) h
theorem g_run {i : Nat} {oi : Oper} {fuel : Nat} {listed : Array Bool} {a : Act} {w : World} (hi : ops[i]? = some oi) (hr : Region.ready .any ops listed = [i])
    (hw : Region.wanted oi (yielded ops a.tmps) = true)
    (h : ∀ K : Act → World → Prop, (∀ a' w', Below w.heap.size w w' ∧ wpG P ops Q fuel (listed.setIfInBounds i true) a' w' → K a' w') → oi.wp P a w K Q) : wpG P ops Q (fuel + 1) listed a w := by
  refine wpAnyH_all hr (by simp) ?_
  intro j hj
  rw [List.mem_singleton] at hj
  subst hj
  unfold wpOp
  simp only [hi, hw, if_true]
  refine .inl (h _ ?_)
  rintro a' w' ⟨hb, hg⟩
  refine ⟨hb, held_mono ?_ _ _ _ _ hg⟩
  intro w'' hb'
  exact hb.trans (hb'.mono hb.size)
theorem g_run2 {i k : Nat} {oi ok : Oper} {fuel : Nat} {listed : Array Bool} {a : Act} {w : World} (hi : ops[i]? = some oi) (hk : ops[k]? = some ok) (hr : Region.ready .any ops listed = [i, k])
    (hwi : Region.wanted oi (yielded ops a.tmps) = true) (hwk : Region.wanted ok (yielded ops a.tmps) = true)
    (h1 : ∀ K : Act → World → Prop, (∀ a' w', Below w.heap.size w w' ∧ wpG P ops Q fuel (listed.setIfInBounds i true) a' w' → K a' w') → oi.wp P a w K Q)
    (h2 : ∀ K : Act → World → Prop, (∀ a' w', Below w.heap.size w w' ∧ wpG P ops Q fuel (listed.setIfInBounds k true) a' w' → K a' w') → ok.wp P a w K Q) : wpG P ops Q (fuel + 1) listed a w := by
  refine wpAnyH_all hr (by simp) ?_
  intro j hj
  rw [List.mem_cons, List.mem_singleton] at hj
  rcases hj with rfl | rfl
  · unfold wpOp
    simp only [hi, hwi, if_true]
    refine .inl (h1 _ ?_)
    rintro a' w' ⟨hb, hg⟩
    exact ⟨hb, held_mono (fun w'' h'' => hb.trans (h''.mono hb.size)) _ _ _ _ hg⟩
  · unfold wpOp
    simp only [hk, hwk, if_true]
    refine .inl (h2 _ ?_)
    rintro a' w' ⟨hb, hg⟩
    exact ⟨hb, held_mono (fun w'' h'' => hb.trans (h''.mono hb.size)) _ _ _ _ hg⟩
theorem g_done {listed : Array Bool} {fuel : Nat} {a : Act} {w : World} (hr : Region.ready .any ops listed = []) (h : Q .normal a w) : wpG P ops Q fuel listed a w :=
  wpAnyH_done hr h fuel
end
end Go.Proofs.YtjmfiekgpoonjaaDoor
namespace Go.Proofs.YtjmfiekgpoonjaaDoor
open Go Go.RowKit
set_option linter.unusedVariables false
set_option linter.unusedSimpArgs false
theorem rd_block {w : World} {g : Nat} {l : List UInt8} {t : TypeId} (h : w.heap[g]? = some (.cells (l.map bv).toArray t (0, 0))) (hm : l.length ≤ maxLen) : Rd w (.slice (some ⟨g, 0, none⟩) l.length l.length) l := by
  refine ⟨some ⟨g, 0, none⟩, l.length, rfl, Nat.le_refl _, hm, by simp, ?_⟩
  intro _
  refine ⟨g, 0, rfl, lt_of_block h, ?_⟩
  intro i hi
  rw [Nat.zero_add, block_cell h]
  simp [hi]
theorem conv_one {w : World} {g : Nat} {u : UInt8} (h : w.heap[g]? = some (.cells #[.int .u8 (u.toNat : Int)] 5 (0, 0))) : (convert 58 9 (.slice (some ⟨g, 0, none⟩) 1 1)).run Tryd.prog w = .ok (.string (str [u])) w :=
  conv_rd (P := Tryd.prog) (rd_block (l := [u]) h (by simp [maxLen])) 58 5 9 Tryd.underlying58 Tryd.underlying5 Tryd.underlying9
end Go.Proofs.YtjmfiekgpoonjaaDoor
