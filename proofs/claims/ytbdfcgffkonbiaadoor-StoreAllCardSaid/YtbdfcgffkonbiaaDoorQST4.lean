/- Keys: what is a key, a pattern; what begins; what is ahead. -/
/- Keys: which text is ahead; what begins with what; lengths cut. -/
/- A region whose order is open, walked once: what only reads is taken first, since what was there stays as it was; what runs comes in the one order that its edges leave. -/
/- Keys: a text with its last byte turned. Written by wip/tools/gen8d.py. -/
/- Keys: the calls that ask one thing behind the other. Written by wip/tools/gen8e.py. -/
/- Keys: the contracts of the small calls, whatever texts. Written by wip/tools/gen8f.py. -/
/- Values: what may be; the small ones. -/
/- Values: the small ones. -/
/- Values: what may be, by the document; how two are to one another. -/
import Derived.Test.YtbdfcgffkonbiaaDoorQST3
import Derived.Deep.QuietTactic
import Derived.BigQuiet
import Derived.Test.YtbdfcgffkonbiaaDoorQST2
import Derived.OrdersHeld
import Derived.Deep.RegionWith
import Derived.Test.YtbdfcgffkonbiaaDoorQST1
import Derived.Test.YtbdfcgffkonbiaaDoorProg
import Derived.WalkKit
import Derived.WalkSpells
import Derived.StillTailTactics
namespace Go.Proofs.YtbdfcgffkonbiaaDoor
open Go Go.RowKit
set_option linter.unusedVariables false
set_option linter.unusedSimpArgs false
theorem isB_long {l : List UInt8} (h : 24 < l.length) : isB l = false := by
  have : ¬ l.length ≤ 24 := by omega
  simp [isB, patB, this]
theorem isB_nil : isB [] = false := rfl
theorem isB_mid {l : List UInt8} (h0 : 0 < l.length) (h : l.length ≤ 24) : isB l = l.all okc := by simp [isB, patB, h, h0]
theorem emp_true {l : List UInt8} (h : l = []) : (str l).toList.isEmpty = true := by rw [str_tl, h]; rfl
theorem emp_false {l : List UInt8} (h : 0 < l.length) : (str l).toList.isEmpty = false := by
  rw [str_tl]
  cases l with
  | nil => simp at h
  | cons => rfl
set_option maxRecDepth 100000 in
theorem is_any (l : List UInt8) (hl : l.length ≤ maxLen) : Pure 65 #[.string (str l)] (.bool (isB l)) := by
  intro w tab
  have hz : (str l).size = l.length := str_size l
  unfold maxLen at hl
  by_cases h0 : l.length = 0
  · obtain rfl : l = [] := List.eq_nil_of_length_eq_zero h0
    have hne := emp_true (l := []) rfl
    rw [isB_nil]
    go_enter Tryd.func65, Tryd.ntmps65
    go_wp2_with fail
    go_ret
    exact ⟨rfl, rfl⟩
  · have hne := emp_false (l := l) (by omega)
    by_cases h24 : 24 < l.length
    · rw [isB_long h24]
      go_enter Tryd.func65, Tryd.ntmps65
      go_wp2_with fail
      go_ret
      exact ⟨rfl, rfl⟩
    · rw [isB_mid (by omega) (by omega)]
      obtain ⟨B, hB⟩ : ∃ B, B = l.all okc := ⟨_, rfl⟩
      rw [← hB]
      have HB := Lib.hid hB
      clear hB
      go_enter Tryd.func65, Tryd.ntmps65
      go_wp2_with fail
      go_loop [3, 13] (fun _ i => ∃ k : Nat, k ≤ l.length ∧ i = .int .i64 (k : Int) ∧ Hid ((l.take k).all okc = true)) (fun _ i => l.length - (intOf i).toNat)
      case atStart => exact ⟨0, Nat.zero_le _, rfl, rfl⟩
      case round =>
        obtain ⟨k, hk, rfl, hs⟩ := hrel
        by_cases hlt : k < l.length
        · have hcc : ∀ h : k < (str l).size, ((str l)[k]'h).toNat = (l.getD k 0).toNat := fun h => by rw [k8str_byte]
          obtain ⟨c, hc⟩ : ∃ c, c = l.getD k 0 := ⟨_, rfl⟩
          rw [← hc] at hcc
          have h256 := c.toNat_lt
          have MH := mayHave_any c.toNat h256
          have eo : okc c = okN c.toNat := rfl
          have ht := all_take hlt hs.out
          have hn := all_no hlt
          rw [← hc] at ht hn
          cases hb : okN c.toNat with
          | true =>
            rw [hb] at MH eo
            rw [eo] at ht
            have HT := Lib.hid ht
            generalize c.toNat = m at *
            clear hc hs ht hn eo hb
            go_wp2_with (go_at_call 96; refine (MH _ tab).mono ?_; rintro e w' ⟨rfl, rfl⟩)
            exact ⟨⟨k + 1, by omega, by push_cast; rfl, HT⟩, by simp [intOf]; omega⟩
          | false =>
            rw [hb] at MH eo
            have hno := hn eo
            have HN := Lib.hid hno
            generalize c.toNat = m at *
            clear hc hs ht hn eo hb hno
            go_wp2_with (go_at_call 96; refine (MH _ tab).mono ?_; rintro e w' ⟨rfl, rfl⟩)
            go_ret
            exact ⟨ret_bool (by rw [HB.out, HN.out]), rfl⟩
        · have hall : l.all okc = true := by have := hs.out; rwa [List.take_of_length_le (by omega)] at this
          have HA := Lib.hid hall
          obtain rfl : k = l.length := by omega
          clear hall hs
          go_wp2_with fail
          go_ret
          exact ⟨ret_bool (by rw [HB.out, HA.out]), rfl⟩
set_option maxRecDepth 100000 in
theorem refPattern_any (l : List UInt8) (hl : l.length ≤ maxLen) : Pure 27 #[.string (str l)] (.bool (patB l)) := by
  intro w tab
  have hz : (str l).size = l.length := str_size l
  unfold maxLen at hl
  obtain ⟨B, hB⟩ : ∃ B, B = patB l := ⟨_, rfl⟩
  rw [← hB]
  have HB := Lib.hid hB
  clear hB
  go_enter Tryd.func27, Tryd.ntmps27
  go_wp2_with fail
  go_loop [3] (fun i => ∃ k : Nat, k ≤ l.length ∧ i = .int .i64 (k : Int) ∧ Hid ((l.take k).all okc = true)) (fun i => l.length - (intOf i).toNat)
  case atStart => exact ⟨0, Nat.zero_le _, rfl, rfl⟩
  case round =>
    obtain ⟨k, hk, rfl, hs⟩ := hrel
    by_cases hlt : k < l.length
    · have hcc : ∀ h : k < (str l).size, ((str l)[k]'h).toNat = (l.getD k 0).toNat := fun h => by rw [k8str_byte]
      obtain ⟨c, hc⟩ : ∃ c, c = l.getD k 0 := ⟨_, rfl⟩
      rw [← hc] at hcc
      have h256 := c.toNat_lt
      have MH := sign_any c.toNat h256
      have eo : okc c = okN c.toNat := rfl
      have ht := all_take hlt hs.out
      have hn := all_no hlt
      rw [← hc] at ht hn
      cases hb : okN c.toNat with
      | true =>
        rw [hb] at MH eo
        rw [eo] at ht
        have HT := Lib.hid ht
        generalize c.toNat = m at *
        clear hc hs ht hn eo hb
        go_wp2_with (go_at_call 68; refine (MH _ tab).mono ?_; rintro e w' ⟨rfl, rfl⟩)
        exact ⟨⟨k + 1, by omega, by push_cast; rfl, HT⟩, by simp [intOf]; omega⟩
      | false =>
        rw [hb] at MH eo
        have hno := hn eo
        have HN := Lib.hid hno
        generalize c.toNat = m at *
        clear hc hs ht hn eo hb hno
        go_wp2_with (go_at_call 68; refine (MH _ tab).mono ?_; rintro e w' ⟨rfl, rfl⟩)
        go_ret
        exact ⟨ret_bool (by rw [HB.out]; unfold patB; rw [HN.out, Bool.and_false]), rfl⟩
    · have hall : l.all okc = true := by have := hs.out; rwa [List.take_of_length_le (by omega)] at this
      have HA := Lib.hid hall
      obtain rfl : k = l.length := by omega
      clear hall hs
      by_cases h24 : l.length ≤ 24
      · go_wp2_with fail
        go_ret
        exact ⟨ret_bool (by rw [HB.out]; unfold patB; rw [HA.out]; simp [h24]; omega), rfl⟩
      · go_wp2_with fail
        go_ret
        exact ⟨ret_bool (by rw [HB.out]; unfold patB; rw [HA.out]; simp [h24]; omega), rfl⟩
end Go.Proofs.YtbdfcgffkonbiaaDoor
namespace Go.Proofs.YtbdfcgffkonbiaaDoor
open Go Go.RowKit
set_option linter.unusedVariables false
set_option linter.unusedSimpArgs false
theorem less_str (a b : List UInt8) : Op.bytesLess (str a).toList (str b).toList = ltB a b := by rw [str_tl, str_tl, less_cmp]
theorem eq_str (a b : List UInt8) : ((str a).toList == (str b).toList) = decide (a = b) := by
  rw [str_tl, str_tl]
  by_cases h : a = b
  · subst h; simp
  · simp [h]
set_option maxRecDepth 100000 in
theorem ahead_any (a b : List UInt8) (ha : a.length ≤ maxLen) (hb : b.length ≤ maxLen) : Ret 101 #[.string (str a), .string (str b)] (.bool (ltB a b)) := by
  intro w tab
  unfold maxLen at ha hb
  have h1 : (str a).size = a.length := str_size a
  have h2 : (str b).size = b.length := str_size b
  obtain ⟨B, hB⟩ : ∃ B, B = ltB a b := ⟨_, rfl⟩
  rw [← hB]
  have HB := Lib.hid hB
  clear hB
  go_enter Tryd.func101, Tryd.ntmps101
  go_wp2_with fail
  go_loopw [5] (fun i wr => ∃ k : Nat, k ≤ a.length ∧ k ≤ b.length ∧ i = .int .i64 (k : Int) ∧ Hid (a.take k = b.take k) ∧ Below w.heap.size w wr) (fun i _ => a.length - (intOf i).toNat)
  case atStart => exact ⟨0, Nat.zero_le _, Nat.zero_le _, rfl, rfl, Below.refl _ _⟩
  case round =>
    obtain ⟨k, hka, hkb, rfl, hs, bel⟩ := hrel
    by_cases hlt : k < a.length ∧ k < b.length
    · obtain ⟨hlta, hltb⟩ := hlt
      have hca : ∀ h : k < (str a).size, ((str a)[k]'h).toNat = (a.getD k 0).toNat := fun h => by rw [k8str_byte]
      have hcb : ∀ h : k < (str b).size, ((str b)[k]'h).toNat = (b.getD k 0).toNat := fun h => by rw [k8str_byte]
      have hat := lt_at hlta hltb hs.out
      have hmo := take_more hlta hltb hs.out
      have hm256 := (a.getD k 0).toNat_lt
      have hn256 := (b.getD k 0).toNat_lt
      generalize (a.getD k 0).toNat = m at *
      generalize (b.getD k 0).toNat = n at *
      by_cases he : m = n
      · subst he
        have HM := Lib.hid (hmo rfl)
        clear hs hat hmo
        go_wp2_with fail
        go_quiet (fail)
        have bel := below_drewN (k := nq) bel
        go_wp2_with fail
        exact ⟨⟨k + 1, by omega, by omega, by push_cast; rfl, HM, bel⟩, by simp [intOf]; omega⟩
      · have HT := Lib.hid (hat he)
        have hne : ((m : Int) != (n : Int)) = true := by simpa using (by omega : ¬ (m : Int) = (n : Int))
        have hne2 : ((m : Int) == (n : Int)) = false := by simpa using (by omega : ¬ (m : Int) = (n : Int))
        clear hs hat hmo he
        obtain ⟨G, hG⟩ : ∃ G, decide ((m : Int) < (n : Int)) = G := ⟨_, rfl⟩
        have HG := Lib.hid hG
        clear hG
        go_wp2_with fail
        go_quiet (fail)
        obtain ⟨v, hv⟩ : ∃ v, v = World.drewN wr nq := ⟨_, rfl⟩
        have bel : Below w.heap.size w v := by rw [hv]; exact below_drewN bel
        rw [← hv]
        clear hv
        go_wp2_with fail
        go_quiet (fail)
        have bel := below_drewN (k := nq) bel
        go_wp2_with fail
        go_ret
        exact ⟨ret_bool (by rw [HB.out, HT.out]), bel⟩
    · have HT := Lib.hid (lt_end hka hkb hs.out (by omega))
      clear hs
      have hor : (k < a.length ∧ b.length ≤ k) ∨ a.length ≤ k := by omega
      rcases hor with ⟨h3, h4⟩ | h3
      · go_wp2_with fail
        go_ret
        exact ⟨ret_bool (by rw [HB.out, HT.out]), bel⟩
      · go_wp2_with fail
        go_ret
        exact ⟨ret_bool (by rw [HB.out, HT.out]), bel⟩
end Go.Proofs.YtbdfcgffkonbiaaDoor
namespace Go.Proofs.YtbdfcgffkonbiaaDoor
open Go.RowKit
set_option linter.unusedVariables false
section
variable {P : Program} {ops : Array Oper} {Q : Exit → Act → World → Prop} {md : Region.Mode}
theorem held_mono {S S' : World → Prop} (hS : ∀ w, S' w → S w) : ∀ (fuel : Nat) (listed : Array Bool) (a : Act) (w : World), wpAnyH P md ops Q S' fuel listed a w → wpAnyH P md ops Q S fuel listed a w
  | 0, _, _, _, h => h
  | fuel + 1, _, _, _, h => ⟨h.1, fun i hi => wpOp_mono (fun a' w' h' => ⟨hS _ h'.1, held_mono hS fuel _ a' w' h'.2⟩) (h.2 i hi)⟩
/-- Whatever order is picked from here on, and what is there now stays as it is. -/
def wpG (P : Program) (ops : Array Oper) (Q : Exit → Act → World → Prop) (fuel : Nat) (listed : Array Bool) (a : Act) (w : World) : Prop :=
  wpAnyH P .any ops Q (fun w' => Below w.heap.size w w') fuel listed a w
theorem g_start {id : Nat} {a : Act} {w : World} (hm : P.follows .mixedOrders = true) (h : wpG P ops Q ops.size (Array.replicate ops.size false) a w.drew) : (Code.region id ops true).wp P Q a w :=
  wp_region_held hm h
def stat (ops : Array Oper) (listed : Array Bool) (i : Nat) : Bool := Region.noSelect ops && Region.free .any ops listed i && (Region.ready .any ops listed).contains i
theorem g_take {i : Nat} {oi : Oper} {d : Option Tmp} {v : Value} {fuel : Nat} {listed : Array Bool} {a : Act} {w : World} (hi : ops[i]? = some oi) (hd : oi.dst = d) (hst : stat ops listed i = true)
    (hQ : ∀ c a w, Q (.panic c) (a.put d v) w → Q (.panic c) a w) (hw : Region.wanted oi (yielded ops a.tmps) = true)
    (hy : ∀ w', Below w.heap.size w w' → (execOp a.eval oi).run P w' = .ok (.value v) w')
    (h : wpG P ops Q fuel (listed.setIfInBounds i true) (a.put d v) w) : wpG P ops Q (fuel + 1) listed a w := by
  subst hd
  unfold stat at hst
  rw [Bool.and_eq_true, Bool.and_eq_true] at hst
  exact wpAnyH_take hi hst.1.1 hst.1.2 hst.2 hQ (.inl ⟨hw, hy⟩) (Below.refl _ _) h
theorem g_skip {i : Nat} {oi : Oper} {d : Option Tmp} {fuel : Nat} {listed : Array Bool} {a : Act} {w : World} (hi : ops[i]? = some oi) (hd : oi.dst = d) (hst : stat ops listed i = true)
    (hQ : ∀ c a w, Q (.panic c) (a.put d undef) w → Q (.panic c) a w) (hw : Region.wanted oi (yielded ops a.tmps) = false)
    (h : wpG P ops Q fuel (listed.setIfInBounds i true) (a.put d undef) w) : wpG P ops Q (fuel + 1) listed a w := by
  subst hd
  unfold stat at hst
  rw [Bool.and_eq_true, Bool.and_eq_true] at hst
  exact wpAnyH_take hi hst.1.1 hst.1.2 hst.2 hQ (.inr ⟨hw, rfl⟩) (Below.refl _ _) h
theorem g_run {i : Nat} {oi : Oper} {fuel : Nat} {listed : Array Bool} {a : Act} {w : World} (hi : ops[i]? = some oi) (hr : Region.ready .any ops listed = [i])
    (hw : Region.wanted oi (yielded ops a.tmps) = true)
    (h : ∀ K : Act → World → Prop, (∀ a' w', Below w.heap.size w w' ∧ wpG P ops Q fuel (listed.setIfInBounds i true) a' w' → K a' w') → oi.wp P a w K Q) : wpG P ops Q (fuel + 1) listed a w := by
  refine wpAnyH_all hr (by simp) ?_
  intro j hj
  rw [List.mem_singleton] at hj
  subst hj
  unfold wpOp
  simp only [hi, hw, if_true]
  refine .inl (h _ ?_)
  rintro a' w' ⟨hb, hg⟩
  refine ⟨hb, held_mono ?_ _ _ _ _ hg⟩
  intro w'' hb'
  exact hb.trans (hb'.mono hb.size)
theorem g_done {listed : Array Bool} {fuel : Nat} {a : Act} {w : World} (hr : Region.ready .any ops listed = []) (h : Q .normal a w) : wpG P ops Q fuel listed a w :=
  wpAnyH_done hr h fuel
end
end Go.Proofs.YtbdfcgffkonbiaaDoor
namespace Go.Proofs.YtbdfcgffkonbiaaDoor
open Go Go.RowKit
set_option linter.unusedVariables false
set_option linter.unusedSimpArgs false
theorem rd_block {w : World} {g : Nat} {l : List UInt8} {t : TypeId} (h : w.heap[g]? = some (.cells (l.map bv).toArray t (0, 0))) (hm : l.length ≤ maxLen) : Rd w (.slice (some ⟨g, 0, none⟩) l.length l.length) l := by
  refine ⟨some ⟨g, 0, none⟩, l.length, rfl, Nat.le_refl _, hm, by simp, ?_⟩
  intro _
  refine ⟨g, 0, rfl, lt_of_block h, ?_⟩
  intro i hi
  rw [Nat.zero_add, block_cell h]
  simp [hi]
theorem conv_one {w : World} {g : Nat} {u : UInt8} (h : w.heap[g]? = some (.cells #[.int .u8 (u.toNat : Int)] 5 (0, 0))) : (convert 126 9 (.slice (some ⟨g, 0, none⟩) 1 1)).run Tryd.prog w = .ok (.string (str [u])) w :=
  conv_rd (P := Tryd.prog) (rd_block (l := [u]) h (by simp [maxLen])) 126 5 9 Tryd.underlying126 Tryd.underlying5 Tryd.underlying9
end Go.Proofs.YtbdfcgffkonbiaaDoor
namespace Go.Proofs.YtbdfcgffkonbiaaDoor
open Go Go.RowKit
set_option linter.unusedVariables false
set_option linter.unusedSimpArgs false
set_option maxRecDepth 100000
theorem geq_str (a b : List UInt8) (w : World) : (binOp .geq 9 (.string (str a)) (.string (str b))).run Tryd.prog w = .ok (.bool !ltB a b) w := by
  rw [← less_str]
  simp [binOp, Op.stringOp, go_sem]
theorem pattern_g (l : List UInt8) (E b : Bool) (H1 : Ret 65 #[.string (str l)] (.bool b)) (fE : (str l).toList.isEmpty = E)  : Ret 120 #[.string (str l)] (.bool (E || b)) := by
  intro w tab
  have bel := Below.refl w.heap.size w
  cases E with
  | false =>
    cases b with
    | false =>
      go_enter Tryd.func120, Tryd.ntmps120
      go_wp2_with (first | ((with_reducible refine (H1.at _ tab).mono ?_); rintro e w' ⟨rfl, g⟩; have tab := tab.below g; have bel := chain bel g; clear g))
      go_ret
      exact ⟨rfl, bel⟩
    | true =>
      go_enter Tryd.func120, Tryd.ntmps120
      go_wp2_with (first | ((with_reducible refine (H1.at _ tab).mono ?_); rintro e w' ⟨rfl, g⟩; have tab := tab.below g; have bel := chain bel g; clear g))
      go_ret
      exact ⟨rfl, bel⟩
  | true =>
    go_enter Tryd.func120, Tryd.ntmps120
    go_wp2_with (first | ((with_reducible refine (H1.at _ tab).mono ?_); rintro e w' ⟨rfl, g⟩; have tab := tab.below g; have bel := chain bel g; clear g))
    go_ret
    exact ⟨rfl, bel⟩
theorem refIs_g (l : List UInt8) (hz : 0 < (str l).size) (hm : (str l).size ≤ 9223372036854775807) (b : Bool) (H1 : Ret 27 #[.string (str l)] (.bool b))   : Ret 31 #[.string (str l)] (.bool b) := by
  intro w tab
  have bel := Below.refl w.heap.size w
  cases b with
  | false =>
    go_enter Tryd.func31, Tryd.ntmps31
    go_wp2_with (first | ((with_reducible refine (H1.at _ tab).mono ?_); rintro e w' ⟨rfl, g⟩; have tab := tab.below g; have bel := chain bel g; clear g))
    go_ret
    exact ⟨rfl, bel⟩
  | true =>
    go_enter Tryd.func31, Tryd.ntmps31
    go_wp2_with (first | ((with_reducible refine (H1.at _ tab).mono ?_); rintro e w' ⟨rfl, g⟩; have tab := tab.below g; have bel := chain bel g; clear g))
    go_ret
    exact ⟨rfl, bel⟩
theorem refIn_g (k f t : List UInt8) (b1 b2 b3 L E M : Bool) (H1 : Ret 31 #[.string (str k)] (.bool b1)) (H2 : Ret 27 #[.string (str f)] (.bool b2)) (H3 : Ret 27 #[.string (str t)] (.bool b3)) (H4 : Ret 101 #[.string (str k), .string (str f)] (.bool L)) (H5 : Ret 101 #[.string (str k), .string (str t)] (.bool M)) (fE : (str t).toList.isEmpty = E)  : Ret 70 #[.string (str k), .string (str f), .string (str t)] (.bool (b1 && b2 && b3 && !L && (E || M))) := by
  intro w tab
  have bel := Below.refl w.heap.size w
  cases b1 with
  | false =>
    go_enter Tryd.func70, Tryd.ntmps70
    go_wp2_with (first | ((with_reducible refine (H1.at _ tab).mono ?_); rintro e w' ⟨rfl, g⟩; have tab := tab.below g; have bel := chain bel g; clear g) | ((with_reducible refine (H2.at _ tab).mono ?_); rintro e w' ⟨rfl, g⟩; have tab := tab.below g; have bel := chain bel g; clear g) | ((with_reducible refine (H3.at _ tab).mono ?_); rintro e w' ⟨rfl, g⟩; have tab := tab.below g; have bel := chain bel g; clear g) | ((with_reducible refine (H4.at _ tab).mono ?_); rintro e w' ⟨rfl, g⟩; have tab := tab.below g; have bel := chain bel g; clear g) | ((with_reducible refine (H5.at _ tab).mono ?_); rintro e w' ⟨rfl, g⟩; have tab := tab.below g; have bel := chain bel g; clear g))
    go_ret
    exact ⟨rfl, bel⟩
  | true =>
    cases b2 with
    | false =>
      go_enter Tryd.func70, Tryd.ntmps70
      go_wp2_with (first | ((with_reducible refine (H1.at _ tab).mono ?_); rintro e w' ⟨rfl, g⟩; have tab := tab.below g; have bel := chain bel g; clear g) | ((with_reducible refine (H2.at _ tab).mono ?_); rintro e w' ⟨rfl, g⟩; have tab := tab.below g; have bel := chain bel g; clear g) | ((with_reducible refine (H3.at _ tab).mono ?_); rintro e w' ⟨rfl, g⟩; have tab := tab.below g; have bel := chain bel g; clear g) | ((with_reducible refine (H4.at _ tab).mono ?_); rintro e w' ⟨rfl, g⟩; have tab := tab.below g; have bel := chain bel g; clear g) | ((with_reducible refine (H5.at _ tab).mono ?_); rintro e w' ⟨rfl, g⟩; have tab := tab.below g; have bel := chain bel g; clear g))
      go_ret
      exact ⟨rfl, bel⟩
    | true =>
      cases b3 with
      | false =>
        go_enter Tryd.func70, Tryd.ntmps70
        go_wp2_with (first | ((with_reducible refine (H1.at _ tab).mono ?_); rintro e w' ⟨rfl, g⟩; have tab := tab.below g; have bel := chain bel g; clear g) | ((with_reducible refine (H2.at _ tab).mono ?_); rintro e w' ⟨rfl, g⟩; have tab := tab.below g; have bel := chain bel g; clear g) | ((with_reducible refine (H3.at _ tab).mono ?_); rintro e w' ⟨rfl, g⟩; have tab := tab.below g; have bel := chain bel g; clear g) | ((with_reducible refine (H4.at _ tab).mono ?_); rintro e w' ⟨rfl, g⟩; have tab := tab.below g; have bel := chain bel g; clear g) | ((with_reducible refine (H5.at _ tab).mono ?_); rintro e w' ⟨rfl, g⟩; have tab := tab.below g; have bel := chain bel g; clear g))
        go_ret
        exact ⟨rfl, bel⟩
      | true =>
        cases L with
        | false =>
          cases E with
          | false =>
            cases M with
            | false =>
              go_enter Tryd.func70, Tryd.ntmps70
              go_wp2_with (first | ((with_reducible refine (H1.at _ tab).mono ?_); rintro e w' ⟨rfl, g⟩; have tab := tab.below g; have bel := chain bel g; clear g) | ((with_reducible refine (H2.at _ tab).mono ?_); rintro e w' ⟨rfl, g⟩; have tab := tab.below g; have bel := chain bel g; clear g) | ((with_reducible refine (H3.at _ tab).mono ?_); rintro e w' ⟨rfl, g⟩; have tab := tab.below g; have bel := chain bel g; clear g) | ((with_reducible refine (H4.at _ tab).mono ?_); rintro e w' ⟨rfl, g⟩; have tab := tab.below g; have bel := chain bel g; clear g) | ((with_reducible refine (H5.at _ tab).mono ?_); rintro e w' ⟨rfl, g⟩; have tab := tab.below g; have bel := chain bel g; clear g))
              go_ret
              exact ⟨rfl, bel⟩
            | true =>
              go_enter Tryd.func70, Tryd.ntmps70
              go_wp2_with (first | ((with_reducible refine (H1.at _ tab).mono ?_); rintro e w' ⟨rfl, g⟩; have tab := tab.below g; have bel := chain bel g; clear g) | ((with_reducible refine (H2.at _ tab).mono ?_); rintro e w' ⟨rfl, g⟩; have tab := tab.below g; have bel := chain bel g; clear g) | ((with_reducible refine (H3.at _ tab).mono ?_); rintro e w' ⟨rfl, g⟩; have tab := tab.below g; have bel := chain bel g; clear g) | ((with_reducible refine (H4.at _ tab).mono ?_); rintro e w' ⟨rfl, g⟩; have tab := tab.below g; have bel := chain bel g; clear g) | ((with_reducible refine (H5.at _ tab).mono ?_); rintro e w' ⟨rfl, g⟩; have tab := tab.below g; have bel := chain bel g; clear g))
              go_ret
              exact ⟨rfl, bel⟩
          | true =>
            go_enter Tryd.func70, Tryd.ntmps70
            go_wp2_with (first | ((with_reducible refine (H1.at _ tab).mono ?_); rintro e w' ⟨rfl, g⟩; have tab := tab.below g; have bel := chain bel g; clear g) | ((with_reducible refine (H2.at _ tab).mono ?_); rintro e w' ⟨rfl, g⟩; have tab := tab.below g; have bel := chain bel g; clear g) | ((with_reducible refine (H3.at _ tab).mono ?_); rintro e w' ⟨rfl, g⟩; have tab := tab.below g; have bel := chain bel g; clear g) | ((with_reducible refine (H4.at _ tab).mono ?_); rintro e w' ⟨rfl, g⟩; have tab := tab.below g; have bel := chain bel g; clear g) | ((with_reducible refine (H5.at _ tab).mono ?_); rintro e w' ⟨rfl, g⟩; have tab := tab.below g; have bel := chain bel g; clear g))
            go_ret
            exact ⟨rfl, bel⟩
        | true =>
          go_enter Tryd.func70, Tryd.ntmps70
          go_wp2_with (first | ((with_reducible refine (H1.at _ tab).mono ?_); rintro e w' ⟨rfl, g⟩; have tab := tab.below g; have bel := chain bel g; clear g) | ((with_reducible refine (H2.at _ tab).mono ?_); rintro e w' ⟨rfl, g⟩; have tab := tab.below g; have bel := chain bel g; clear g) | ((with_reducible refine (H3.at _ tab).mono ?_); rintro e w' ⟨rfl, g⟩; have tab := tab.below g; have bel := chain bel g; clear g) | ((with_reducible refine (H4.at _ tab).mono ?_); rintro e w' ⟨rfl, g⟩; have tab := tab.below g; have bel := chain bel g; clear g) | ((with_reducible refine (H5.at _ tab).mono ?_); rintro e w' ⟨rfl, g⟩; have tab := tab.below g; have bel := chain bel g; clear g))
          go_ret
          exact ⟨rfl, bel⟩
end Go.Proofs.YtbdfcgffkonbiaaDoor
namespace Go.Proofs.YtbdfcgffkonbiaaDoor
open Go Go.RowKit
set_option linter.unusedVariables false
set_option linter.unusedSimpArgs false
theorem bool_cast {f : Nat} {args : Array Value} {b b' : Bool} (h : Ret f args (.bool b)) (e : b = b') : Ret f args (.bool b') := e ▸ h
theorem emp_eq (l : List UInt8) : (str l).toList.isEmpty = decide (l = []) := by rw [str_tl]; cases l <;> rfl
theorem isB_pos {l : List UInt8} (h : l ≠ []) : isB l = patB l := by
  have : 0 < l.length := List.length_pos_iff.2 h
  simp [isB, this]
theorem pattern_any (l : List UInt8) (hl : l.length ≤ maxLen) : Ret 120 #[.string (str l)] (.bool (patB l)) := by
  refine bool_cast (pattern_g l _ _ (is_any l hl).ret (emp_eq l)) ?_
  by_cases h : l = []
  · subst h; rfl
  · rw [isB_pos h]; simp [h]
theorem refIs_any (l : List UInt8) (hl : l.length ≤ maxLen) : Ret 31 #[.string (str l)] (.bool (isB l)) := by
  have hz := str_size l
  have hl2 := hl
  unfold maxLen at hl2
  by_cases h : l = []
  · subst h
    intro w tab
    have hz0 : (str []).size = 0 := str_size []
    clear hz hl hl2
    rw [isB_nil]
    go_enter Tryd.func31, Tryd.ntmps31
    go_wp2_with fail
    go_ret
    exact ⟨rfl, Below.refl _ _⟩
  · have h0 : 0 < l.length := List.length_pos_iff.2 h
    exact bool_cast (refIs_g l (by omega) (by omega) _ (refPattern_any l hl).ret) (isB_pos h).symm
theorem refIn_any (k f t : List UInt8) (hk : k.length ≤ maxLen) (hf : f.length ≤ maxLen) (ht : t.length ≤ maxLen) : Ret 70 #[.string (str k), .string (str f), .string (str t)] (.bool (isB k && patB f && patB t && !ltB k f && (decide (t = []) || ltB k t))) :=
  refIn_g k f t _ _ _ _ _ _ (refIs_any k hk) (refPattern_any f hf).ret (refPattern_any t ht).ret (ahead_any k f hk hf) (ahead_any k t hk ht) (emp_eq t)
/-- May a text be the end of a range? -/
def stopB (l : List UInt8) : Bool := patB l || (!decide (l = []) && isB (shiftL l 255))
def overB (f t p : List UInt8) : Bool := patB f && patB p && stopB t && (decide (endL p = []) || ltB f (endL p)) && (decide (t = []) || ltB p t)
end Go.Proofs.YtbdfcgffkonbiaaDoor
namespace Go.Proofs.YtbdfcgffkonbiaaDoor.V7
open Go.RowKit
set_option linter.unusedVariables false
set_option linter.unusedSimpArgs false
theorem str_tl (l : List UInt8) : (str l).toList = l := by unfold str; simp
theorem ret_bool {a b : Bool} (h : a = b) : Ending.returned (.bool a) = Ending.returned (.bool b) := by rw [h]
set_option maxRecDepth 100000 in
theorem may_any (k i : Int) (s : List UInt8) (w : World) (hs : s.length ≤ maxLen) :
    Calls Tryd.prog 74 #[.agg #[.int .i64 k, .int .i64 i, .string (str s)]] w fun e w' => e = .returned (.bool (mayB ⟨k, i, s⟩)) ∧ Below w.heap.size w w' := by
  unfold maxLen at hs
  have bel : ∀ o, Below w.heap.size w (w.alloc o) := fun o => (Below.refl _ _).alloc (Nat.le_refl _) o
  have BEL := Lib.hid bel
  clear bel
  have hz : (str s).size = s.length := str_size s
  go_enter Tryd.func74, Tryd.ntmps74
  go_wp2_with fail
  all_goals
    go_ret
    refine ⟨ret_bool ?_, BEL.out _⟩
    clear BEL hz
    rw [Bool.eq_iff_iff]
    simp only [mayB, str_tl, decide_eq_true_eq, List.isEmpty_iff]
    simp only [bne_iff_ne, beq_iff_eq, bne_eq_false_iff_eq, beq_eq_false_iff_ne, ne_eq, Bool.false_eq_true, false_iff, not_or, not_and] at *
    first | omega | (simp_all; done) | (simp_all; omega)
end Go.Proofs.YtbdfcgffkonbiaaDoor.V7
namespace Go.Proofs.YtbdfcgffkonbiaaDoor.V7
open Go.RowKit
set_option linter.unusedVariables false
set_option linter.unusedSimpArgs false
/-- A value as the program has it. -/
def vv (k i : Int) (s : List UInt8) : Value := .agg #[.int .i64 k, .int .i64 i, .string (str s)]
theorem str_e : (ByteArray.mk #[]) = str [] := rfl
theorem refInt_any (n : Int) (w : World) :
    Calls Tryd.prog 61 #[.int .i64 n] w fun e w' => e = .returned (.agg #[.int .i64 2, .int .i64 n, .string (str [])]) ∧ Below w.heap.size w w' := by
  go_enter Tryd.func61, Tryd.ntmps61
  go_wp2_with fail
  refine bodyPost_ret (v := .agg #[.int .i64 2, .int .i64 n, .string (str [])]) (by simp [results, Tryd.results61, go_sem, str_e]) rfl ⟨rfl, ?_⟩
  exact (Below.refl _ _).alloc (Nat.le_refl _) _
end Go.Proofs.YtbdfcgffkonbiaaDoor.V7
namespace Go.Proofs.YtbdfcgffkonbiaaDoor.V7
open Go.RowKit
set_option linter.unusedVariables false
set_option linter.unusedSimpArgs false
set_option maxRecDepth 100000 in
set_option maxHeartbeats 400000 in
theorem refMay_any (k i : Int) (s : List UInt8) (w : World) (hs : s.length ≤ maxLen) :
    Calls Tryd.prog 105 #[.agg #[.int .i64 k, .int .i64 i, .string (str s)]] w fun e w' => e = .returned (.bool (mayB ⟨k, i, s⟩)) ∧ Below w.heap.size w w' := by
  unfold maxLen at hs
  have bel : ∀ o, Below w.heap.size w (w.alloc o) := fun o => (Below.refl _ _).alloc (Nat.le_refl _) o
  have BEL := Lib.hid bel
  clear bel
  have hz : (str s).size = s.length := str_size s
  rcases (show (k = 0) ∨ (k = 1) ∨ (k = 2) ∨ (k = 3) ∨ ((k == 0) = false ∧ (k == 1) = false ∧ (k == 2) = false ∧ (k == 3) = false) by
    by_cases h0 : k = 0
    · exact .inl h0
    · by_cases h1 : k = 1
      · exact .inr (.inl h1)
      · by_cases h2 : k = 2
        · exact .inr (.inr (.inl h2))
        · by_cases h3 : k = 3
          · exact .inr (.inr (.inr (.inl h3)))
          · exact .inr (.inr (.inr (.inr ⟨by simpa using h0, by simpa using h1, by simpa using h2, by simpa using h3⟩)))) with rfl | rfl | rfl | rfl | ⟨h0, h1, h2, h3⟩
  all_goals
    go_enter Tryd.func105, Tryd.ntmps105
    go_wp2_with fail
    all_goals
      go_ret
      refine ⟨ret_bool ?_, BEL.out _⟩
      clear BEL hz
      rw [Bool.eq_iff_iff]
      simp only [mayB, str_tl, decide_eq_true_eq, List.isEmpty_iff]
      try simp only [bne_iff_ne, beq_iff_eq, bne_eq_false_iff_eq, beq_eq_false_iff_ne, ne_eq, Bool.false_eq_true, false_iff, not_or, not_and] at *
      first | omega | (simp_all; done) | (simp_all [str_tl]; done) | (simp_all [str_tl]; omega)
end Go.Proofs.YtbdfcgffkonbiaaDoor.V7
