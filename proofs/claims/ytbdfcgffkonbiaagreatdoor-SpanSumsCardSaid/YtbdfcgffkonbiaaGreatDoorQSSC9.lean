/- A region whose order is open, walked once: what only reads is taken first, since what was there stays as it was; what runs comes in the one order that its edges leave. -/
/- Keys: a text with its last byte turned. Written by wip/tools/gen8d.py. -/
/- Keys: the calls that ask one thing behind the other. Written by wip/tools/gen8e.py. -/
import Derived.Test.YtbdfcgffkonbiaaGreatDoorQSSC5
import Derived.OrdersHeld
import Derived.Deep.RegionWith
import Derived.Test.YtbdfcgffkonbiaaGreatDoorQSSC8
namespace Go.Proofs.YtbdfcgffkonbiaaGreatDoor
open Go.RowKit
set_option linter.unusedVariables false
section
variable {P : Program} {ops : Array Oper} {Q : Exit → Act → World → Prop} {md : Region.Mode}
theorem held_mono {S S' : World → Prop} (hS : ∀ w, S' w → S w) : ∀ (fuel : Nat) (listed : Array Bool) (a : Act) (w : World), wpAnyH P md ops Q S' fuel listed a w → wpAnyH P md ops Q S fuel listed a w
  | 0, _, _, _, h => h
  | fuel + 1, _, _, _, h => ⟨h.1, fun i hi => wpOp_mono (fun a' w' h' => ⟨hS _ h'.1, held_mono hS fuel _ a' w' h'.2⟩) (h.2 i hi)⟩
/-- Whatever order is picked from here on, and what is there now stays as it is. -/
def wpG (P : Program) (ops : Array Oper) (Q : Exit → Act → World → Prop) (fuel : Nat) (listed : Array Bool) (a : Act) (w : World) : Prop :=
  wpAnyH P .any ops Q (fun w' => Below w.heap.size w w') fuel listed a w
theorem g_start {id : Nat} {a : Act} {w : World} (hm : P.follows .mixedOrders = true) (h : wpG P ops Q ops.size (Array.replicate ops.size false) a w.drew) : (Code.region id ops true).wp P Q a w :=
  wp_region_held hm h
def stat (ops : Array Oper) (listed : Array Bool) (i : Nat) : Bool := Region.noSelect ops && Region.free .any ops listed i && (Region.ready .any ops listed).contains i
theorem g_take {i : Nat} {oi : Oper} {d : Option Tmp} {v : Value} {fuel : Nat} {listed : Array Bool} {a : Act} {w : World} (hi : ops[i]? = some oi) (hd : oi.dst = d) (hst : stat ops listed i = true)
    (hQ : ∀ c a w, Q (.panic c) (a.put d v) w → Q (.panic c) a w) (hw : Region.wanted oi (yielded ops a.tmps) = true)
    (hy : ∀ w', Below w.heap.size w w' → (execOp a.eval oi).run P w' = .ok (.value v) w')
    (h : wpG P ops Q fuel (listed.setIfInBounds i true) (a.put d v) w) : wpG P ops Q (fuel + 1) listed a w := by
  subst hd
  unfold stat at hst
  rw [Bool.and_eq_true, Bool.and_eq_true] at hst
  exact wpAnyH_take hi hst.1.1 hst.1.2 hst.2 hQ (.inl ⟨hw, hy⟩) (Below.refl _ _) h
theorem g_skip {i : Nat} {oi : Oper} {d : Option Tmp} {fuel : Nat} {listed : Array Bool} {a : Act} {w : World} (hi : ops[i]? = some oi) (hd : oi.dst = d) (hst : stat ops listed i = true)
    (hQ : ∀ c a w, Q (.panic c) (a.put d undef) w → Q (.panic c) a w) (hw : Region.wanted oi (yielded ops a.tmps) = false)
    (h : wpG P ops Q fuel (listed.setIfInBounds i true) (a.put d undef) w) : wpG P ops Q (fuel + 1) listed a w := by
  subst hd
  unfold stat at hst
  rw [Bool.and_eq_true, Bool.and_eq_true] at hst
  exact wpAnyH_take hi hst.1.1 hst.1.2 hst.2 hQ (.inr ⟨hw, rfl⟩) (Below.refl _ _) h
theorem g_run {i : Nat} {oi : Oper} {fuel : Nat} {listed : Array Bool} {a : Act} {w : World} (hi : ops[i]? = some oi) (hr : Region.ready .any ops listed = [i])
    (hw : Region.wanted oi (yielded ops a.tmps) = true)
    (h : ∀ K : Act → World → Prop, (∀ a' w', Below w.heap.size w w' ∧ wpG P ops Q fuel (listed.setIfInBounds i true) a' w' → K a' w') → oi.wp P a w K Q) : wpG P ops Q (fuel + 1) listed a w := by
  refine wpAnyH_all hr (by simp) ?_
  intro j hj
  rw [List.mem_singleton] at hj
  subst hj
  unfold wpOp
  simp only [hi, hw, if_true]
  refine .inl (h _ ?_)
  rintro a' w' ⟨hb, hg⟩
  refine ⟨hb, held_mono ?_ _ _ _ _ hg⟩
  intro w'' hb'
  exact hb.trans (hb'.mono hb.size)
theorem g_run2 {i k : Nat} {oi ok : Oper} {fuel : Nat} {listed : Array Bool} {a : Act} {w : World} (hi : ops[i]? = some oi) (hk : ops[k]? = some ok) (hr : Region.ready .any ops listed = [i, k])
    (hwi : Region.wanted oi (yielded ops a.tmps) = true) (hwk : Region.wanted ok (yielded ops a.tmps) = true)
    (h1 : ∀ K : Act → World → Prop, (∀ a' w', Below w.heap.size w w' ∧ wpG P ops Q fuel (listed.setIfInBounds i true) a' w' → K a' w') → oi.wp P a w K Q)
    (h2 : ∀ K : Act → World → Prop, (∀ a' w', Below w.heap.size w w' ∧ wpG P ops Q fuel (listed.setIfInBounds k true) a' w' → K a' w') → ok.wp P a w K Q) : wpG P ops Q (fuel + 1) listed a w := by
  refine wpAnyH_all hr (by simp) ?_
  intro j hj
  rw [List.mem_cons, List.mem_singleton] at hj
  rcases hj with rfl | rfl
  · unfold wpOp
    simp only [hi, hwi, if_true]
    refine .inl (h1 _ ?_)
    rintro a' w' ⟨hb, hg⟩
    exact ⟨hb, held_mono (fun w'' h'' => hb.trans (h''.mono hb.size)) _ _ _ _ hg⟩
  · unfold wpOp
    simp only [hk, hwk, if_true]
    refine .inl (h2 _ ?_)
    rintro a' w' ⟨hb, hg⟩
    exact ⟨hb, held_mono (fun w'' h'' => hb.trans (h''.mono hb.size)) _ _ _ _ hg⟩
theorem g_done {listed : Array Bool} {fuel : Nat} {a : Act} {w : World} (hr : Region.ready .any ops listed = []) (h : Q .normal a w) : wpG P ops Q fuel listed a w :=
  wpAnyH_done hr h fuel
end
end Go.Proofs.YtbdfcgffkonbiaaGreatDoor
namespace Go.Proofs.YtbdfcgffkonbiaaGreatDoor
open Go Go.RowKit
set_option linter.unusedVariables false
set_option linter.unusedSimpArgs false
theorem rd_block {w : World} {g : Nat} {l : List UInt8} {t : TypeId} (h : w.heap[g]? = some (.cells (l.map bv).toArray t (0, 0))) (hm : l.length ≤ maxLen) : Rd w (.slice (some ⟨g, 0, none⟩) l.length l.length) l := by
  refine ⟨some ⟨g, 0, none⟩, l.length, rfl, Nat.le_refl _, hm, by simp, ?_⟩
  intro _
  refine ⟨g, 0, rfl, lt_of_block h, ?_⟩
  intro i hi
  rw [Nat.zero_add, block_cell h]
  simp [hi]
theorem conv_one {w : World} {g : Nat} {u : UInt8} (h : w.heap[g]? = some (.cells #[.int .u8 (u.toNat : Int)] 5 (0, 0))) : (convert 129 9 (.slice (some ⟨g, 0, none⟩) 1 1)).run Tryz.prog w = .ok (.string (str [u])) w :=
  conv_rd (P := Tryz.prog) (rd_block (l := [u]) h (by simp [maxLen])) 129 5 9 Tryz.underlying129 Tryz.underlying5 Tryz.underlying9
end Go.Proofs.YtbdfcgffkonbiaaGreatDoor
namespace Go.Proofs.YtbdfcgffkonbiaaGreatDoor
open Go Go.RowKit
set_option linter.unusedVariables false
set_option linter.unusedSimpArgs false
set_option maxRecDepth 100000
theorem geq_str (a b : List UInt8) (w : World) : (binOp .geq 9 (.string (str a)) (.string (str b))).run Tryz.prog w = .ok (.bool !ltB a b) w := by
  rw [← less_str]
  simp [binOp, Op.stringOp, go_sem]
theorem pattern_g (l : List UInt8) (E b : Bool) (H1 : Ret 55 #[.string (str l)] (.bool b)) (fE : (str l).toList.isEmpty = E)  : Ret 28 #[.string (str l)] (.bool (E || b)) := by
  intro w tab
  have bel := Below.refl w.heap.size w
  cases E with
  | false =>
    cases b with
    | false =>
      go_enter Tryz.func28, Tryz.ntmps28
      go_wp2_with (first | ((with_reducible refine (H1.at _ tab).mono ?_); rintro e w' ⟨rfl, g⟩; have tab := tab.below g; have bel := chain bel g; clear g))
      go_ret
      exact ⟨rfl, bel⟩
    | true =>
      go_enter Tryz.func28, Tryz.ntmps28
      go_wp2_with (first | ((with_reducible refine (H1.at _ tab).mono ?_); rintro e w' ⟨rfl, g⟩; have tab := tab.below g; have bel := chain bel g; clear g))
      go_ret
      exact ⟨rfl, bel⟩
  | true =>
    go_enter Tryz.func28, Tryz.ntmps28
    go_wp2_with (first | ((with_reducible refine (H1.at _ tab).mono ?_); rintro e w' ⟨rfl, g⟩; have tab := tab.below g; have bel := chain bel g; clear g))
    go_ret
    exact ⟨rfl, bel⟩
theorem refIs_g (l : List UInt8) (hz : 0 < (str l).size) (hm : (str l).size ≤ 9223372036854775807) (b : Bool) (H1 : Ret 15 #[.string (str l)] (.bool b))   : Ret 51 #[.string (str l)] (.bool b) := by
  intro w tab
  have bel := Below.refl w.heap.size w
  cases b with
  | false =>
    go_enter Tryz.func51, Tryz.ntmps51
    go_wp2_with (first | ((with_reducible refine (H1.at _ tab).mono ?_); rintro e w' ⟨rfl, g⟩; have tab := tab.below g; have bel := chain bel g; clear g))
    go_ret
    exact ⟨rfl, bel⟩
  | true =>
    go_enter Tryz.func51, Tryz.ntmps51
    go_wp2_with (first | ((with_reducible refine (H1.at _ tab).mono ?_); rintro e w' ⟨rfl, g⟩; have tab := tab.below g; have bel := chain bel g; clear g))
    go_ret
    exact ⟨rfl, bel⟩
theorem refIn_g (k f t : List UInt8) (b1 b2 b3 L E M : Bool) (H1 : Ret 51 #[.string (str k)] (.bool b1)) (H2 : Ret 15 #[.string (str f)] (.bool b2)) (H3 : Ret 15 #[.string (str t)] (.bool b3)) (H4 : Ret 52 #[.string (str k), .string (str f)] (.bool L)) (H5 : Ret 52 #[.string (str k), .string (str t)] (.bool M)) (fE : (str t).toList.isEmpty = E)  : Ret 25 #[.string (str k), .string (str f), .string (str t)] (.bool (b1 && b2 && b3 && !L && (E || M))) := by
  intro w tab
  have bel := Below.refl w.heap.size w
  cases b1 with
  | false =>
    go_enter Tryz.func25, Tryz.ntmps25
    go_wp2_with (first | ((with_reducible refine (H1.at _ tab).mono ?_); rintro e w' ⟨rfl, g⟩; have tab := tab.below g; have bel := chain bel g; clear g) | ((with_reducible refine (H2.at _ tab).mono ?_); rintro e w' ⟨rfl, g⟩; have tab := tab.below g; have bel := chain bel g; clear g) | ((with_reducible refine (H3.at _ tab).mono ?_); rintro e w' ⟨rfl, g⟩; have tab := tab.below g; have bel := chain bel g; clear g) | ((with_reducible refine (H4.at _ tab).mono ?_); rintro e w' ⟨rfl, g⟩; have tab := tab.below g; have bel := chain bel g; clear g) | ((with_reducible refine (H5.at _ tab).mono ?_); rintro e w' ⟨rfl, g⟩; have tab := tab.below g; have bel := chain bel g; clear g))
    go_ret
    exact ⟨rfl, bel⟩
  | true =>
    cases b2 with
    | false =>
      go_enter Tryz.func25, Tryz.ntmps25
      go_wp2_with (first | ((with_reducible refine (H1.at _ tab).mono ?_); rintro e w' ⟨rfl, g⟩; have tab := tab.below g; have bel := chain bel g; clear g) | ((with_reducible refine (H2.at _ tab).mono ?_); rintro e w' ⟨rfl, g⟩; have tab := tab.below g; have bel := chain bel g; clear g) | ((with_reducible refine (H3.at _ tab).mono ?_); rintro e w' ⟨rfl, g⟩; have tab := tab.below g; have bel := chain bel g; clear g) | ((with_reducible refine (H4.at _ tab).mono ?_); rintro e w' ⟨rfl, g⟩; have tab := tab.below g; have bel := chain bel g; clear g) | ((with_reducible refine (H5.at _ tab).mono ?_); rintro e w' ⟨rfl, g⟩; have tab := tab.below g; have bel := chain bel g; clear g))
      go_ret
      exact ⟨rfl, bel⟩
    | true =>
      cases b3 with
      | false =>
        go_enter Tryz.func25, Tryz.ntmps25
        go_wp2_with (first | ((with_reducible refine (H1.at _ tab).mono ?_); rintro e w' ⟨rfl, g⟩; have tab := tab.below g; have bel := chain bel g; clear g) | ((with_reducible refine (H2.at _ tab).mono ?_); rintro e w' ⟨rfl, g⟩; have tab := tab.below g; have bel := chain bel g; clear g) | ((with_reducible refine (H3.at _ tab).mono ?_); rintro e w' ⟨rfl, g⟩; have tab := tab.below g; have bel := chain bel g; clear g) | ((with_reducible refine (H4.at _ tab).mono ?_); rintro e w' ⟨rfl, g⟩; have tab := tab.below g; have bel := chain bel g; clear g) | ((with_reducible refine (H5.at _ tab).mono ?_); rintro e w' ⟨rfl, g⟩; have tab := tab.below g; have bel := chain bel g; clear g))
        go_ret
        exact ⟨rfl, bel⟩
      | true =>
        cases L with
        | false =>
          cases E with
          | false =>
            cases M with
            | false =>
              go_enter Tryz.func25, Tryz.ntmps25
              go_wp2_with (first | ((with_reducible refine (H1.at _ tab).mono ?_); rintro e w' ⟨rfl, g⟩; have tab := tab.below g; have bel := chain bel g; clear g) | ((with_reducible refine (H2.at _ tab).mono ?_); rintro e w' ⟨rfl, g⟩; have tab := tab.below g; have bel := chain bel g; clear g) | ((with_reducible refine (H3.at _ tab).mono ?_); rintro e w' ⟨rfl, g⟩; have tab := tab.below g; have bel := chain bel g; clear g) | ((with_reducible refine (H4.at _ tab).mono ?_); rintro e w' ⟨rfl, g⟩; have tab := tab.below g; have bel := chain bel g; clear g) | ((with_reducible refine (H5.at _ tab).mono ?_); rintro e w' ⟨rfl, g⟩; have tab := tab.below g; have bel := chain bel g; clear g))
              go_ret
              exact ⟨rfl, bel⟩
            | true =>
              go_enter Tryz.func25, Tryz.ntmps25
              go_wp2_with (first | ((with_reducible refine (H1.at _ tab).mono ?_); rintro e w' ⟨rfl, g⟩; have tab := tab.below g; have bel := chain bel g; clear g) | ((with_reducible refine (H2.at _ tab).mono ?_); rintro e w' ⟨rfl, g⟩; have tab := tab.below g; have bel := chain bel g; clear g) | ((with_reducible refine (H3.at _ tab).mono ?_); rintro e w' ⟨rfl, g⟩; have tab := tab.below g; have bel := chain bel g; clear g) | ((with_reducible refine (H4.at _ tab).mono ?_); rintro e w' ⟨rfl, g⟩; have tab := tab.below g; have bel := chain bel g; clear g) | ((with_reducible refine (H5.at _ tab).mono ?_); rintro e w' ⟨rfl, g⟩; have tab := tab.below g; have bel := chain bel g; clear g))
              go_ret
              exact ⟨rfl, bel⟩
          | true =>
            go_enter Tryz.func25, Tryz.ntmps25
            go_wp2_with (first | ((with_reducible refine (H1.at _ tab).mono ?_); rintro e w' ⟨rfl, g⟩; have tab := tab.below g; have bel := chain bel g; clear g) | ((with_reducible refine (H2.at _ tab).mono ?_); rintro e w' ⟨rfl, g⟩; have tab := tab.below g; have bel := chain bel g; clear g) | ((with_reducible refine (H3.at _ tab).mono ?_); rintro e w' ⟨rfl, g⟩; have tab := tab.below g; have bel := chain bel g; clear g) | ((with_reducible refine (H4.at _ tab).mono ?_); rintro e w' ⟨rfl, g⟩; have tab := tab.below g; have bel := chain bel g; clear g) | ((with_reducible refine (H5.at _ tab).mono ?_); rintro e w' ⟨rfl, g⟩; have tab := tab.below g; have bel := chain bel g; clear g))
            go_ret
            exact ⟨rfl, bel⟩
        | true =>
          go_enter Tryz.func25, Tryz.ntmps25
          go_wp2_with (first | ((with_reducible refine (H1.at _ tab).mono ?_); rintro e w' ⟨rfl, g⟩; have tab := tab.below g; have bel := chain bel g; clear g) | ((with_reducible refine (H2.at _ tab).mono ?_); rintro e w' ⟨rfl, g⟩; have tab := tab.below g; have bel := chain bel g; clear g) | ((with_reducible refine (H3.at _ tab).mono ?_); rintro e w' ⟨rfl, g⟩; have tab := tab.below g; have bel := chain bel g; clear g) | ((with_reducible refine (H4.at _ tab).mono ?_); rintro e w' ⟨rfl, g⟩; have tab := tab.below g; have bel := chain bel g; clear g) | ((with_reducible refine (H5.at _ tab).mono ?_); rintro e w' ⟨rfl, g⟩; have tab := tab.below g; have bel := chain bel g; clear g))
          go_ret
          exact ⟨rfl, bel⟩
end Go.Proofs.YtbdfcgffkonbiaaGreatDoor
