/- A region whose order is open, walked once under a condition on the world that is chosen for it: what only reads under it is taken first. -/
/- A region whose order is open, walked once, its last operation whatever it is (a store, say): what only reads is taken first, since ahead of the last operation what was there stays as it was; what runs comes in the one order that its edges leave. -/
/- Trunks: the chapter's examples. Written by wip/tools/gen10j.py. -/
/- Trunks: what a change hands back, whatever comes behind it; the document's Bucket and Get. Written by wip/tools/gen10k.py. -/
import Derived.Test.YtbdfcgffkonbiaaDoorQST4
import Derived.Test.YtbdfcgffkonbiaaDoorQST2
import Derived.OrdersHeld
import Derived.StillTail
import Derived.Deep.RegionWith
import Derived.Test.YtbdfcgffkonbiaaDoorQST20
namespace Go.Proofs.YtbdfcgffkonbiaaDoor
open Go.RowKit
set_option linter.unusedVariables false
/-- What is left: what was there, but for two blocks, is as it was. -/
structure Two (w w' : World) (g b : Nat) : Prop where
  size : w.heap.size ≤ w'.heap.size
  os : w'.os = w.os
  tape : w'.tape = w.tape
  output : w'.output = w.output
  block : ∀ k, k < w.heap.size → k ≠ g → k ≠ b → w'.heap[k]? = w.heap[k]?
theorem Two.refl (w : World) (g b : Nat) : Two w w g b := ⟨Nat.le_refl _, rfl, rfl, rfl, fun _ _ _ _ => rfl⟩
theorem Two.below {w x y : World} {g b : Nat} (h : Two w x g b) (k : Below x.heap.size x y) : Two w y g b :=
  ⟨Nat.le_trans h.size k.size, k.os.trans h.os, k.tape.trans h.tape, k.output.trans h.output, fun i hi h1 h2 => (k.block i (Nat.lt_of_lt_of_le hi h.size)).trans (h.block i hi h1 h2)⟩
theorem Two.grown {w x y : World} {g b : Nat} (h : Two w x g b) (k : x.grownBy y (some g)) : Two w y g b :=
  ⟨Nat.le_trans h.size k.size, k.os.trans h.os, k.tape.trans h.tape, k.output.trans h.output, fun i hi h1 h2 => (k.block i (Nat.lt_of_lt_of_le hi h.size) (by simp; first | exact h1 | exact fun e => h1 e.symm)).trans (h.block i hi h1 h2)⟩
section
variable {P : Program} {ops : Array Oper} {Q : Exit → Act → World → Prop} {S : World → Prop}
theorem gs_start {id : Nat} {a : Act} {w : World} (hm : P.follows .mixedOrders = true) (h : wpAnyH P .any ops Q S ops.size (Array.replicate ops.size false) a w.drew) : (Code.region id ops true).wp P Q a w :=
  wp_region_held hm h
theorem gs_take {i : Nat} {oi : Oper} {d : Option Tmp} {v : Value} {fuel : Nat} {listed : Array Bool} {a : Act} {w : World} (hi : ops[i]? = some oi) (hd : oi.dst = d) (hst : stat ops listed i = true)
    (hQ : ∀ c a w, Q (.panic c) (a.put d v) w → Q (.panic c) a w) (hw : Region.wanted oi (yielded ops a.tmps) = true) (hS : S w)
    (hy : ∀ w', S w' → (execOp a.eval oi).run P w' = .ok (.value v) w')
    (h : wpAnyH P .any ops Q S fuel (listed.setIfInBounds i true) (a.put d v) w) : wpAnyH P .any ops Q S (fuel + 1) listed a w := by
  subst hd
  unfold stat at hst
  rw [Bool.and_eq_true, Bool.and_eq_true] at hst
  exact wpAnyH_take hi hst.1.1 hst.1.2 hst.2 hQ (.inl ⟨hw, hy⟩) hS h
theorem gs_run {i : Nat} {oi : Oper} {fuel : Nat} {listed : Array Bool} {a : Act} {w : World} (hi : ops[i]? = some oi) (hr : Region.ready .any ops listed = [i])
    (hw : Region.wanted oi (yielded ops a.tmps) = true)
    (h : ∀ K : Act → World → Prop, (∀ a' w', S w' ∧ wpAnyH P .any ops Q S fuel (listed.setIfInBounds i true) a' w' → K a' w') → oi.wp P a w K Q) : wpAnyH P .any ops Q S (fuel + 1) listed a w := by
  refine wpAnyH_all hr (by simp) ?_
  intro j hj
  rw [List.mem_singleton] at hj
  subst hj
  unfold wpOp
  simp only [hi, hw, if_true]
  exact .inl (h _ (fun a' w' k => k))
theorem gs_run2 {i k : Nat} {oi ok : Oper} {fuel : Nat} {listed : Array Bool} {a : Act} {w : World} (hi : ops[i]? = some oi) (hk : ops[k]? = some ok) (hr : Region.ready .any ops listed = [i, k])
    (hwi : Region.wanted oi (yielded ops a.tmps) = true) (hwk : Region.wanted ok (yielded ops a.tmps) = true)
    (h1 : ∀ K : Act → World → Prop, (∀ a' w', S w' ∧ wpAnyH P .any ops Q S fuel (listed.setIfInBounds i true) a' w' → K a' w') → oi.wp P a w K Q)
    (h2 : ∀ K : Act → World → Prop, (∀ a' w', S w' ∧ wpAnyH P .any ops Q S fuel (listed.setIfInBounds k true) a' w' → K a' w') → ok.wp P a w K Q) : wpAnyH P .any ops Q S (fuel + 1) listed a w := by
  refine wpAnyH_all hr (by simp) ?_
  intro j hj
  rw [List.mem_cons, List.mem_singleton] at hj
  rcases hj with rfl | rfl
  · unfold wpOp
    simp only [hi, hwi, if_true]
    exact .inl (h1 _ (fun a' w' k => k))
  · unfold wpOp
    simp only [hk, hwk, if_true]
    exact .inl (h2 _ (fun a' w' k => k))
theorem gs_done {listed : Array Bool} {fuel : Nat} {a : Act} {w : World} (hr : Region.ready .any ops listed = []) (h : Q .normal a w) : wpAnyH P .any ops Q S fuel listed a w :=
  wpAnyH_done hr h fuel
end
end Go.Proofs.YtbdfcgffkonbiaaDoor
namespace Go.Proofs.YtbdfcgffkonbiaaDoor
open Go.RowKit
set_option linter.unusedVariables false
section
variable {P : Program} {ops : Array Oper} {Q : Exit → Act → World → Prop} {md : Region.Mode} {S : World → Prop} {n : Nat}
/-- Whatever order is picked, and S holds behind each operation ahead of number n. -/
def orders (P : Program) (md : Region.Mode) (ops : Array Oper) (n : Nat) (Q : Exit → Act → World → Prop) (S : World → Prop) : Nat → Array Bool → Act → World → Prop
  | 0, l, a, w => Region.ready md ops l = [] ∧ Q .normal a w
  | f + 1, l, a, w => (Region.ready md ops l = [] → Q .normal a w) ∧
      ∀ i ∈ Region.ready md ops l, wpOp P ops Q i (fun a' w' => (i < n → S w') ∧ orders P md ops n Q S f (l.setIfInBounds i true) a' w') a w
theorem orders_any : ∀ (f : Nat) (l : Array Bool) (a : Act) (w : World), orders P md ops n Q S f l a w → wpAny P md ops Q f l a w
  | 0, _, _, _, h => h
  | f + 1, _, _, _, h => ⟨h.1, fun i hi => wpOp_mono (fun a' w' h' => orders_any f _ a' w' h'.2) (h.2 i hi)⟩
theorem orders_mono {T : World → Prop} (hS : ∀ w, T w → S w) : ∀ (f : Nat) (l : Array Bool) (a : Act) (w : World), orders P md ops n Q T f l a w → orders P md ops n Q S f l a w
  | 0, _, _, _, h => h
  | f + 1, _, _, _, h => ⟨h.1, fun i hi => wpOp_mono (fun a' w' h' => ⟨fun hn => hS _ (h'.1 hn), orders_mono hS f _ a' w' h'.2⟩) (h.2 i hi)⟩
theorem some_ready {l : Array Bool} {i : Nat} (h : i ∈ Region.ready md ops l) : Region.ready md ops l ≠ [] := fun e => by rw [e] at h; cases h
theorem orders_first {i : Nat} {oi : Oper} {v : Value} (hi : ops[i]? = some oi) (hsel : ∀ (j : Nat) (o : Oper) cs b, ops[j]? = some o → o.op ≠ .select cs b)
    (hQ : ∀ c a w, Q (.panic c) (a.put oi.dst v) w → Q (.panic c) a w)
    (hs : Region.sinkB md ops n = true) (hc : Region.chainB md ops n = true) (hn : n < ops.size) (hin : i < n) (f : Nat) : ∀ (l : Array Bool) (a : Act) (w : World), HeadInv md ops n l →
      (∀ j oj, ops[j]? = some oj → j ≠ i → l.getD j true = false → (∀ e ∈ oj.after, Region.binds md e = true → e.on ≠ i) → oi.apart ops oj = true) →
      i ∈ Region.ready md ops l → YieldsIf P ops S oi v a → S w → orders P md ops n Q S f (l.setIfInBounds i true) (a.put oi.dst v) w → orders P md ops n Q S (f + 1) l a w := by
  induction f with
  | zero =>
    intro l a w inv _ hr hy hS H
    refine ⟨fun h => absurd h (some_ready hr), fun j hj => ?_⟩
    rcases Decidable.em (j = i) with rfl | hji
    · exact hy.wpOp hi hS ⟨fun _ => hS, H⟩
    · exact absurd H.1 (some_ready (ready_mono hj hji))
  | succ f ih =>
    intro l a w inv hfree hr hy hS H
    refine ⟨fun h => absurd h (some_ready hr), fun j hj => ?_⟩
    rcases Decidable.em (j = i) with rfl | hji
    · exact hy.wpOp hi hS ⟨fun _ => hS, H⟩
    · have hjn : j < n := Nat.lt_of_not_le fun hle => tail_waits hs hc hn inv _ i rfl hin (mem_ready.1 hr).1 j hle hj
      have step := H.2 j (ready_mono hj hji)
      obtain ⟨unl, oj, hoj, waits⟩ := mem_ready.1 hj
      have noti : ∀ e ∈ oj.after, Region.binds md e = true → e.on ≠ i := by
        intro e he hb heq
        have w1 := waits e he hb
        rw [heq, getD_both (mem_ready.1 hr).1] at w1
        cases w1
      have both := wpOp_putIf hoj (hfree j oj hoj hji unl noti) (fun cs b => hsel i oi cs b hi) (fun cs b => hsel j oj cs b hoj) hQ hy step
      have still := ready_mono hr (Ne.symm hji)
      refine wpOp_mono (fun a' w' k => ?_) both
      obtain ⟨hy', hS', hk⟩ := k
      rw [← Array.setIfInBounds_comm _ _ hji] at hk
      refine ⟨fun _ => hS' hjn, ih _ a' w' (inv.set hj hjn) ?_ still hy' (hS' hjn) hk⟩
      intro k ok hok hki hun hno
      rcases Decidable.em (j = k) with rfl | hjk
      · exact hfree j ok hok hki unl hno
      · rw [getD_set_ne true hjk] at hun
        exact hfree k ok hok hki hun hno
/-- Whatever order is picked from here on, and ahead of number n what is there now stays as it is. -/
def wpT (P : Program) (ops : Array Oper) (n : Nat) (Q : Exit → Act → World → Prop) (f : Nat) (l : Array Bool) (a : Act) (w : World) : Prop :=
  HeadInv .any ops n l → orders P .any ops n Q (fun w' => Below w.heap.size w w') f l a w
theorem t_start {id : Nat} {a : Act} {w : World} (n : Nat) (hm : P.follows .mixedOrders = true) (h : wpT P ops n Q ops.size (Array.replicate ops.size false) a w.drew) : (Code.region id ops true).wp P Q a w := by
  refine wp_region_any hm (orders_any (n := n) (S := fun w' => Below w.drew.heap.size w.drew w') _ _ _ _ (h ⟨by simp, ?_, ?_⟩))
  · intro j oj _ hl
    rw [getD_replicate_false] at hl
    cases hl
  · intro t ht hlt
    simp [hlt]
def statT (ops : Array Oper) (n : Nat) (l : Array Bool) (i : Nat) : Bool := Region.noSelect ops && Region.free .any ops l i && (Region.ready .any ops l).contains i && Region.sinkB .any ops n && Region.chainB .any ops n && decide (n < ops.size) && decide (i < n)
theorem t_take {i : Nat} {oi : Oper} {d : Option Tmp} {v : Value} {f : Nat} {l : Array Bool} {a : Act} {w : World} (hi : ops[i]? = some oi) (hd : oi.dst = d) (hst : statT ops n l i = true)
    (hQ : ∀ c a w, Q (.panic c) (a.put d v) w → Q (.panic c) a w) (hw : Region.wanted oi (yielded ops a.tmps) = true)
    (hy : ∀ w', Below w.heap.size w w' → (execOp a.eval oi).run P w' = .ok (.value v) w')
    (h : wpT P ops n Q f (l.setIfInBounds i true) (a.put d v) w) : wpT P ops n Q (f + 1) l a w := by
  subst hd
  intro inv
  unfold statT at hst
  simp only [Bool.and_eq_true, decide_eq_true_eq] at hst
  obtain ⟨⟨⟨⟨⟨⟨h1, h2⟩, h3⟩, h4⟩, h5⟩, h6⟩, h7⟩ := hst
  have hr : i ∈ Region.ready .any ops l := by simpa using h3
  exact orders_first hi (Region.noSelect_spec h1) hQ h4 h5 h6 h7 f l a w inv (Region.free_spec hi h2) hr (.inl ⟨hw, hy⟩) (Below.refl _ _) (h (inv.set hr h7))
theorem t_run {i : Nat} {oi : Oper} {f : Nat} {l : Array Bool} {a : Act} {w : World} (hi : ops[i]? = some oi) (hr : Region.ready .any ops l = [i]) (hin : decide (i < n) = true)
    (hw : Region.wanted oi (yielded ops a.tmps) = true)
    (h : ∀ K : Act → World → Prop, (∀ a' w', Below w.heap.size w w' ∧ wpT P ops n Q f (l.setIfInBounds i true) a' w' → K a' w') → oi.wp P a w K Q) : wpT P ops n Q (f + 1) l a w := by
  intro inv
  have hm : i ∈ Region.ready .any ops l := by rw [hr]; simp
  refine ⟨fun e => (by rw [hr] at e; cases e), ?_⟩
  intro j hj
  rw [hr, List.mem_singleton] at hj
  subst hj
  unfold wpOp
  simp only [hi, hw, if_true]
  refine .inl (h _ ?_)
  rintro a' w' ⟨hb, hg⟩
  refine ⟨fun _ => hb, orders_mono ?_ _ _ _ _ (hg (inv.set hm (of_decide_eq_true hin)))⟩
  intro w'' hb'
  exact hb.trans (hb'.mono hb.size)
theorem t_last {i : Nat} {oi : Oper} {f : Nat} {l : Array Bool} {a : Act} {w : World} (hi : ops[i]? = some oi) (hr : Region.ready .any ops l = [i]) (hin : decide (n ≤ i) = true) (he : Region.ready .any ops (l.setIfInBounds i true) = [])
    (hw : Region.wanted oi (yielded ops a.tmps) = true)
    (h : ∀ K : Act → World → Prop, (∀ a' w', Q .normal a' w' → K a' w') → oi.wp P a w K Q) : wpT P ops n Q (f + 1) l a w := by
  intro inv
  refine ⟨fun e => (by rw [hr] at e; cases e), ?_⟩
  intro j hj
  rw [hr, List.mem_singleton] at hj
  subst hj
  unfold wpOp
  simp only [hi, hw, if_true]
  refine .inl (h _ ?_)
  intro a' w' hq
  refine ⟨fun hlt => absurd hlt (Nat.not_lt_of_le (of_decide_eq_true hin)), ?_⟩
  cases f with
  | zero => exact ⟨he, hq⟩
  | succ f => exact ⟨fun _ => hq, by rw [he]; simp⟩
end
end Go.Proofs.YtbdfcgffkonbiaaDoor
namespace Go.Proofs.YtbdfcgffkonbiaaDoor
open Go Go.RowKit
set_option linter.unusedVariables false
set_option linter.unusedSimpArgs false
theorem load_row_op {P : Program} (op : Oper) (a : Act) (x : Operand) {ty : TypeId} {g : Nat} {t : TypeId} {cs : Array Value} {fr : Nat × Nat} {d : TypeDesc} {w : World} (ho : op.op = .load ty x) (hx : a.eval x = .pointer (some ⟨g, 0, none⟩)) (hg : w.heap[g]? = some (.cells cs t fr))
    (hu : P.underlying ty = some d) (hd : (match d with | .struct _ | .array _ _ => true | _ => false) = true) (hi : (P.info? ty).map (·.size) = some cs.size) : (execOp a.eval op).run P w = .ok (.value (.agg cs)) w := by
  unfold execOp
  simp only [ho, hx, Instr.loadAt, Instr.sureAddr, Sem.run_bind, Sem.run_pure, Result.andThen_ok, run_loadVar_row w g t ty cs fr d hg hu hd hi]
def x1 : It := ⟨[97], ⟨2, 1, []⟩, 5⟩
def x2 : It := ⟨[113], ⟨2, 2, []⟩, 4⟩
def lvZ : Nat → List It := fun _ => []
def vsZ : Nat → Int := fun _ => 0
def lv1 : Nat → List It := upd lvZ 1 [x1]
def vs1 : Nat → Int := upd vsZ 1 5
def lv2 : Nat → List It := upd lv1 1 []
def vs2 : Nat → Int := upd vs1 1 9
end Go.Proofs.YtbdfcgffkonbiaaDoor
namespace Go.Proofs.YtbdfcgffkonbiaaDoor
open Go Go.RowKit
set_option linter.unusedVariables false
set_option linter.unusedSimpArgs false
theorem RdI.keep {w w' : World} {v : Value} {l : List It} (h : RdI w v l) (hs : w.heap.size ≤ w'.heap.size) (hh : ∀ g, g < w.heap.size → w'.heap[g]? = w.heap[g]?) : RdI w' v l := by
  obtain ⟨ao, cap, h1, h2, h3, h4, h5⟩ := h
  refine ⟨ao, cap, h1, h2, h3, h4, fun hl => ?_⟩
  obtain ⟨b, off, h6, h7, h8⟩ := h5 hl
  refine ⟨b, off, h6, Nat.lt_of_lt_of_le h7 hs, fun i hi => ?_⟩
  rw [← h8 i hi]
  simp only [World.cell?, hh b h7]
theorem RdT.keep {w w' : World} {cs : Array Value} {lv : Nat → List It} {vs : Nat → Int} (h : RdT w cs lv vs) (hs : w.heap.size ≤ w'.heap.size) (hh : ∀ g, g < w.heap.size → w'.heap[g]? = w.heap[g]?) : RdT w' cs lv vs :=
  ⟨h.size, fun b hb => (h.leaf b hb).imp fun u x => ⟨x.1, x.2.keep hs hh⟩, h.ver⟩
/-- What a change hands back, read in any later world in which nothing below a, or of the call's own, has changed. -/
def TrA (a : Nat) (w : World) (lv : Nat → List It) (vs : Nat → Int) (c : Nat) (e : Ending) (w' : World) : Prop := ∃ cs, e = .returned (.tuple #[.agg cs, .int .i64 (c : Int)]) ∧ cs.size = 32 ∧ cs.all (·.oneCell') = true ∧
  Hid (∀ w'', w'.heap.size ≤ w''.heap.size → (∀ g, g < w'.heap.size → (g < a ∨ w.heap.size ≤ g) → w''.heap[g]? = w'.heap[g]?) → RdT w'' cs lv vs) ∧ Below w.heap.size w w'
def pLv (lv : Nat → List It) (vs : Nat → Int) (x : It) : Nat → List It := if putTE lv vs x = 0 then upd lv (bkN x.key) (withL (lv (bkN x.key)) x) else fun _ => []
def pVs (lv : Nat → List It) (vs : Nat → Int) (x : It) : Nat → Int := if putTE lv vs x = 0 then upd vs (bkN x.key) x.ver else fun _ => 0
def dLv (lv : Nat → List It) (vs : Nat → Int) (k : List UInt8) (ver : Int) : Nat → List It := if delTE lv vs k ver = 0 then upd lv (bkN k) (withoutL (lv (bkN k)) k) else fun _ => []
def dVs (lv : Nat → List It) (vs : Nat → Int) (k : List UInt8) (ver : Int) : Nat → Int := if delTE lv vs k ver = 0 then upd vs (bkN k) ver else fun _ => 0
theorem oneI_idem (x : It) : oneI (oneI x) = oneI x := by
  unfold oneI; simp [List.take_take]
theorem fewL_idem (l : List It) : fewL (fewL l) = fewL l := by
  unfold fewL
  rw [← List.map_take, List.take_take, Nat.min_self, List.map_map]
  congr 1
  funext x; exact oneI_idem x
theorem fewL_len (l : List It) : (fewL l).length ≤ 66 := by unfold fewL; rw [List.length_map]; exact List.length_take_le _ _
theorem fewL_sz (l : List It) : SzI (fewL l) := by
  intro x hx
  unfold fewL at hx
  obtain ⟨y, _, rfl⟩ := List.mem_map.1 hx
  unfold oneI
  exact ⟨Nat.le_trans (List.length_take_le _ _) (by decide), Nat.le_trans (List.length_take_le _ _) (by decide)⟩
theorem fewT_sz (lv : Nat → List It) : SzT (fun b => fewL (lv b)) := fun b _ => fewL_sz _
theorem fewT_len (lv : Nat → List It) : ∀ b, b < 16 → (fewL (lv b)).length ≤ 100 := fun b _ => Nat.le_trans (fewL_len _) (by decide)
/-- A sixteenth: the document's Bucket. -/
theorem refBucket_any (k : List UInt8) (hk : k.length ≤ maxLen) (h0 : 0 < k.length) (w : World) : Calls Tryd.prog 106 #[.string (str k)] w fun e w' => e = .returned (.int .i64 (bkN k : Int)) ∧ w = w' := by
  have hz := str_size k
  have hcc : ∀ h : 0 < (str k).size, ((str k)[0]'h).toNat = (k.getD 0 0).toNat := fun h => by rw [k8str_byte]
  have h256 := (k.getD 0 0).toNat_lt
  unfold maxLen at hk
  obtain ⟨R, hR⟩ : ∃ R, R = bkN k := ⟨_, rfl⟩
  rw [← hR]
  have HR := Lib.hid (show R = (k.getD 0 0).toNat % 16 by rw [hR]; rfl)
  clear hR
  generalize (k.getD 0 0).toNat = m at *
  go_enter Tryd.func106, Tryd.ntmps106
  go_wp2_with fail
  go_ret
  exact ⟨by rw [HR.out]; push_cast; rfl, rfl⟩
theorem at_bk {lv : Nat → List It} {vs : Nat → Int} (h : mayTs lv vs 16 = true) {b : Nat} (hb : b < 16) {x : It} (hx : x ∈ lv b) : isB x.key = true ∧ bkN x.key = b := by
  have h1 := isL_may (isT h hb) x hx
  have hB : isB x.key = true := by unfold mayI at h1; simp only [Bool.and_eq_true] at h1; exact h1.1
  have h2 := (mayT_mem (mayTs_at h hb) hx).1
  rw [bk_is hB] at h2
  exact ⟨hB, by omega⟩
theorem gT_found {lv : Nat → List It} {vs : Nat → Int} (h : mayTs lv vs 16 = true) {b : Nat} (hb : b < 16) {x : It} (hx : x ∈ lv b) : gTI lv x.key = x ∧ gTB lv x.key = true := by
  obtain ⟨h1, h2⟩ := at_bk h hb hx
  have hl := isT h hb
  have ha : atL (lv b) x.key = some x := (at_mem (isL_sorted hl)).2 ⟨hx, rfl⟩
  unfold gTI gTB gI gB
  rw [h1, h2, hl, ha]; simp
theorem gT_none {lv : Nat → List It} {vs : Nat → Int} (h : mayTs lv vs 16 = true) {k : List UInt8} (hk : ∀ b, b < 16 → ∀ x ∈ lv b, x.key ≠ k) : gTI lv k = zI ∧ gTB lv k = false := by
  unfold gTI gTB gI gB
  cases hB : isB k with
  | false => simp
  | true =>
    have hl := isT h (bkN_lt k)
    have ha : atL (lv (bkN k)) k = none := by
      cases e : atL (lv (bkN k)) k with
      | none => rfl
      | some x => exact absurd ((at_mem (isL_sorted hl)).1 e).2 (hk _ (bkN_lt k) x ((at_mem (isL_sorted hl)).1 e).1)
    rw [hl, ha]; simp
set_option maxRecDepth 100000 in
set_option maxHeartbeats 2000000 in
theorem refGet10_any (cs : Array Value) (lv : Nat → List It) (vs : Nat → Int) (k : List UInt8) (w : World) (h : RdT w cs lv vs) (hm : mayTs lv vs 16 = true) :
    Calls Tryd.prog 32 #[.agg cs, .string (str k)] w fun e w' => e = .returned (.tuple #[itV (gTI lv k), .bool (gTB lv k)]) ∧ Below w.heap.size w w' := by
  have HT := Lib.hid h
  have HM := Lib.hid hm
  obtain ⟨X, hX⟩ : ∃ X, X = gTI lv k := ⟨_, rfl⟩
  obtain ⟨Y, hY⟩ : ∃ Y, Y = gTB lv k := ⟨_, rfl⟩
  rw [← hX, ← hY]
  have HX := Lib.hid hX
  have HY := Lib.hid hY
  obtain ⟨q2, q4, -, -⟩ := two_allocs w (.cells cs 26) (.cells #[.string (str []), .int .i64 0, .int .i64 0, .string (str []), .int .i64 0] 53 )
  have bel : Below w.heap.size w ((w.alloc (.cells cs 26)).alloc (.cells #[.string (str []), .int .i64 0, .int .i64 0, .string (str []), .int .i64 0] 53 )) := ((Below.refl _ w).alloc (Nat.le_refl _) _).alloc (by simp) _
  clear h hm hX hY
  go_enter Tryd.func32, Tryd.ntmps32
  go_wp2_with fail
  have hl2 := lt_of_block q2
  obtain ⟨W0, hW0⟩ : ∃ W0, W0 = (w.alloc (.cells cs 26)).alloc (.cells #[.string (ByteArray.mk #[]), .int .i64 0, .int .i64 0, .string (ByteArray.mk #[]), .int .i64 0] 53 ) := ⟨_, rfl⟩
  change W0 = (w.alloc (.cells cs 26)).alloc (.cells #[.string (str []), .int .i64 0, .int .i64 0, .string (str []), .int .i64 0] 53 ) at hW0
  rw [← hW0] at q2 q4 bel hl2
  change W0 = (w.alloc (.cells cs 26)).alloc (.cells #[.string (ByteArray.mk #[]), .int .i64 0, .int .i64 0, .string (ByteArray.mk #[]), .int .i64 0] 53 ) at hW0
  rw [← hW0]
  clear hW0
  go_loop [6] (fun i => ∃ b : Nat, b ≤ 16 ∧ i = .int .i64 (b : Int) ∧ Hid (∀ c, c < b → ∀ x ∈ lv c, x.key ≠ k)) (fun i => 20 - (intOf i).toNat)
  case atStart => exact ⟨0, by omega, rfl, Lib.hid (fun c hc => absurd hc (by omega))⟩
  case round =>
    obtain ⟨b, hb, rfl, HN⟩ := hrel
    by_cases hlt : b < 16
    · have hlti : (b : Int) < 16 := by omega
      obtain ⟨u, hu, hru⟩ := HT.out.leaf b hlt
      have c1 := (block_cell q2 b).trans hu
      obtain ⟨ao, cap, rfl, hc, hmm, hr⟩ := RdK.open hru
      have hru' := hru.below bel (Nat.le_refl _)
      have AT := Lib.hid (refAt_any (.slice ao (lv b).length cap) (lv b) k W0 hru')
      have HRU := Lib.hid (show RdI W0 (.slice ao (lv b).length cap) (lv b) from hru')
      clear hr hu hru hru'
      go_wp2_with fail
      refine AT.out.mono ?_
      rintro e w' ⟨rfl, i, rfl, hi⟩
      rcases hi with ⟨rfl, hnone⟩ | ⟨j, hj, rfl, hjk⟩
      · have HN2 := Lib.hid (show ∀ c, c < b + 1 → ∀ x ∈ lv c, x.key ≠ k from fun c hc => by
          by_cases e : c = b
          · subst e; exact hnone
          · exact HN.out c (by omega))
        clear hnone
        go_wp2_with fail
        exact ⟨⟨b + 1, by omega, by push_cast; rfl, HN2⟩, by simp [intOf]; omega⟩
      · have HF := gT_found HM.out hlt (List.getElem_mem hj)
        rw [hjk, ← HX.out, ← HY.out] at HF
        obtain ⟨bb, off, rfl, hbb, d0, d1, d2, d3, d4⟩ := rdi_cells HRU.out j hj
        obtain ⟨z, hz⟩ : ∃ z, z = (lv b)[j] := ⟨_, rfl⟩
        rw [← hz] at d0 d1 d2 d3 d4 HF
        have HF1 := Lib.hid HF.1
        have HF2 := Lib.hid HF.2
        obtain ⟨e0, e1, e2, e3, e4, ez⟩ := block_cells5 q4
        clear hz HF hjk
        go_wp2_with fail
        obtain ⟨r0, r1, r2, r3, r4, bel9⟩ := set5 (.string (str z.key)) (.int .i64 z.v.k) (.int .i64 z.v.i) (.string (str z.v.s)) (.int .i64 z.ver) q4 bel (by omega)
        refine bodyPost_ret (v := .tuple #[.agg #[.string (str z.key), .int .i64 z.v.k, .int .i64 z.v.i, .string (str z.v.s), .int .i64 z.ver], .bool true]) (by simp [results, Tryd.results32, go_sem, r0, r1, r2, r3, r4]) rfl ⟨by rw [HF1.out, HF2.out]; rfl, bel9⟩
    · obtain rfl : b = 16 := by omega
      have HF := gT_none HM.out HN.out
      rw [← HX.out, ← HY.out] at HF
      have HF1 := Lib.hid HF.1
      have HF2 := Lib.hid HF.2
      obtain ⟨e0, e1, e2, e3, e4, ez⟩ := block_cells5 q4
      clear HF
      go_wp2_with fail
      obtain ⟨r0, r1, r2, r3, r4, bel9⟩ := set5 (.string (str [])) (.int .i64 0) (.int .i64 0) (.string (str [])) (.int .i64 0) q4 bel (by omega)
      refine bodyPost_ret (v := .tuple #[.agg #[.string (str []), .int .i64 0, .int .i64 0, .string (str []), .int .i64 0], .bool false]) (by simp [results, Tryd.results32, go_sem, r0, r1, r2, r3, r4, str_e]) rfl ⟨by rw [HF1.out, HF2.out]; rfl, bel9⟩
end Go.Proofs.YtbdfcgffkonbiaaDoor
