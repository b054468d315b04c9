/- A region whose order is open, walked once, its last operation whatever it is (a store, say): what only reads is taken first, since ahead of the last operation what was there stays as it was; what runs comes in the one order that its edges leave. -/
/- Trunks: the chapter's examples. Written by wip/tools/gen10j.py. -/
import Derived.Test.YtbdfcgffkonbiaaGreatDoorQSSC5
import Derived.OrdersHeld
import Derived.StillTail
import Derived.Deep.RegionWith
import Derived.Test.YtbdfcgffkonbiaaGreatDoorQSSC21
namespace Go.Proofs.YtbdfcgffkonbiaaGreatDoor
open Go.RowKit
set_option linter.unusedVariables false
section
variable {P : Program} {ops : Array Oper} {Q : Exit → Act → World → Prop} {md : Region.Mode} {S : World → Prop} {n : Nat}
/-- Whatever order is picked, and S holds behind each operation ahead of number n. -/
def orders (P : Program) (md : Region.Mode) (ops : Array Oper) (n : Nat) (Q : Exit → Act → World → Prop) (S : World → Prop) : Nat → Array Bool → Act → World → Prop
  | 0, l, a, w => Region.ready md ops l = [] ∧ Q .normal a w
  | f + 1, l, a, w => (Region.ready md ops l = [] → Q .normal a w) ∧
      ∀ i ∈ Region.ready md ops l, wpOp P ops Q i (fun a' w' => (i < n → S w') ∧ orders P md ops n Q S f (l.setIfInBounds i true) a' w') a w
theorem orders_any : ∀ (f : Nat) (l : Array Bool) (a : Act) (w : World), orders P md ops n Q S f l a w → wpAny P md ops Q f l a w
  | 0, _, _, _, h => h
  | f + 1, _, _, _, h => ⟨h.1, fun i hi => wpOp_mono (fun a' w' h' => orders_any f _ a' w' h'.2) (h.2 i hi)⟩
theorem orders_mono {T : World → Prop} (hS : ∀ w, T w → S w) : ∀ (f : Nat) (l : Array Bool) (a : Act) (w : World), orders P md ops n Q T f l a w → orders P md ops n Q S f l a w
  | 0, _, _, _, h => h
  | f + 1, _, _, _, h => ⟨h.1, fun i hi => wpOp_mono (fun a' w' h' => ⟨fun hn => hS _ (h'.1 hn), orders_mono hS f _ a' w' h'.2⟩) (h.2 i hi)⟩
theorem some_ready {l : Array Bool} {i : Nat} (h : i ∈ Region.ready md ops l) : Region.ready md ops l ≠ [] := fun e => by rw [e] at h; cases h
theorem orders_first {i : Nat} {oi : Oper} {v : Value} (hi : ops[i]? = some oi) (hsel : ∀ (j : Nat) (o : Oper) cs b, ops[j]? = some o → o.op ≠ .select cs b)
    (hQ : ∀ c a w, Q (.panic c) (a.put oi.dst v) w → Q (.panic c) a w)
    (hs : Region.sinkB md ops n = true) (hc : Region.chainB md ops n = true) (hn : n < ops.size) (hin : i < n) (f : Nat) : ∀ (l : Array Bool) (a : Act) (w : World), HeadInv md ops n l →
      (∀ j oj, ops[j]? = some oj → j ≠ i → l.getD j true = false → (∀ e ∈ oj.after, Region.binds md e = true → e.on ≠ i) → oi.apart ops oj = true) →
      i ∈ Region.ready md ops l → YieldsIf P ops S oi v a → S w → orders P md ops n Q S f (l.setIfInBounds i true) (a.put oi.dst v) w → orders P md ops n Q S (f + 1) l a w := by
  induction f with
  | zero =>
    intro l a w inv _ hr hy hS H
    refine ⟨fun h => absurd h (some_ready hr), fun j hj => ?_⟩
    rcases Decidable.em (j = i) with rfl | hji
    · exact hy.wpOp hi hS ⟨fun _ => hS, H⟩
    · exact absurd H.1 (some_ready (ready_mono hj hji))
  | succ f ih =>
    intro l a w inv hfree hr hy hS H
    refine ⟨fun h => absurd h (some_ready hr), fun j hj => ?_⟩
    rcases Decidable.em (j = i) with rfl | hji
    · exact hy.wpOp hi hS ⟨fun _ => hS, H⟩
    · have hjn : j < n := Nat.lt_of_not_le fun hle => tail_waits hs hc hn inv _ i rfl hin (mem_ready.1 hr).1 j hle hj
      have step := H.2 j (ready_mono hj hji)
      obtain ⟨unl, oj, hoj, waits⟩ := mem_ready.1 hj
      have noti : ∀ e ∈ oj.after, Region.binds md e = true → e.on ≠ i := by
        intro e he hb heq
        have w1 := waits e he hb
        rw [heq, getD_both (mem_ready.1 hr).1] at w1
        cases w1
      have both := wpOp_putIf hoj (hfree j oj hoj hji unl noti) (fun cs b => hsel i oi cs b hi) (fun cs b => hsel j oj cs b hoj) hQ hy step
      have still := ready_mono hr (Ne.symm hji)
      refine wpOp_mono (fun a' w' k => ?_) both
      obtain ⟨hy', hS', hk⟩ := k
      rw [← Array.setIfInBounds_comm _ _ hji] at hk
      refine ⟨fun _ => hS' hjn, ih _ a' w' (inv.set hj hjn) ?_ still hy' (hS' hjn) hk⟩
      intro k ok hok hki hun hno
      rcases Decidable.em (j = k) with rfl | hjk
      · exact hfree j ok hok hki unl hno
      · rw [getD_set_ne true hjk] at hun
        exact hfree k ok hok hki hun hno
/-- Whatever order is picked from here on, and ahead of number n what is there now stays as it is. -/
def wpT (P : Program) (ops : Array Oper) (n : Nat) (Q : Exit → Act → World → Prop) (f : Nat) (l : Array Bool) (a : Act) (w : World) : Prop :=
  HeadInv .any ops n l → orders P .any ops n Q (fun w' => Below w.heap.size w w') f l a w
theorem t_start {id : Nat} {a : Act} {w : World} (n : Nat) (hm : P.follows .mixedOrders = true) (h : wpT P ops n Q ops.size (Array.replicate ops.size false) a w.drew) : (Code.region id ops true).wp P Q a w := by
  refine wp_region_any hm (orders_any (n := n) (S := fun w' => Below w.drew.heap.size w.drew w') _ _ _ _ (h ⟨by simp, ?_, ?_⟩))
  · intro j oj _ hl
    rw [getD_replicate_false] at hl
    cases hl
  · intro t ht hlt
    simp [hlt]
def statT (ops : Array Oper) (n : Nat) (l : Array Bool) (i : Nat) : Bool := Region.noSelect ops && Region.free .any ops l i && (Region.ready .any ops l).contains i && Region.sinkB .any ops n && Region.chainB .any ops n && decide (n < ops.size) && decide (i < n)
theorem t_take {i : Nat} {oi : Oper} {d : Option Tmp} {v : Value} {f : Nat} {l : Array Bool} {a : Act} {w : World} (hi : ops[i]? = some oi) (hd : oi.dst = d) (hst : statT ops n l i = true)
    (hQ : ∀ c a w, Q (.panic c) (a.put d v) w → Q (.panic c) a w) (hw : Region.wanted oi (yielded ops a.tmps) = true)
    (hy : ∀ w', Below w.heap.size w w' → (execOp a.eval oi).run P w' = .ok (.value v) w')
    (h : wpT P ops n Q f (l.setIfInBounds i true) (a.put d v) w) : wpT P ops n Q (f + 1) l a w := by
  subst hd
  intro inv
  unfold statT at hst
  simp only [Bool.and_eq_true, decide_eq_true_eq] at hst
  obtain ⟨⟨⟨⟨⟨⟨h1, h2⟩, h3⟩, h4⟩, h5⟩, h6⟩, h7⟩ := hst
  have hr : i ∈ Region.ready .any ops l := by simpa using h3
  exact orders_first hi (Region.noSelect_spec h1) hQ h4 h5 h6 h7 f l a w inv (Region.free_spec hi h2) hr (.inl ⟨hw, hy⟩) (Below.refl _ _) (h (inv.set hr h7))
theorem t_run {i : Nat} {oi : Oper} {f : Nat} {l : Array Bool} {a : Act} {w : World} (hi : ops[i]? = some oi) (hr : Region.ready .any ops l = [i]) (hin : decide (i < n) = true)
    (hw : Region.wanted oi (yielded ops a.tmps) = true)
    (h : ∀ K : Act → World → Prop, (∀ a' w', Below w.heap.size w w' ∧ wpT P ops n Q f (l.setIfInBounds i true) a' w' → K a' w') → oi.wp P a w K Q) : wpT P ops n Q (f + 1) l a w := by
  intro inv
  have hm : i ∈ Region.ready .any ops l := by rw [hr]; simp
  refine ⟨fun e => (by rw [hr] at e; cases e), ?_⟩
  intro j hj
  rw [hr, List.mem_singleton] at hj
  subst hj
  unfold wpOp
  simp only [hi, hw, if_true]
  refine .inl (h _ ?_)
  rintro a' w' ⟨hb, hg⟩
  refine ⟨fun _ => hb, orders_mono ?_ _ _ _ _ (hg (inv.set hm (of_decide_eq_true hin)))⟩
  intro w'' hb'
  exact hb.trans (hb'.mono hb.size)
theorem t_run2 {i k : Nat} {oi ok : Oper} {f : Nat} {l : Array Bool} {a : Act} {w : World} (hi : ops[i]? = some oi) (hk : ops[k]? = some ok) (hr : Region.ready .any ops l = [i, k]) (hin : decide (i < n ∧ k < n) = true)
    (hwi : Region.wanted oi (yielded ops a.tmps) = true) (hwk : Region.wanted ok (yielded ops a.tmps) = true)
    (h1 : ∀ K : Act → World → Prop, (∀ a' w', Below w.heap.size w w' ∧ wpT P ops n Q f (l.setIfInBounds i true) a' w' → K a' w') → oi.wp P a w K Q)
    (h2 : ∀ K : Act → World → Prop, (∀ a' w', Below w.heap.size w w' ∧ wpT P ops n Q f (l.setIfInBounds k true) a' w' → K a' w') → ok.wp P a w K Q) : wpT P ops n Q (f + 1) l a w := by
  intro inv
  have hmi : i ∈ Region.ready .any ops l := by rw [hr]; simp
  have hmk : k ∈ Region.ready .any ops l := by rw [hr]; simp
  have hb := of_decide_eq_true hin
  refine ⟨fun e => (by rw [hr] at e; cases e), ?_⟩
  intro j hj
  rw [hr, List.mem_cons, List.mem_singleton] at hj
  rcases hj with rfl | rfl
  · unfold wpOp
    simp only [hi, hwi, if_true]
    refine .inl (h1 _ ?_)
    rintro a' w' ⟨hb', hg⟩
    exact ⟨fun _ => hb', orders_mono (fun w'' h'' => hb'.trans (h''.mono hb'.size)) _ _ _ _ (hg (inv.set hmi hb.1))⟩
  · unfold wpOp
    simp only [hk, hwk, if_true]
    refine .inl (h2 _ ?_)
    rintro a' w' ⟨hb', hg⟩
    exact ⟨fun _ => hb', orders_mono (fun w'' h'' => hb'.trans (h''.mono hb'.size)) _ _ _ _ (hg (inv.set hmk hb.2))⟩
theorem t_last {i : Nat} {oi : Oper} {f : Nat} {l : Array Bool} {a : Act} {w : World} (hi : ops[i]? = some oi) (hr : Region.ready .any ops l = [i]) (hin : decide (n ≤ i) = true) (he : Region.ready .any ops (l.setIfInBounds i true) = [])
    (hw : Region.wanted oi (yielded ops a.tmps) = true)
    (h : ∀ K : Act → World → Prop, (∀ a' w', Q .normal a' w' → K a' w') → oi.wp P a w K Q) : wpT P ops n Q (f + 1) l a w := by
  intro inv
  refine ⟨fun e => (by rw [hr] at e; cases e), ?_⟩
  intro j hj
  rw [hr, List.mem_singleton] at hj
  subst hj
  unfold wpOp
  simp only [hi, hw, if_true]
  refine .inl (h _ ?_)
  intro a' w' hq
  refine ⟨fun hlt => absurd hlt (Nat.not_lt_of_le (of_decide_eq_true hin)), ?_⟩
  cases f with
  | zero => exact ⟨he, hq⟩
  | succ f => exact ⟨fun _ => hq, by rw [he]; simp⟩
end
end Go.Proofs.YtbdfcgffkonbiaaGreatDoor
namespace Go.Proofs.YtbdfcgffkonbiaaGreatDoor
open Go Go.RowKit
set_option linter.unusedVariables false
set_option linter.unusedSimpArgs false
theorem load_row_op {P : Program} (op : Oper) (a : Act) (x : Operand) {ty : TypeId} {g : Nat} {t : TypeId} {cs : Array Value} {fr : Nat × Nat} {d : TypeDesc} {w : World} (ho : op.op = .load ty x) (hx : a.eval x = .pointer (some ⟨g, 0, none⟩)) (hg : w.heap[g]? = some (.cells cs t fr))
    (hu : P.underlying ty = some d) (hd : (match d with | .struct _ | .array _ _ => true | _ => false) = true) (hi : (P.info? ty).map (·.size) = some cs.size) : (execOp a.eval op).run P w = .ok (.value (.agg cs)) w := by
  unfold execOp
  simp only [ho, hx, Instr.loadAt, Instr.sureAddr, Sem.run_bind, Sem.run_pure, Result.andThen_ok, run_loadVar_row w g t ty cs fr d hg hu hd hi]
theorem chain1 {w a b : World} (h : Below w.heap.size w a) (g : Below w.heap.size w b) : Below w.heap.size w b := g
def x1 : It := ⟨[97], ⟨2, 1, []⟩, 5⟩
def x2 : It := ⟨[113], ⟨2, 2, []⟩, 4⟩
def lvZ : Nat → List It := fun _ => []
def vsZ : Nat → Int := fun _ => 0
def lv1 : Nat → List It := upd lvZ 1 [x1]
def vs1 : Nat → Int := upd vsZ 1 5
def lv2 : Nat → List It := upd lv1 1 []
def vs2 : Nat → Int := upd vs1 1 9
theorem szZ : SzT lvZ := fun b hb x hx => by cases hx
theorem sz1 : SzT lv1 := fun b hb x hx => by
  unfold lv1 at hx
  by_cases h : b = 1
  · subst h; rw [upd_at, List.mem_singleton] at hx; subst hx; exact ⟨by decide, by decide⟩
  · rw [upd_ne _ _ h] at hx; cases hx
theorem sz2 : SzT lv2 := fun b hb x hx => by
  unfold lv2 at hx
  by_cases h : b = 1
  · subst h; rw [upd_at] at hx; cases hx
  · rw [upd_ne _ _ h] at hx; exact sz1 b hb x hx
theorem mayZ : mayTs lvZ vsZ 16 = true := by kernel_rfl
theorem may1 : mayTs lv1 vs1 16 = true := by kernel_rfl
theorem put1E : putTE lvZ vsZ x1 = 0 := by kernel_rfl
theorem put2E : putTE lv1 vs1 x2 = 18 := by kernel_rfl
theorem del1E : delTE lv1 vs1 [97] 9 = 0 := by kernel_rfl
theorem bk1 : bkN x1.key = 1 := by kernel_rfl
theorem bk1' : bkN [97] = 1 := by kernel_rfl
theorem put1P (w : World) : PutP w zT lvZ vsZ x1 = TrO w zT 1 [x1] 5 := by
  unfold PutP; rw [if_pos put1E, bk1]; rfl
theorem put2P (w : World) (cs : Array Value) : PutP w cs lv1 vs1 x2 = TrZ w 18 := by
  unfold PutP; rw [put2E, if_neg (by decide)]
theorem del1P (w : World) (cs : Array Value) : DelP w cs lv1 vs1 [97] 9 = TrO w cs 1 [] 9 := by
  unfold DelP; rw [if_pos del1E, bk1']; rfl
theorem cnt1 : sumT List.length lv1 vs1 = 1 := by kernel_rfl
theorem cnt2 : sumT List.length lv2 vs2 = 0 := by kernel_rfl
theorem len1 : ∀ b, b < 16 → (lv1 b).length ≤ 100 := fun b _ => by
  unfold lv1 upd
  split
  · decide
  · exact Nat.zero_le _
theorem len2 : ∀ b, b < 16 → (lv2 b).length ≤ 100 := fun b h => by
  unfold lv2
  by_cases e : b = 1
  · subst e; rw [upd_at]; decide
  · rw [upd_ne _ _ e]; exact len1 b h
theorem unl1 : unlL lv1 lvZ vs1 vsZ 16 = [1] := by
  have h : ∀ i, unlB lv1 lvZ vs1 vsZ i = decide (i = 1) := by
    intro i
    unfold unlB lv1 vs1 vsZ lvZ
    by_cases e : i = 1
    · subst e; simp [upd]
    · simp [upd, e, lsEq]
  unfold unlL
  rw [List.filter_congr (fun i _ => h i)]
  decide
end Go.Proofs.YtbdfcgffkonbiaaGreatDoor
