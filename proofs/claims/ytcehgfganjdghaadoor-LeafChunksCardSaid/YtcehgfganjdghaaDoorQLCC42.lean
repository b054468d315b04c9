/- Leaves: the document's bytes of an item. Written by wip/tools/gen9z5.py. -/
/- A region whose order is open, walked once, its last operation whatever it is (a store, say): what only reads is taken first, since ahead of the last operation what was there stays as it was; what runs comes in the one order that its edges leave. -/
import Derived.Test.YtcehgfganjdghaaDoorQLCC39
import Derived.Test.YtcehgfganjdghaaDoorQLCC23
import Derived.Test.YtcehgfganjdghaaDoorQLCC2
import Derived.OrdersHeld
import Derived.StillTail
import Derived.Deep.RegionWith
namespace Go.Proofs.YtcehgfganjdghaaDoor
open Go Go.RowKit
set_option linter.unusedVariables false
set_option linter.unusedSimpArgs false
theorem cat_at (a b : List UInt8) (h : a.length + b.length ≤ 9223372036854775807) (w : World) : (Op.stringOp .add (str a) (str b)).run Tryd.prog w = .ok (.string (str (a ++ b))) w := by
  rw [run_string_add_sum w _ _ (by rw [str_size, str_size]; exact h), str_append]
set_option maxRecDepth 100000 in
set_option maxHeartbeats 1000000 in
theorem refBytes_any (x : It) (w : World) (hm : mayI x = true) (hI : I64 x.v.i) :
    Calls Tryd.prog 62 #[itV x] w fun e w' => e = .returned (.string (str (bytesI x))) ∧ Below w.heap.size w w' := by
  have hk := may_key hm
  have hv := may_ver hm
  have hmv := may_v hm
  have hs : x.v.s.length ≤ maxLen := by have := (may_sz hm).2; unfold maxLen; omega
  have hB0 := encL_max x.v
  obtain ⟨key, v, ver⟩ := x
  simp only at hk hv hmv hB0
  obtain ⟨n, rfl⟩ : ∃ n : Nat, ver = (n : Int) := ⟨ver.toNat, by omega⟩
  have e : bytesI ⟨key, v, (n : Int)⟩ = (putL key.length ++ key) ++ V7.encL v ++ putL n := by
    unfold bytesI textL
    rw [if_pos (show key.length ≤ 255 by omega)]
    show (putL key.length ++ key) ++ (V7.encL v ++ putL n) = _
    simp only [List.append_assoc]
  rw [e]
  have TX0 := fun W => refText_at key (by omega) W
  have EN0 := fun W => V7.refEncode_any v.k v.i v.s W hs hI hmv
  have PU0 := fun W => refPut_any (n : Int) n rfl ⟨by omega, by omega⟩ W
  have hA : (putL key.length ++ key).length ≤ 40 := by rw [List.length_append]; have := (putL_len key.length).2; omega
  have hC := (putL_len n).2
  change (V7.encL ⟨v.k, v.i, v.s⟩).length ≤ 75 at hB0
  change Calls _ _ _ _ fun e w' => e = .returned (.string (str ((putL key.length ++ key) ++ V7.encL ⟨v.k, v.i, v.s⟩ ++ putL n))) ∧ _
  generalize putL key.length ++ key = A at *
  generalize V7.encL ⟨v.k, v.i, v.s⟩ = B at *
  generalize putL n = C at *
  have TX := Lib.hid TX0
  have EN := Lib.hid EN0
  have PU := Lib.hid PU0
  have cat1 := cat_at A B (by omega)
  have cat2 := cat_at (A ++ B) C (by rw [List.length_append]; omega)
  have cv : IntKind.u64.wrap (n : Int) = (n : Int) := by rw [IntKind.wrap_u64]; omega
  have q0 := heap_alloc_new w (.cells #[.string (str key), .int .i64 v.k, .int .i64 v.i, .string (str v.s), .int .i64 (n : Int)] 32)
  have b0 := (Below.refl w.heap.size w).alloc (Nat.le_refl _) (.cells #[.string (str key), .int .i64 v.k, .int .i64 v.i, .string (str v.s), .int .i64 (n : Int)] 32)
  unfold itV
  clear TX0 EN0 PU0 e hm hI hs hmv hA hB0 hC hk hv
  go_enter Tryd.func62, Tryd.ntmps62
  go_wp2_with fail
  refine g_start (by kernel_rfl) ?_
  refine g_take (i := 0) (d := (some 3)) (v := ?_) rfl rfl (by kernel_rfl) (fun _ _ _ h => h) (by rfl) (fun w' hb' => ?_) ?_
  rotate_left
  · (try go_simp); (try with_reducible rfl)
  try simp only [Act.put, List.setIfInBounds_toArray, List.set_cons_zero, List.set_cons_succ]
  refine g_take (i := 1) (d := (some 4)) (v := ?_) rfl rfl (by kernel_rfl) (fun _ _ _ h => h) (by rfl) (fun w' hb' => ?_) ?_
  rotate_left
  · obtain ⟨d0, d1, d2, d3, d4, dz⟩ := block_cells5 ((hb'.block _ (lt_of_block q0)).trans q0); (try go_simp); (try with_reducible rfl)
  try simp only [Act.put, List.setIfInBounds_toArray, List.set_cons_zero, List.set_cons_succ]
  refine g_take (i := 3) (d := (some 6)) (v := ?_) rfl rfl (by kernel_rfl) (fun _ _ _ h => h) (by rfl) (fun w' hb' => ?_) ?_
  rotate_left
  · (try go_simp); (try with_reducible rfl)
  try simp only [Act.put, List.setIfInBounds_toArray, List.set_cons_zero, List.set_cons_succ]
  refine g_take (i := 4) (d := (some 7)) (v := ?_) rfl rfl (by kernel_rfl) (fun _ _ _ h => h) (by rfl) (fun w' hb' => ?_) ?_
  rotate_left
  · obtain ⟨d0, d1, d2, d3, d4, dz⟩ := block_cells5 ((hb'.block _ (lt_of_block q0)).trans q0); (try go_simp); (try with_reducible rfl)
  try simp only [Act.put, List.setIfInBounds_toArray, List.set_cons_zero, List.set_cons_succ]
  refine g_take (i := 7) (d := (some 10)) (v := ?_) rfl rfl (by kernel_rfl) (fun _ _ _ h => h) (by rfl) (fun w' hb' => ?_) ?_
  rotate_left
  · (try go_simp); (try with_reducible rfl)
  try simp only [Act.put, List.setIfInBounds_toArray, List.set_cons_zero, List.set_cons_succ]
  refine g_take (i := 8) (d := (some 11)) (v := ?_) rfl rfl (by kernel_rfl) (fun _ _ _ h => h) (by rfl) (fun w' hb' => ?_) ?_
  rotate_left
  · obtain ⟨d0, d1, d2, d3, d4, dz⟩ := block_cells5 ((hb'.block _ (lt_of_block q0)).trans q0); (try go_simp); (try with_reducible rfl)
  try simp only [Act.put, List.setIfInBounds_toArray, List.set_cons_zero, List.set_cons_succ]
  refine g_take (i := 9) (d := (some 12)) (v := ?_) rfl rfl (by kernel_rfl) (fun _ _ _ h => h) (by rfl) (fun w' hb' => ?_) ?_
  rotate_left
  · (try go_simp); (try with_reducible rfl)
  try simp only [Act.put, List.setIfInBounds_toArray, List.set_cons_zero, List.set_cons_succ]
  refine g_run (i := 2) rfl (by kernel_rfl) (by rfl) (fun K hK => ?_)
  go_simp; refine (TX.out _).mono ?_; rintro e w1 ⟨rfl, g⟩; have q1 := (g.block _ (lt_of_block q0)).trans q0; have b1 := Below.trans (Below.drew b0) (g.mono ((Below.drew b0)).size); refine hK _ _ ⟨g, ?_⟩; clear hK K g
  try simp only [Act.put, List.setIfInBounds_toArray, List.set_cons_zero, List.set_cons_succ]
  refine g_run (i := 5) rfl (by kernel_rfl) (by rfl) (fun K hK => ?_)
  go_simp; refine (EN.out _).mono ?_; rintro e w2 ⟨rfl, g⟩; have q2 := (g.block _ (lt_of_block q1)).trans q1; have b2 := Below.trans b1 (g.mono (b1).size); refine hK _ _ ⟨g, ?_⟩; clear hK K g
  try simp only [Act.put, List.setIfInBounds_toArray, List.set_cons_zero, List.set_cons_succ]
  refine g_take (i := 6) (d := (some 9)) (v := ?_) rfl rfl (by kernel_rfl) (fun _ _ _ h => h) (by rfl) (fun w' hb' => ?_) ?_
  rotate_left
  · (try go_simp); (try with_reducible rfl)
  try simp only [Act.put, List.setIfInBounds_toArray, List.set_cons_zero, List.set_cons_succ]
  refine g_run (i := 10) rfl (by kernel_rfl) (by rfl) (fun K hK => ?_)
  go_simp; refine (PU.out _).mono ?_; rintro e w3 ⟨rfl, g⟩; have q3 := (g.block _ (lt_of_block q2)).trans q2; have b3 := Below.trans b2 (g.mono (b2).size); refine hK _ _ ⟨g, ?_⟩; clear hK K g
  try simp only [Act.put, List.setIfInBounds_toArray, List.set_cons_zero, List.set_cons_succ]
  refine g_take (i := 11) (d := (some 14)) (v := ?_) rfl rfl (by kernel_rfl) (fun _ _ _ h => h) (by rfl) (fun w' hb' => ?_) ?_
  rotate_left
  · (try go_simp); (try with_reducible rfl)
  try simp only [Act.put, List.setIfInBounds_toArray, List.set_cons_zero, List.set_cons_succ]
  refine g_take (i := 12) (d := (some 2)) (v := ?_) rfl rfl (by kernel_rfl) (fun _ _ _ h => h) (by rfl) (fun w' hb' => ?_) ?_
  rotate_left
  · (try go_simp); (try with_reducible rfl)
  try simp only [Act.put, List.setIfInBounds_toArray, List.set_cons_zero, List.set_cons_succ]
  refine g_done (by kernel_rfl) ?_
  go_wp2_with fail
  go_ret
  exact ⟨by rw [List.append_assoc]; rfl, b3⟩
end Go.Proofs.YtcehgfganjdghaaDoor
namespace Go.Proofs.YtcehgfganjdghaaDoor
open Go.RowKit
set_option linter.unusedVariables false
section
variable {P : Program} {ops : Array Oper} {Q : Exit → Act → World → Prop} {md : Region.Mode} {S : World → Prop} {n : Nat}
/-- Whatever order is picked, and S holds behind each operation ahead of number n. -/
def orders (P : Program) (md : Region.Mode) (ops : Array Oper) (n : Nat) (Q : Exit → Act → World → Prop) (S : World → Prop) : Nat → Array Bool → Act → World → Prop
  | 0, l, a, w => Region.ready md ops l = [] ∧ Q .normal a w
  | f + 1, l, a, w => (Region.ready md ops l = [] → Q .normal a w) ∧
      ∀ i ∈ Region.ready md ops l, wpOp P ops Q i (fun a' w' => (i < n → S w') ∧ orders P md ops n Q S f (l.setIfInBounds i true) a' w') a w
theorem orders_any : ∀ (f : Nat) (l : Array Bool) (a : Act) (w : World), orders P md ops n Q S f l a w → wpAny P md ops Q f l a w
  | 0, _, _, _, h => h
  | f + 1, _, _, _, h => ⟨h.1, fun i hi => wpOp_mono (fun a' w' h' => orders_any f _ a' w' h'.2) (h.2 i hi)⟩
theorem orders_mono {T : World → Prop} (hS : ∀ w, T w → S w) : ∀ (f : Nat) (l : Array Bool) (a : Act) (w : World), orders P md ops n Q T f l a w → orders P md ops n Q S f l a w
  | 0, _, _, _, h => h
  | f + 1, _, _, _, h => ⟨h.1, fun i hi => wpOp_mono (fun a' w' h' => ⟨fun hn => hS _ (h'.1 hn), orders_mono hS f _ a' w' h'.2⟩) (h.2 i hi)⟩
theorem some_ready {l : Array Bool} {i : Nat} (h : i ∈ Region.ready md ops l) : Region.ready md ops l ≠ [] := fun e => by rw [e] at h; cases h
theorem orders_first {i : Nat} {oi : Oper} {v : Value} (hi : ops[i]? = some oi) (hsel : ∀ (j : Nat) (o : Oper) cs b, ops[j]? = some o → o.op ≠ .select cs b)
    (hQ : ∀ c a w, Q (.panic c) (a.put oi.dst v) w → Q (.panic c) a w)
    (hs : Region.sinkB md ops n = true) (hc : Region.chainB md ops n = true) (hn : n < ops.size) (hin : i < n) (f : Nat) : ∀ (l : Array Bool) (a : Act) (w : World), HeadInv md ops n l →
      (∀ j oj, ops[j]? = some oj → j ≠ i → l.getD j true = false → (∀ e ∈ oj.after, Region.binds md e = true → e.on ≠ i) → oi.apart ops oj = true) →
      i ∈ Region.ready md ops l → YieldsIf P ops S oi v a → S w → orders P md ops n Q S f (l.setIfInBounds i true) (a.put oi.dst v) w → orders P md ops n Q S (f + 1) l a w := by
  induction f with
  | zero =>
    intro l a w inv _ hr hy hS H
    refine ⟨fun h => absurd h (some_ready hr), fun j hj => ?_⟩
    rcases Decidable.em (j = i) with rfl | hji
    · exact hy.wpOp hi hS ⟨fun _ => hS, H⟩
    · exact absurd H.1 (some_ready (ready_mono hj hji))
  | succ f ih =>
    intro l a w inv hfree hr hy hS H
    refine ⟨fun h => absurd h (some_ready hr), fun j hj => ?_⟩
    rcases Decidable.em (j = i) with rfl | hji
    · exact hy.wpOp hi hS ⟨fun _ => hS, H⟩
    · have hjn : j < n := Nat.lt_of_not_le fun hle => tail_waits hs hc hn inv _ i rfl hin (mem_ready.1 hr).1 j hle hj
      have step := H.2 j (ready_mono hj hji)
      obtain ⟨unl, oj, hoj, waits⟩ := mem_ready.1 hj
      have noti : ∀ e ∈ oj.after, Region.binds md e = true → e.on ≠ i := by
        intro e he hb heq
        have w1 := waits e he hb
        rw [heq, getD_both (mem_ready.1 hr).1] at w1
        cases w1
      have both := wpOp_putIf hoj (hfree j oj hoj hji unl noti) (fun cs b => hsel i oi cs b hi) (fun cs b => hsel j oj cs b hoj) hQ hy step
      have still := ready_mono hr (Ne.symm hji)
      refine wpOp_mono (fun a' w' k => ?_) both
      obtain ⟨hy', hS', hk⟩ := k
      rw [← Array.setIfInBounds_comm _ _ hji] at hk
      refine ⟨fun _ => hS' hjn, ih _ a' w' (inv.set hj hjn) ?_ still hy' (hS' hjn) hk⟩
      intro k ok hok hki hun hno
      rcases Decidable.em (j = k) with rfl | hjk
      · exact hfree j ok hok hki unl hno
      · rw [getD_set_ne true hjk] at hun
        exact hfree k ok hok hki hun hno
/-- Whatever order is picked from here on, and ahead of number n what is there now stays as it is. -/
def wpT (P : Program) (ops : Array Oper) (n : Nat) (Q : Exit → Act → World → Prop) (f : Nat) (l : Array Bool) (a : Act) (w : World) : Prop :=
  HeadInv .any ops n l → orders P .any ops n Q (fun w' => Below w.heap.size w w') f l a w
theorem t_start {id : Nat} {a : Act} {w : World} (n : Nat) (hm : P.follows .mixedOrders = true) (h : wpT P ops n Q ops.size (Array.replicate ops.size false) a w.drew) : (Code.region id ops true).wp P Q a w := by
  refine wp_region_any hm (orders_any (n := n) (S := fun w' => Below w.drew.heap.size w.drew w') _ _ _ _ (h ⟨by simp, ?_, ?_⟩))
  · intro j oj _ hl
    rw [getD_replicate_false] at hl
    cases hl
  · intro t ht hlt
    simp [hlt]
def statT (ops : Array Oper) (n : Nat) (l : Array Bool) (i : Nat) : Bool := Region.noSelect ops && Region.free .any ops l i && (Region.ready .any ops l).contains i && Region.sinkB .any ops n && Region.chainB .any ops n && decide (n < ops.size) && decide (i < n)
theorem t_take {i : Nat} {oi : Oper} {d : Option Tmp} {v : Value} {f : Nat} {l : Array Bool} {a : Act} {w : World} (hi : ops[i]? = some oi) (hd : oi.dst = d) (hst : statT ops n l i = true)
    (hQ : ∀ c a w, Q (.panic c) (a.put d v) w → Q (.panic c) a w) (hw : Region.wanted oi (yielded ops a.tmps) = true)
    (hy : ∀ w', Below w.heap.size w w' → (execOp a.eval oi).run P w' = .ok (.value v) w')
    (h : wpT P ops n Q f (l.setIfInBounds i true) (a.put d v) w) : wpT P ops n Q (f + 1) l a w := by
  subst hd
  intro inv
  unfold statT at hst
  simp only [Bool.and_eq_true, decide_eq_true_eq] at hst
  obtain ⟨⟨⟨⟨⟨⟨h1, h2⟩, h3⟩, h4⟩, h5⟩, h6⟩, h7⟩ := hst
  have hr : i ∈ Region.ready .any ops l := by simpa using h3
  exact orders_first hi (Region.noSelect_spec h1) hQ h4 h5 h6 h7 f l a w inv (Region.free_spec hi h2) hr (.inl ⟨hw, hy⟩) (Below.refl _ _) (h (inv.set hr h7))
theorem t_run {i : Nat} {oi : Oper} {f : Nat} {l : Array Bool} {a : Act} {w : World} (hi : ops[i]? = some oi) (hr : Region.ready .any ops l = [i]) (hin : decide (i < n) = true)
    (hw : Region.wanted oi (yielded ops a.tmps) = true)
    (h : ∀ K : Act → World → Prop, (∀ a' w', Below w.heap.size w w' ∧ wpT P ops n Q f (l.setIfInBounds i true) a' w' → K a' w') → oi.wp P a w K Q) : wpT P ops n Q (f + 1) l a w := by
  intro inv
  have hm : i ∈ Region.ready .any ops l := by rw [hr]; simp
  refine ⟨fun e => (by rw [hr] at e; cases e), ?_⟩
  intro j hj
  rw [hr, List.mem_singleton] at hj
  subst hj
  unfold wpOp
  simp only [hi, hw, if_true]
  refine .inl (h _ ?_)
  rintro a' w' ⟨hb, hg⟩
  refine ⟨fun _ => hb, orders_mono ?_ _ _ _ _ (hg (inv.set hm (of_decide_eq_true hin)))⟩
  intro w'' hb'
  exact hb.trans (hb'.mono hb.size)
theorem t_run2 {i k : Nat} {oi ok : Oper} {f : Nat} {l : Array Bool} {a : Act} {w : World} (hi : ops[i]? = some oi) (hk : ops[k]? = some ok) (hr : Region.ready .any ops l = [i, k]) (hin : decide (i < n ∧ k < n) = true)
    (hwi : Region.wanted oi (yielded ops a.tmps) = true) (hwk : Region.wanted ok (yielded ops a.tmps) = true)
    (h1 : ∀ K : Act → World → Prop, (∀ a' w', Below w.heap.size w w' ∧ wpT P ops n Q f (l.setIfInBounds i true) a' w' → K a' w') → oi.wp P a w K Q)
    (h2 : ∀ K : Act → World → Prop, (∀ a' w', Below w.heap.size w w' ∧ wpT P ops n Q f (l.setIfInBounds k true) a' w' → K a' w') → ok.wp P a w K Q) : wpT P ops n Q (f + 1) l a w := by
  intro inv
  have hmi : i ∈ Region.ready .any ops l := by rw [hr]; simp
  have hmk : k ∈ Region.ready .any ops l := by rw [hr]; simp
  have hb := of_decide_eq_true hin
  refine ⟨fun e => (by rw [hr] at e; cases e), ?_⟩
  intro j hj
  rw [hr, List.mem_cons, List.mem_singleton] at hj
  rcases hj with rfl | rfl
  · unfold wpOp
    simp only [hi, hwi, if_true]
    refine .inl (h1 _ ?_)
    rintro a' w' ⟨hb', hg⟩
    exact ⟨fun _ => hb', orders_mono (fun w'' h'' => hb'.trans (h''.mono hb'.size)) _ _ _ _ (hg (inv.set hmi hb.1))⟩
  · unfold wpOp
    simp only [hk, hwk, if_true]
    refine .inl (h2 _ ?_)
    rintro a' w' ⟨hb', hg⟩
    exact ⟨fun _ => hb', orders_mono (fun w'' h'' => hb'.trans (h''.mono hb'.size)) _ _ _ _ (hg (inv.set hmk hb.2))⟩
theorem t_last {i : Nat} {oi : Oper} {f : Nat} {l : Array Bool} {a : Act} {w : World} (hi : ops[i]? = some oi) (hr : Region.ready .any ops l = [i]) (hin : decide (n ≤ i) = true) (he : Region.ready .any ops (l.setIfInBounds i true) = [])
    (hw : Region.wanted oi (yielded ops a.tmps) = true)
    (h : ∀ K : Act → World → Prop, (∀ a' w', Q .normal a' w' → K a' w') → oi.wp P a w K Q) : wpT P ops n Q (f + 1) l a w := by
  intro inv
  refine ⟨fun e => (by rw [hr] at e; cases e), ?_⟩
  intro j hj
  rw [hr, List.mem_singleton] at hj
  subst hj
  unfold wpOp
  simp only [hi, hw, if_true]
  refine .inl (h _ ?_)
  intro a' w' hq
  refine ⟨fun hlt => absurd hlt (Nat.not_lt_of_le (of_decide_eq_true hin)), ?_⟩
  cases f with
  | zero => exact ⟨he, hq⟩
  | succ f => exact ⟨fun _ => hq, by rw [he]; simp⟩
end
end Go.Proofs.YtcehgfganjdghaaDoor
