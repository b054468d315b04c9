/- Small lemmas of my own on memory: blocks that are laid, cells that are set; they speak of no program in particular. -/
/- A slice whose elements take one cell each, as a list of values: what is read of it. It speaks of no program in particular. -/
/- A table of texts: the map of their numbers. -/
/- A region whose order is open, walked once, its last operation whatever it is (a store, say): what only reads is taken first, since ahead of the last operation what was there stays as it was; what runs comes in the one order that its edges leave. -/
import Derived.Test.YtoagdmglchccnaaGreatDoorQRR1
import Derived.WalkSpells
import Derived.Handy
import Derived.Deep.Light
import Derived.Deep.Draws
import Derived.OpenShut
import Derived.Test.YtoagdmglchccnaaGreatDoorProg
import Derived.Maps.OwnSet
import Derived.OrdersHeld
import Derived.StillTail
import Derived.Deep.RegionWith
namespace Go.Proofs.YtoagdmglchccnaaGreatDoor
open Go.RowKit
set_option linter.unusedVariables false
set_option linter.unusedSimpArgs false
theorem two_allocs (w : World) (a b : Obj) :
    ((w.alloc a).alloc b).heap[w.heap.size]? = some a ∧ ((w.alloc a).alloc b).heap[w.heap.size + 1]? = some b ∧ ((w.alloc a).alloc b).heap.size = w.heap.size + 2 ∧ ∀ k, k < w.heap.size → ((w.alloc a).alloc b).heap[k]? = w.heap[k]? := by
  have z1 : (w.alloc a).heap.size = w.heap.size + 1 := by simp
  refine ⟨?_, ?_, by simp, ?_⟩
  · rw [heap_alloc_old _ _ (by omega), heap_alloc_new]
  · rw [← z1, heap_alloc_new]
  · intro k hk
    rw [heap_alloc_old _ _ (by omega), heap_alloc_old _ _ hk]
theorem lt_of_block {w : World} {k : Nat} {o : Obj} (h : w.heap[k]? = some o) : k < w.heap.size := (Array.getElem?_eq_some_iff.1 h).1
theorem set_old {w : World} {B i k : Nat} {u : Value} (h : k ≠ B) : (w.setCell ⟨B, i, none⟩ u).heap[k]? = w.heap[k]? := heap_setCell_other w ⟨B, i, none⟩ k u (by simpa using h)
theorem block_cell {w : World} {B : Nat} {cs : Array Value} {t : TypeId} (h : w.heap[B]? = some (.cells cs t (0, 0))) (i : Nat) : w.cell? ⟨B, i, none⟩ = cs[i]? := by
  simp [World.cell?, h]
theorem block_frozen {w : World} {B : Nat} {cs : Array Value} {t : TypeId} (h : w.heap[B]? = some (.cells cs t (0, 0))) (i : Nat) : w.frozen? ⟨B, i, none⟩ = false := by
  simp [World.frozen?, h]
theorem chain {W wx w' : World} (B : Below W.heap.size W wx) (g : Below wx.heap.size wx w') : Below W.heap.size W w' := B.trans (g.mono B.size)
theorem up {P : Program} {F : Nat} {args : Array Value} {w W : World} {x : Ending} (h : Calls P F args w fun e w' => e = x ∧ Below w.heap.size w w') (hb : Below W.heap.size W w) : Calls P F args w fun e w' => e = x ∧ Below W.heap.size W w' :=
  h.mono fun e w' ⟨a, g⟩ => ⟨a, hb.trans (g.mono hb.size)⟩
theorem below_drewN {w0 w : World} {n k : Nat} (h : Below n w0 w) : Below n w0 (w.drewN k) := ⟨h.os, h.tape, h.output, h.size, h.block⟩
theorem set_at {w : World} {B i : Nat} {cs : Array Value} {t : TypeId} {u : Value} (h : w.heap[B]? = some (.cells cs t (0, 0))) : (w.setCell ⟨B, i, none⟩ u).heap[B]? = some (.cells (cs.setIfInBounds i u) t (0, 0)) :=
  heap_setCell_same w B i cs t u h
end Go.Proofs.YtoagdmglchccnaaGreatDoor
namespace Go.Proofs.YtoagdmglchccnaaGreatDoor
open Go.RowKit
set_option linter.unusedVariables false
set_option linter.unusedSimpArgs false
def RdV (w : World) (v : Value) (xs : List Value) : Prop :=
  ∃ ao cap, v = .slice ao xs.length cap ∧ xs.length ≤ cap ∧ cap ≤ maxLen ∧ (ao = none → cap = 0) ∧
    (0 < xs.length → ∃ b off, ao = some ⟨b, off, none⟩ ∧ b < w.heap.size ∧ ∀ i, i < xs.length → w.cell? ⟨b, off + i, none⟩ = xs[i]?)
theorem rdv_nil (w : World) : RdV w (.slice none 0 0) [] := ⟨none, 0, rfl, by simp, by decide, by simp, by simp⟩
theorem RdV.below {w w' : World} {v : Value} {xs : List Value} (h : RdV w v xs) {B : Nat} (hb : Below B w w') (hB : w.heap.size ≤ B) : RdV w' v xs := by
  obtain ⟨ao, cap, h1, h2, h3, h4, h5⟩ := h
  refine ⟨ao, cap, h1, h2, h3, h4, ?_⟩
  intro hl
  obtain ⟨b, off, h6, h7, h8⟩ := h5 hl
  exact ⟨b, off, h6, Nat.lt_of_lt_of_le h7 hb.size, fun i hi => (hb.cell (p := ⟨b, off + i, none⟩) (Nat.lt_of_lt_of_le h7 hB)).trans (h8 i hi)⟩
theorem own_rdv {w : World} {base : Nat} {e : TypeId} {v : Value} {n : Nat} {xs : List Value} (h : w.ownsRow base e 1 v n xs) : RdV w v xs := by
  have hl : xs.length = n := by have := h.1; simpa using this
  rcases h.2 with ⟨h1, h2⟩ | ⟨g, cap, cur, h1, _, _, h2, h3, _⟩
  · subst h1
    have : xs = [] := List.eq_nil_of_length_eq_zero (by omega)
    subst this
    exact rdv_nil w
  · subst h1
    subst hl
    refine ⟨_, cap, rfl, h2, h3, by simp, ?_⟩
    intro _
    refine ⟨g, 0, rfl, (h.lt g rfl).2, ?_⟩
    intro i hi
    rw [Nat.zero_add, h.cellAt i (by simpa using hi)]
/-- What is read, shorter. -/
theorem RdV.short {w : World} {ao : Option Addr} {n cap : Nat} {xs : List Value} (h : RdV w (.slice ao n cap) xs) (m : Nat) (hm : m ≤ n) : RdV w (.slice ao m cap) (xs.take m) := by
  obtain ⟨ao', cap', h1, h2, h3, h4, h5⟩ := h
  injection h1 with e1 e2 e3
  subst e1; subst e3
  have hlen : (xs.take m).length = m := by simp; omega
  refine ⟨ao, cap, by rw [hlen], by omega, h3, h4, ?_⟩
  intro h0
  rw [hlen] at h0 ⊢
  obtain ⟨b, off, h6, h7, h8⟩ := h5 (by omega)
  exact ⟨b, off, h6, h7, fun i hi => by rw [h8 i (by omega), List.getElem?_take, if_pos hi]⟩
end Go.Proofs.YtoagdmglchccnaaGreatDoor
namespace Go.Proofs.YtoagdmglchccnaaGreatDoor.T2
open Go Go.RowKit Go.Maps
set_option linter.unusedVariables false
set_option linter.unusedSimpArgs false
abbrev Txt := List UInt8
def sv (l : Txt) : Value := .string (str l)
def kl (l : Txt) : Lit := .string l
theorem law : Keyed Tryz.prog 9 := string_keyed Tryz.underlying9
theorem key_txt (l : Txt) (h : l.length ≤ maxLen) : keyOf Tryz.prog 9 (sv l) = some (kl l) := by
  have := WideMaps.keyOf_string_mk Tryz.underlying9 (s := str l) (by rw [str_size]; exact h)
  rw [str_toList] at this
  exact this
theorem zero_int (w : World) : (zeroValue 3).run Tryz.prog w = .ok (.int .i64 0) w := by kernel_rfl
theorem snoc_ind {α : Type} {P : List α → Prop} (h0 : P []) (h1 : ∀ l a, P l → P (l ++ [a])) (l : List α) : P l := by
  have : ∀ l : List α, P l.reverse := fun l => by
    induction l with
    | nil => exact h0
    | cons a l ih => rw [List.reverse_cons]; exact h1 _ _ ih
  rw [← List.reverse_reverse l]; exact this _
/-- The number of a text in a list; 0: it has none. -/
def numN (L : List Txt) (s : Txt) : Nat := if s ∈ L then L.idxOf s + 1 else 0
def numF (x : DataW Unit × Nat) (s : Txt) : DataW Unit × Nat := (x.1.put (kl s) (.lit (.int .i64 ((x.2 : Int) + 1))), x.2 + 1)
def numD (L : List Txt) : DataW Unit := (L.foldl numF (.map [], 0)).1
theorem numF_len (L : List Txt) : (L.foldl numF (.map [], 0)).2 = L.length := by
  induction L using snoc_ind with
  | h0 => rfl
  | h1 L s ih => rw [List.foldl_append, List.length_append]; simp [numF, ih]
theorem numD_snoc (L : List Txt) (s : Txt) : numD (L ++ [s]) = (numD L).put (kl s) (.lit (.int .i64 ((L.length : Int) + 1))) := by
  have e : (L ++ [s]).foldl numF (.map [], 0) = numF (L.foldl numF (.map [], 0)) s := by simp
  unfold numD
  rw [e]
  show (L.foldl numF (.map [], 0)).1.put (kl s) (.lit (.int .i64 (((L.foldl numF (.map [], 0)).2 : Int) + 1))) = _
  rw [numF_len]
theorem numD_map (L : List Txt) : IsMap (numD L) := by
  induction L using snoc_ind with
  | h0 => exact isMap_empty
  | h1 L s ih => rw [numD_snoc]; exact ih.put _ _
theorem kl_ne {a b : Txt} (h : a ≠ b) : kl a ≠ kl b := by unfold kl; intro e; cases e; exact h rfl
theorem num_snoc_old {L : List Txt} {s t : Txt} (h : s ∈ L) : numN (L ++ [t]) s = numN L s := by
  unfold numN
  rw [if_pos (List.mem_append_left _ h), if_pos h, List.idxOf_append, if_pos h]
theorem num_snoc_new {L : List Txt} {s : Txt} (h : ¬ s ∈ L) : numN (L ++ [s]) s = L.length + 1 := by
  unfold numN
  rw [if_pos (by simp), List.idxOf_append, if_neg h]
  simp
theorem num_snoc_other {L : List Txt} {s t : Txt} (h : s ≠ t) : numN (L ++ [t]) s = numN L s := by
  by_cases hm : s ∈ L
  · exact num_snoc_old hm
  · unfold numN; rw [if_neg (by simp [hm, h]), if_neg hm]
theorem numD_at (L : List Txt) (s : Txt) : L.Nodup → Maps.has (numD L) (kl s) = decide (s ∈ L) ∧ (numD L).atKey (kl s) (.lit (.int .i64 0)) = .lit (.int .i64 (numN L s : Int)) := by
  induction L using snoc_ind with
  | h0 => intro _; exact ⟨by simp [numD, Maps.has], by simp [numD, numN, DataW.atKey]⟩
  | h1 L t ih =>
    intro hn
    rw [List.nodup_append] at hn
    have hnt : ¬ t ∈ L := fun h => hn.2.2 t h t (by simp) rfl
    obtain ⟨i1, i2⟩ := ih hn.1
    rw [numD_snoc]
    by_cases e : s = t
    · subst e
      refine ⟨?_, ?_⟩
      · rw [has_put_same (numD_map L) (by trivial)]; simp
      · rw [atKey_put_same (numD_map L) (by trivial), num_snoc_new hnt]; simp
    · refine ⟨?_, ?_⟩
      · rw [has_put_other (kl_ne e), i1]; simp [e]
      · rw [atKey_put_other (kl_ne e), i2, num_snoc_other e]
/-- How a table lies in memory. -/
structure TB (w : World) (base B M : Nat) (v : Value) (L : List Txt) : Prop where
  nd : L.Nodup
  wf : ∀ x ∈ L, x.length ≤ maxLen
  len : L.length ≤ 2000
  bB : base ≤ B
  bM : base ≤ M
  blk : w.heap[B]? = some (.cells #[.map (some M), v] 124 (0, 0))
  map : w.ownsMap Tryz.prog 9 (plainElem Tryz.prog 3) M L.length (numD L)
  row : w.ownsRow base 9 1 v L.length (L.map sv)
theorem own_slice' {w : World} {base : Nat} {e : TypeId} {size : Nat} {v : Value} {n : Nat} {xs : List Value} (h : w.ownsRow base e size v n xs) : ∃ ao c, v = .slice ao n c := by
  rcases h.2 with ⟨e, h2⟩ | ⟨g, cap, cur, e, _⟩
  · exact ⟨none, 0, by rw [e, h2]⟩
  · exact ⟨_, _, e⟩
theorem TB.kept {w w' : World} {base B M : Nat} {v : Value} {L : List Txt} (h : TB w base B M v L)
    (g : ∀ k, k < w.heap.size → (k = B ∨ k = M ∨ v.ownBlock = some k) → w'.heap[k]? = w.heap[k]?) : TB w' base B M v L := by
  refine ⟨h.nd, h.wf, h.len, h.bB, h.bM, (g B (lt_of_block h.blk) (.inl rfl)).trans h.blk, ?_, ?_⟩
  · obtain ⟨es, clock, h3, h4⟩ := h.map
    exact ⟨es, clock, (g M (lt_of_block h3) (.inr (.inl rfl))).trans h3, h4⟩
  · refine ⟨h.row.1, ?_⟩
    rcases h.row.2 with hn | ⟨k, cap, cur, rfl, hb, hgg, rest⟩
    · exact .inl hn
    · exact .inr ⟨k, cap, cur, rfl, hb, (g k (lt_of_block hgg) (.inr (.inr rfl))).trans hgg, rest⟩
theorem TB.below {w w' : World} {base B M : Nat} {v : Value} {L : List Txt} (h : TB w base B M v L) (g : Below w.heap.size w w') : TB w' base B M v L :=
  h.kept fun k hk _ => g.block k hk
theorem cells2 {w : World} {B : Nat} {a0 a1 : Value} {t : TypeId} (h : w.heap[B]? = some (.cells #[a0, a1] t (0, 0))) : w.cell? ⟨B, 0, none⟩ = some a0 ∧ w.cell? ⟨B, 1, none⟩ = some a1 := by
  refine ⟨?_, ?_⟩
  all_goals simp [World.cell?, h]
end Go.Proofs.YtoagdmglchccnaaGreatDoor.T2
namespace Go.Proofs.YtoagdmglchccnaaGreatDoor
open Go.RowKit
set_option linter.unusedVariables false
section
variable {P : Program} {ops : Array Oper} {Q : Exit → Act → World → Prop} {md : Region.Mode} {S : World → Prop} {n : Nat}
/-- Whatever order is picked, and S holds behind each operation ahead of number n. -/
def orders (P : Program) (md : Region.Mode) (ops : Array Oper) (n : Nat) (Q : Exit → Act → World → Prop) (S : World → Prop) : Nat → Array Bool → Act → World → Prop
  | 0, l, a, w => Region.ready md ops l = [] ∧ Q .normal a w
  | f + 1, l, a, w => (Region.ready md ops l = [] → Q .normal a w) ∧
      ∀ i ∈ Region.ready md ops l, wpOp P ops Q i (fun a' w' => (i < n → S w') ∧ orders P md ops n Q S f (l.setIfInBounds i true) a' w') a w
theorem orders_any : ∀ (f : Nat) (l : Array Bool) (a : Act) (w : World), orders P md ops n Q S f l a w → wpAny P md ops Q f l a w
  | 0, _, _, _, h => h
  | f + 1, _, _, _, h => ⟨h.1, fun i hi => wpOp_mono (fun a' w' h' => orders_any f _ a' w' h'.2) (h.2 i hi)⟩
theorem some_ready {l : Array Bool} {i : Nat} (h : i ∈ Region.ready md ops l) : Region.ready md ops l ≠ [] := fun e => by rw [e] at h; cases h
theorem orders_first {i : Nat} {oi : Oper} {v : Value} (hi : ops[i]? = some oi) (hsel : ∀ (j : Nat) (o : Oper) cs b, ops[j]? = some o → o.op ≠ .select cs b)
    (hQ : ∀ c a w, Q (.panic c) (a.put oi.dst v) w → Q (.panic c) a w)
    (hs : Region.sinkB md ops n = true) (hc : Region.chainB md ops n = true) (hn : n < ops.size) (hin : i < n) (f : Nat) : ∀ (l : Array Bool) (a : Act) (w : World), HeadInv md ops n l →
      (∀ j oj, ops[j]? = some oj → j ≠ i → l.getD j true = false → (∀ e ∈ oj.after, Region.binds md e = true → e.on ≠ i) → oi.apart ops oj = true) →
      i ∈ Region.ready md ops l → YieldsIf P ops S oi v a → S w → orders P md ops n Q S f (l.setIfInBounds i true) (a.put oi.dst v) w → orders P md ops n Q S (f + 1) l a w := by
  induction f with
  | zero =>
    intro l a w inv _ hr hy hS H
    refine ⟨fun h => absurd h (some_ready hr), fun j hj => ?_⟩
    rcases Decidable.em (j = i) with rfl | hji
    · exact hy.wpOp hi hS ⟨fun _ => hS, H⟩
    · exact absurd H.1 (some_ready (ready_mono hj hji))
  | succ f ih =>
    intro l a w inv hfree hr hy hS H
    refine ⟨fun h => absurd h (some_ready hr), fun j hj => ?_⟩
    rcases Decidable.em (j = i) with rfl | hji
    · exact hy.wpOp hi hS ⟨fun _ => hS, H⟩
    · have hjn : j < n := Nat.lt_of_not_le fun hle => tail_waits hs hc hn inv _ i rfl hin (mem_ready.1 hr).1 j hle hj
      have step := H.2 j (ready_mono hj hji)
      obtain ⟨unl, oj, hoj, waits⟩ := mem_ready.1 hj
      have noti : ∀ e ∈ oj.after, Region.binds md e = true → e.on ≠ i := by
        intro e he hb heq
        have w1 := waits e he hb
        rw [heq, getD_both (mem_ready.1 hr).1] at w1
        cases w1
      have both := wpOp_putIf hoj (hfree j oj hoj hji unl noti) (fun cs b => hsel i oi cs b hi) (fun cs b => hsel j oj cs b hoj) hQ hy step
      have still := ready_mono hr (Ne.symm hji)
      refine wpOp_mono (fun a' w' k => ?_) both
      obtain ⟨hy', hS', hk⟩ := k
      rw [← Array.setIfInBounds_comm _ _ hji] at hk
      refine ⟨fun _ => hS' hjn, ih _ a' w' (inv.set hj hjn) ?_ still hy' (hS' hjn) hk⟩
      intro k ok hok hki hun hno
      rcases Decidable.em (j = k) with rfl | hjk
      · exact hfree j ok hok hki unl hno
      · rw [getD_set_ne true hjk] at hun
        exact hfree k ok hok hki hun hno
/-- Whatever order is picked from here on, and ahead of number n what is there now stays as it is. -/
def wpT (P : Program) (ops : Array Oper) (n : Nat) (Q : Exit → Act → World → Prop) (f : Nat) (l : Array Bool) (a : Act) (w : World) : Prop :=
  HeadInv .any ops n l → orders P .any ops n Q (fun w' => Below w.heap.size w w') f l a w
theorem t_start {id : Nat} {a : Act} {w : World} (n : Nat) (hm : P.follows .mixedOrders = true) (h : wpT P ops n Q ops.size (Array.replicate ops.size false) a w.drew) : (Code.region id ops true).wp P Q a w := by
  refine wp_region_any hm (orders_any (n := n) (S := fun w' => Below w.drew.heap.size w.drew w') _ _ _ _ (h ⟨by simp, ?_, ?_⟩))
  · intro j oj _ hl
    rw [getD_replicate_false] at hl
    cases hl
  · intro t ht hlt
    simp [hlt]
def statT (ops : Array Oper) (n : Nat) (l : Array Bool) (i : Nat) : Bool := Region.noSelect ops && Region.free .any ops l i && (Region.ready .any ops l).contains i && Region.sinkB .any ops n && Region.chainB .any ops n && decide (n < ops.size) && decide (i < n)
theorem t_take {i : Nat} {oi : Oper} {d : Option Tmp} {v : Value} {f : Nat} {l : Array Bool} {a : Act} {w : World} (hi : ops[i]? = some oi) (hd : oi.dst = d) (hst : statT ops n l i = true)
    (hQ : ∀ c a w, Q (.panic c) (a.put d v) w → Q (.panic c) a w) (hw : Region.wanted oi (yielded ops a.tmps) = true)
    (hy : ∀ w', Below w.heap.size w w' → (execOp a.eval oi).run P w' = .ok (.value v) w')
    (h : wpT P ops n Q f (l.setIfInBounds i true) (a.put d v) w) : wpT P ops n Q (f + 1) l a w := by
  subst hd
  intro inv
  unfold statT at hst
  simp only [Bool.and_eq_true, decide_eq_true_eq] at hst
  obtain ⟨⟨⟨⟨⟨⟨h1, h2⟩, h3⟩, h4⟩, h5⟩, h6⟩, h7⟩ := hst
  have hr : i ∈ Region.ready .any ops l := by simpa using h3
  exact orders_first hi (Region.noSelect_spec h1) hQ h4 h5 h6 h7 f l a w inv (Region.free_spec hi h2) hr (.inl ⟨hw, hy⟩) (Below.refl _ _) (h (inv.set hr h7))
theorem t_last {i : Nat} {oi : Oper} {f : Nat} {l : Array Bool} {a : Act} {w : World} (hi : ops[i]? = some oi) (hr : Region.ready .any ops l = [i]) (hin : decide (n ≤ i) = true) (he : Region.ready .any ops (l.setIfInBounds i true) = [])
    (hw : Region.wanted oi (yielded ops a.tmps) = true)
    (h : ∀ K : Act → World → Prop, (∀ a' w', Q .normal a' w' → K a' w') → oi.wp P a w K Q) : wpT P ops n Q (f + 1) l a w := by
  intro inv
  refine ⟨fun e => (by rw [hr] at e; cases e), ?_⟩
  intro j hj
  rw [hr, List.mem_singleton] at hj
  subst hj
  unfold wpOp
  simp only [hi, hw, if_true]
  refine .inl (h _ ?_)
  intro a' w' hq
  refine ⟨fun hlt => absurd hlt (Nat.not_lt_of_le (of_decide_eq_true hin)), ?_⟩
  cases f with
  | zero => exact ⟨he, hq⟩
  | succ f => exact ⟨fun _ => hq, by rw [he]; simp⟩
end
end Go.Proofs.YtoagdmglchccnaaGreatDoor
