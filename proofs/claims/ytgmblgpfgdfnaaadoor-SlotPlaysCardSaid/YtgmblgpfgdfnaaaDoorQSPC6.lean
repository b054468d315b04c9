/- Quorums: the list of a set. -/
/- Quorums: the chapter's examples; the law QuorumSizes. -/
/- Quorums: the document's sets; the set of a list. -/
/- A slice whose elements take one cell each, as a list of values: what is read of it. It speaks of no program in particular. -/
/- Quorums: the set of a list; the document's list of a set. -/
/- Quorums: the laws QuorumSets and QuorumOf. -/
/- Quorums: what sets have in common. Plain mathematics. -/
import Derived.Test.YtgmblgpfgdfnaaaDoorQSPC5
import Derived.Test.YtgmblgpfgdfnaaaDoorQSPC2
import Derived.OpenShut
import Derived.Deep.QuietTactic
import Derived.BigQuiet
namespace Go.Proofs.YtgmblgpfgdfnaaaDoor
open Go Go.RowKit
attribute [local go_sem] Oper.semAt_some
set_option linter.unusedVariables false
set_option linter.unusedSimpArgs false
def iv (n : Nat) : Value := .int .i64 (n : Int)
theorem intinfo : (Tryd.prog.info? 3).map (fun i => (i.zero, i.size, i.bytes)) = some (some (.int .i64 0), 1, 8) := by kernel_rfl
/-- What the loop of List keeps. -/
def InvL (n0 : Nat) (w : World) (pre : List Nat) (W : World) : Prop :=
  ((∃ v, Boxed W n0 69 v ∧ W.ownsRow n0 3 1 v pre.length (pre.map iv)) ∧ ∃ u, Boxed W (n0 + 1) 67 u) ∧ Below n0 w W
theorem InvL.from (n0 : Nat) (w : World) (B : Nat) (hB : n0 ≤ B) (hB' : n0 ≤ w.heap.size) : OwnFrom B (InvL n0 w) := by
  rintro s X Y row ⟨⟨⟨v, hv, hr⟩, u, hu⟩, hb⟩ hg hrow
  have nb : ∀ {C : Nat} {t : TypeId} {x : Value}, Boxed X C t x → some C ≠ row := by
    intro C t x hx e
    obtain ⟨_, o, ho, hc⟩ := hrow C e.symm
    rw [show X.heap[C]? = _ from hx] at ho; cases ho; cases hc
  refine ⟨⟨⟨v, hv.kept hg (nb hv), hr.kept hg ?_⟩, u, hu.kept hg (nb hu)⟩, hb.grown hg (Nat.le_trans hB' hb.size) fun j e => Nat.le_trans hB (hrow j e).1⟩
  rcases hr.2 with ⟨rfl, _⟩ | ⟨g, cap, cur, rfl, _, hgb, _⟩
  · exact .inl rfl
  · refine .inr fun e' => ?_
    obtain ⟨_, o, ho, hc⟩ := hrow g (by simpa [Value.ownBlock] using e'.symm)
    rw [hgb] at ho; cases ho; cases hc
theorem InvL.turn (n0 : Nat) (w : World) (s : List Nat) (X Y : World) (h : InvL n0 w s X) (t : TwB (n0 + 1) X Y) : InvL n0 w s Y := by
  obtain ⟨⟨⟨v, hv, hr⟩, u, hu⟩, hb⟩ := h
  obtain ⟨x, rfl⟩ := t
  have g := grownBy_setCell' X (n0 + 1) x
  exact ⟨⟨⟨v, hv.kept g (by simp), hr.kept g (.inr (hu.not_row (by decide) hr).symm)⟩, x, hu.set x⟩, hb.setCell (p := ⟨n0 + 1, 0, none⟩) (by simp) x⟩
theorem kpB_put {n0 : Nat} {w : World} (hw : n0 + 1 < w.heap.size) (W : World) (l : Nat) (o o' : Obj) (hl : w.heap.size ≤ l) (h : W.heap[l]? = some o) (_ : o.isCells = false) (_ : o.isWalk = false) : KpB (n0 + 1) W (W.putObj l o') := by
  refine ⟨?_, World.putObj_heap_other (by omega), World.putObj_heap_other (by omega)⟩
  exact (grownBy_putObj' W l o').size
set_option maxRecDepth 100000 in
set_option maxHeartbeats 2000000 in
theorem list_any (s : Nat) (hs : s < 18446744073709551616) (w : World) (hT : TabAt w) :
    Calls Tryd.prog 48 #[.int .u64 (s : Int)] w fun e w' => ∃ v, e = .returned v ∧ w'.ownsRow w.heap.size 3 1 v (listN s).length ((listN s).map iv) ∧ Below w.heap.size w w' := by
  refine (callsIn_wide (n := 3)).1 ?_
  obtain ⟨i0, hi, hz0, hz1, hz2⟩ := info_parts intinfo
  refine callsIn_of_wp_marks Tryd.func48 rfl trivial ?_ rfl
  simp only [Tryd.ntmps48, List.size_toArray, List.length_cons, List.length_nil, Nat.reduceAdd, Nat.reduceSub, Array.replicate_succ, Array.replicate_zero, List.push_toArray, List.append_toArray, List.nil_append, List.cons_append]
  have HS := Lib.hid hs
  clear hs
  gi_wp2_with (refine ⟨trivial, ?_⟩; gi_at_call 59; refine (callsIn_wide.2 (numbers_any s _)).mono ?_; rintro e w' ⟨rfl, rfl⟩)
  obtain ⟨W0, hW0⟩ : ∃ W0, W0 = (w.alloc (Obj.cells #[Value.slice none 0 0] 69)).alloc (Obj.cells #[Value.int IntKind.u64 (s : Int)] 67) := ⟨_, rfl⟩
  have z0 : W0.heap.size = w.heap.size + 2 := by rw [hW0]; simp
  have bO : Boxed W0 w.heap.size 69 (.slice none 0 0) := by rw [hW0]; exact (Boxed.new w 69 (.slice none 0 0)).alloc _
  have bS : Boxed W0 (w.heap.size + 1) 67 (.int .u64 (s : Int)) := by
    have := Boxed.new (w.alloc (Obj.cells #[Value.slice none 0 0] 69)) 67 (.int .u64 (s : Int))
    rw [World.size_alloc] at this
    rw [hW0]; exact this
  have b0 : Below w.heap.size w W0 := by rw [hW0]; exact ((Below.refl _ w).alloc (Nat.le_refl _) _).alloc (by simp) _
  rw [← hW0]
  have Z0 := Lib.hid z0
  clear hW0 z0
  refine range_law rfl (by decide) (gf := 62) (lb := #[.pointer (some ⟨w.heap.size + 1, 0, none⟩)]) rfl trivial (enters_of Tryd.func62 (by kernel_rfl) rfl) (fun _ => rfl)
    (nums_gives (3 - 1) (by decide) (w.heap.size + 1) s HS.out (by omega) W0 bS (hT.below b0 hT.1))
    (fun A B ⟨v, e⟩ => by rw [e]; exact (KeepsOthers.setCell _ _ _).from _) (fun h k => h.trans k) (kpB_put (by rw [Z0.out]; omega))
    (InvL w.heap.size w) (fun _ _ _ => False) (InvL.from _ _ _ (by rw [Z0.out]; omega) (Nat.le_refl _)) (fun _ _ _ _ _ h _ _ => h) (InvL.turn _ _) (fun _ _ _ _ h _ => h)
    ⟨⟨⟨_, bO, World.ownsRow_nil _ _ _ _⟩, _, bS⟩, b0⟩
    (fun x => { tmps := #[.int .u64 (s : Int), undef, .slice none 0 0, .pointer (some ⟨w.heap.size, 0, none⟩), .int .i64 (x : Int), .int .u64 (s : Int), .func (.func 62) #[] #[.pointer (some ⟨w.heap.size + 1, 0, none⟩)], .int .i64 (x : Int), undef, undef, undef, undef, undef], defers := [] }) ?assign ?body ?done ?stop
  case assign =>
    intro l x W K hK
    gi_wp2
    exact hK
  case body =>
    rintro l pre x W ⟨⟨⟨v, hv, hrow⟩, u, hu⟩, hB⟩ hlt
    have hc := hv.cell
    gi_wp2_with (gi_at_builtin; refine wpListIn_append_own _ rfl _ _ 69 rfl w.heap.size 3 i0 (.int .i64 0) 1 8 Tryd.underlying69 hi hz0 hz1 hz2 rfl (by decide) _ _ _ rfl (hrow.alloc _) ⟨W.heap.size, 0, none⟩ 1 1 [iv x] rfl rfl (cell_one_new _ _ _) (by simp [Value.oneCell', iv]) (by unfold maxLen; omega) (by omega) (by have := hB.size; simp; omega) ?_; intro v' w1 hown' hgrow _; obtain ⟨g', cap', rfl⟩ := ownsRow_succ hown'; obtain ⟨hv1, hv2, hr2, hk2, hb2⟩ := hv.appended (by decide) hrow hB.size (Nat.le_refl _) hown' hgrow; have hc1 := hv1.cell; have hf1 := hv1.frozen)
    have hu1 : Boxed w1 (w.heap.size + 1) 67 u := (hu.alloc _).kept hgrow (hu.not_row (by decide) hrow)
    have hu2 := hu1.kept (grownBy_setCell' w1 w.heap.size (.slice (some ⟨g', 0, none⟩) (pre.length + 1) cap')) (by simp)
    refine ⟨hk2.from _, ⟨hb2.size, hu2.trans hu.symm, ?_⟩, ⟨⟨_, hv2, ?_⟩, u, hu2⟩, hB.trans hb2⟩
    · exact hb2.block 0 hT.1
    · simpa using hr2
  case done =>
    rintro D ys W hD rfl ⟨⟨⟨v, hv, hrow⟩, u, hu⟩, hB⟩ hK
    have hc := hv.cell
    gi_wp2
    refine ⟨by simp, .inl ⟨_, _, rfl, run_takeDeferred hK, ?_⟩⟩
    exact ⟨_, results_tmp rfl _ _ _, v, rfl, ownsRow_putObj hrow _ hK rfl, hB.trans (belowK_b (w := w) (Nat.le_refl _) W D _ _ (by have := Z0.out; omega) hK rfl rfl)⟩
  case stop =>
    rintro D c pre W _ _ h _
    exact h.elim
end Go.Proofs.YtgmblgpfgdfnaaaDoor
namespace Go.Proofs.YtgmblgpfgdfnaaaDoor
open Go.RowKit
set_option linter.unusedVariables false
set_option linter.unusedSimpArgs false
theorem fN_range (n : Int) : 0 ≤ fN n ∧ fN n ≤ 5 := by have := fN_cases n; omega
end Go.Proofs.YtgmblgpfgdfnaaaDoor
namespace Go.Proofs.YtgmblgpfgdfnaaaDoor
open Go.RowKit
set_option linter.unusedVariables false
set_option linter.unusedSimpArgs false
theorem bit_div (s n : Nat) : s.testBit n = decide (s / 2 ^ n % 2 = 1) := Nat.testBit_eq_decide_div_mod_eq
theorem hasZ_in (s n : Nat) (h : n < 64) : hasZ s (n : Int) = s.testBit n := by
  unfold hasZ
  have h1 : decide ((0 : Int) ≤ (n : Int)) = true := by simp
  have h2 : decide ((n : Int) < 64) = true := by simp; omega
  rw [h1, h2, Int.toNat_natCast]; simp
theorem hasZ_out (s : Nat) (n : Int) (h : n < 0 ∨ 63 < n) : hasZ s n = false := by
  unfold hasZ
  rcases h with h | h
  · rw [show decide (0 ≤ n) = false by simp; omega]; rfl
  · rw [show decide (n < 64) = false by simp; omega]; simp
/-- The set of a list. -/
def ofZ : List Int → Nat → Nat
  | [], s => s
  | n :: l, s => ofZ l (s ||| bitZ n)
theorem or_lt {a b : Nat} (ha : a < 18446744073709551616) (hb : b < 18446744073709551616) : a ||| b < 18446744073709551616 := by
  have := Nat.or_lt_two_pow (n := 64) (x := a) (y := b) (by simpa using ha) (by simpa using hb)
  simpa using this
theorem ofZ_lt : ∀ (l : List Int) (s : Nat), s < 18446744073709551616 → ofZ l s < 18446744073709551616
  | [], s, h => h
  | n :: l, s, h => ofZ_lt l _ (or_lt h (bitZ_lt n))
theorem ofZ_snoc (l : List Int) (n : Int) (s : Nat) : ofZ (l ++ [n]) s = ofZ l s ||| bitZ n := by
  induction l generalizing s with
  | nil => rfl
  | cons a l ih => exact ih _
theorem bitZ_bit (n : Int) (i : Nat) (hi : i < 64) : (bitZ n).testBit i = decide (n = (i : Int)) := by
  unfold bitZ
  split
  · rename_i h
    by_cases e : n.toNat = i
    · rw [e, Nat.testBit_two_pow_self]; simp; omega
    · rw [Nat.testBit_two_pow_of_ne e]; simp; omega
  · simp; omega
theorem ofZ_bit (l : List Int) (s i : Nat) (hi : i < 64) : (ofZ l s).testBit i = (s.testBit i || decide ((i : Int) ∈ l)) := by
  induction l generalizing s with
  | nil => simp [ofZ]
  | cons n l ih =>
    rw [ofZ, ih, Nat.testBit_or, bitZ_bit n i hi, Bool.or_assoc]
    congr 1
    by_cases h : n = (i : Int)
    · simp [h]
    · have : ¬ (i : Int) = n := fun e => h e.symm
      simp [h, this]
end Go.Proofs.YtgmblgpfgdfnaaaDoor
namespace Go.Proofs.YtgmblgpfgdfnaaaDoor
open Go.RowKit
set_option linter.unusedVariables false
set_option linter.unusedSimpArgs false
def RdV (w : World) (v : Value) (xs : List Value) : Prop :=
  ∃ ao cap, v = .slice ao xs.length cap ∧ xs.length ≤ cap ∧ cap ≤ maxLen ∧ (ao = none → cap = 0) ∧
    (0 < xs.length → ∃ b off, ao = some ⟨b, off, none⟩ ∧ b < w.heap.size ∧ ∀ i, i < xs.length → w.cell? ⟨b, off + i, none⟩ = xs[i]?)
theorem rdv_nil (w : World) : RdV w (.slice none 0 0) [] := ⟨none, 0, rfl, by simp, by decide, by simp, by simp⟩
theorem RdV.below {w w' : World} {v : Value} {xs : List Value} (h : RdV w v xs) {B : Nat} (hb : Below B w w') (hB : w.heap.size ≤ B) : RdV w' v xs := by
  obtain ⟨ao, cap, h1, h2, h3, h4, h5⟩ := h
  refine ⟨ao, cap, h1, h2, h3, h4, ?_⟩
  intro hl
  obtain ⟨b, off, h6, h7, h8⟩ := h5 hl
  exact ⟨b, off, h6, Nat.lt_of_lt_of_le h7 hb.size, fun i hi => (hb.cell (p := ⟨b, off + i, none⟩) (Nat.lt_of_lt_of_le h7 hB)).trans (h8 i hi)⟩
theorem own_rdv {w : World} {base : Nat} {e : TypeId} {v : Value} {n : Nat} {xs : List Value} (h : w.ownsRow base e 1 v n xs) : RdV w v xs := by
  have hl : xs.length = n := by have := h.1; simpa using this
  rcases h.2 with ⟨h1, h2⟩ | ⟨g, cap, cur, h1, _, _, h2, h3, _⟩
  · subst h1
    have : xs = [] := List.eq_nil_of_length_eq_zero (by omega)
    subst this
    exact rdv_nil w
  · subst h1
    subst hl
    refine ⟨_, cap, rfl, h2, h3, by simp, ?_⟩
    intro _
    refine ⟨g, 0, rfl, (h.lt g rfl).2, ?_⟩
    intro i hi
    rw [Nat.zero_add, h.cellAt i (by simpa using hi)]
theorem rdv_of_ints {w : World} {k : IntKind} {x : Addr} {len cap : Nat} {zs : List Int} (hl : len ≤ cap) (hm : cap ≤ maxLen) (hz : zs.length = cap)
    (hcell : ∀ i, i < zs.length → w.cell? (x.add i) = some (.int k (zs.getD i 0))) : RdV w (.slice (some x) len cap) ((zs.take len).map (Value.int k)) := by
  have hlen : ((zs.take len).map (Value.int k)).length = len := by simp; omega
  refine ⟨some x, cap, by rw [hlen], by omega, hm, by simp, ?_⟩
  intro h0
  rw [hlen] at h0 ⊢
  obtain ⟨b, off, sp⟩ := x
  have hs : sp = none := by simpa [Addr.add] using World.cell?_spot (hcell 0 (by omega))
  subst hs
  refine ⟨b, off, rfl, ?_, ?_⟩
  · have := World.block_lt_of_cell? w _ (hcell 0 (by omega))
    simpa [Addr.add] using this
  · intro i hi
    have h1 := hcell i (by omega)
    rw [Addr.add_lit] at h1
    rw [h1]
    have hi' : i < zs.length := by omega
    simp [hi, hi', List.getElem?_take]
/-- What is read, shorter. -/
theorem RdV.short {w : World} {ao : Option Addr} {n cap : Nat} {xs : List Value} (h : RdV w (.slice ao n cap) xs) (m : Nat) (hm : m ≤ n) : RdV w (.slice ao m cap) (xs.take m) := by
  obtain ⟨ao', cap', h1, h2, h3, h4, h5⟩ := h
  injection h1 with e1 e2 e3
  subst e1; subst e3
  have hlen : (xs.take m).length = m := by simp; omega
  refine ⟨ao, cap, by rw [hlen], by omega, h3, h4, ?_⟩
  intro h0
  rw [hlen] at h0 ⊢
  obtain ⟨b, off, h6, h7, h8⟩ := h5 (by omega)
  exact ⟨b, off, h6, h7, fun i hi => by rw [h8 i (by omega), List.getElem?_take, if_pos hi]⟩
end Go.Proofs.YtgmblgpfgdfnaaaDoor
namespace Go.Proofs.YtgmblgpfgdfnaaaDoor
open Go.RowKit
set_option linter.unusedVariables false
set_option linter.unusedSimpArgs false
def iz (n : Int) : Value := .int .i64 n
end Go.Proofs.YtgmblgpfgdfnaaaDoor
namespace Go.Proofs.YtgmblgpfgdfnaaaDoor
open Go.RowKit
set_option linter.unusedVariables false
set_option linter.unusedSimpArgs false
theorem has_eq (s : Nat) (n : Int) : (((s &&& bitZ n : Nat) : Int) != 0) = hasZ s n := by
  by_cases h : 0 ≤ n ∧ n < 64
  · obtain ⟨m, rfl⟩ := Int.eq_ofNat_of_zero_le h.1
    rw [hasZ_in s m (by omega), bit_div]
    unfold bitZ
    rw [if_pos h, Int.toNat_natCast, nat_bit]
    have hp := Nat.two_pow_pos m
    have : s / 2 ^ m % 2 = 0 ∨ s / 2 ^ m % 2 = 1 := by omega
    rcases this with e | e
    · rw [e]; simp
    · rw [e, Nat.one_mul]
      have h2 : ((2 ^ m : Nat) : Int) ≠ 0 := by omega
      generalize ((2 ^ m : Nat) : Int) = z at h2
      simpa using h2
  · rw [hasZ_out s n (by omega)]
    unfold bitZ
    rw [if_neg h]; simp
theorem bits_eq (a b : Nat) (ha : a < 18446744073709551616) (hb : b < 18446744073709551616) (h : ∀ i, i < 64 → a.testBit i = b.testBit i) : a = b := by
  apply Nat.eq_of_testBit_eq
  intro i
  by_cases hi : i < 64
  · exact h i hi
  · have e : 2 ^ 64 ≤ 2 ^ i := Nat.pow_le_pow_right (by decide) (by omega)
    rw [Nat.testBit_lt_two_pow (Nat.lt_of_lt_of_le (by simpa using ha) e), Nat.testBit_lt_two_pow (Nat.lt_of_lt_of_le (by simpa using hb) e)]
theorem of_list (s : Nat) (hs : s < 18446744073709551616) : ofZ ((listN s).map Int.ofNat) 0 = s := by
  apply bits_eq _ _ (ofZ_lt _ _ (by decide)) hs
  intro i hi
  rw [ofZ_bit _ _ _ hi, Nat.zero_testBit, Bool.false_or, Bool.eq_iff_iff, decide_eq_true_eq, List.mem_map]
  constructor
  · rintro ⟨a, h1, h2⟩
    obtain rfl : a = i := by have : (a : Int) = (i : Int) := h2; omega
    exact ((mem_list s a).1 h1).2
  · intro h
    exact ⟨i, (mem_list s i).2 ⟨hi, h⟩, rfl⟩
theorem iz_list (s : Nat) : ((listN s).map Int.ofNat).map iz = (listN s).map iv := by
  rw [List.map_map]; rfl
theorem has_with (s : Nat) (n : Int) (k : Nat) (hk : k < 64) : hasZ (s ||| bitZ n) (k : Int) = (hasZ s (k : Int) || decide (n = (k : Int))) := by
  rw [hasZ_in _ k hk, hasZ_in s k hk, Nat.testBit_or, bitZ_bit n k hk]
theorem has_without (s : Nat) (n : Int) (k : Nat) (hk : k < 64) : hasZ (s &&& (18446744073709551615 - bitZ n)) (k : Int) = (hasZ s (k : Int) && !decide (n = (k : Int))) := by
  rw [hasZ_in _ k hk, hasZ_in s k hk, Nat.testBit_and]
  congr 1
  have h := bitZ_lt n
  have e : 18446744073709551615 - bitZ n = 2 ^ 64 - (bitZ n + 1) := by simp
  rw [e, Nat.testBit_two_pow_sub_succ (by simpa using h), bitZ_bit n k hk]
  simp [hk]
theorem has_all (n : Int) (k : Nat) (hk : k < 64) : hasZ (allZ n) (k : Int) = decide ((k : Int) < n) := by
  rw [hasZ_in _ k hk]
  unfold allZ
  split
  · simp; omega
  · split
    · rw [show 18446744073709551615 = 2 ^ 64 - 1 from by decide, Nat.testBit_two_pow_sub_one]
      simp [hk]; omega
    · rw [Nat.testBit_two_pow_sub_one, Bool.eq_iff_iff]
      simp
end Go.Proofs.YtgmblgpfgdfnaaaDoor
namespace Go.Proofs.YtgmblgpfgdfnaaaDoor
set_option linter.unusedVariables false
set_option linter.unusedSimpArgs false
theorem pop_count (t : Nat) : popK 64 t = (List.range 64).countP fun i => t.testBit i := by
  rw [← list_len, listN, List.countP_eq_length_filter]
theorem count_two (p q r : Nat → Bool) (hp : ∀ i, p i = true → r i = true) (hq : ∀ i, q i = true → r i = true) : ∀ l : List Nat, l.countP p + l.countP q ≤ l.countP r + l.countP fun i => p i && q i
  | [] => by simp
  | i :: l => by
    have ih := count_two p q r hp hq l
    have h1 := hp i
    have h2 := hq i
    simp only [List.countP_cons]
    cases ep : p i <;> cases eq : q i <;> cases er : r i <;> simp_all <;> omega
theorem count_rest (p d : Nat → Bool) : ∀ l : List Nat, l.countP p ≤ (l.countP fun i => p i && !d i) + l.countP d
  | [] => by simp
  | i :: l => by
    have ih := count_rest p d l
    simp only [List.countP_cons]
    cases ep : p i <;> cases ed : d i <;> simp <;> omega
theorem count_eq {p q : Nat → Bool} (h : ∀ i, i < 64 → p i = q i) : (List.range 64).countP p = (List.range 64).countP q := by
  apply List.countP_congr
  intro i hi
  rw [h i (List.mem_range.1 hi)]
theorem not_bit (d i : Nat) (hd : d < 18446744073709551616) (hi : i < 64) : (18446744073709551615 - d).testBit i = !d.testBit i := by
  have e : 18446744073709551615 - d = 2 ^ 64 - (d + 1) := by simp
  rw [e, Nat.testBit_two_pow_sub_succ (by simpa using hd)]
  simp [hi]
/-- How many of a set lie below n. -/
def cntN (s : Nat) (n : Int) : Nat := popK 64 (s &&& allZ n)
theorem all_count (n : Int) (k : Int) (h : fN n = k) (hk : k ≠ 0) : n = 3 * k + 1 ∧ 1 ≤ k ∧ k ≤ 5 ∧ popK 64 (allZ n) = n.toNat := by
  rcases fN_cases n with ⟨rfl, h1⟩ | ⟨rfl, h1⟩ | ⟨rfl, h1⟩ | ⟨rfl, h1⟩ | ⟨rfl, h1⟩ | ⟨h1, _⟩
  case inr.inr.inr.inr.inr => omega
  all_goals
    rw [h1] at h
    subst h
    exact ⟨by decide, by decide, by decide, by decide +kernel⟩
theorem meet_cnt (a b : Nat) (n : Int) : cntN a n + cntN b n ≤ popK 64 (allZ n) + cntN (a &&& b) n := by
  unfold cntN
  rw [pop_count, pop_count, pop_count, pop_count]
  have h := count_two (fun i => (a &&& allZ n).testBit i) (fun i => (b &&& allZ n).testBit i) (fun i => (allZ n).testBit i)
    (fun i hi => by rw [Nat.testBit_and, Bool.and_eq_true] at hi; exact hi.2) (fun i hi => by rw [Nat.testBit_and, Bool.and_eq_true] at hi; exact hi.2) (List.range 64)
  refine Nat.le_trans h (Nat.add_le_add_left (Nat.le_of_eq (count_eq fun i _ => ?_)) _)
  simp only [Nat.testBit_and]
  cases a.testBit i <;> cases b.testBit i <;> cases (allZ n).testBit i <;> rfl
theorem rest_cnt (a d : Nat) (n : Int) (hd : d < 18446744073709551616) : cntN a n ≤ popK 64 ((a &&& allZ n) &&& (18446744073709551615 - d)) + popK 64 d := by
  unfold cntN
  rw [pop_count, pop_count, pop_count]
  have h := count_rest (fun i => (a &&& allZ n).testBit i) (fun i => d.testBit i) (List.range 64)
  refine Nat.le_trans h (Nat.add_le_add_right (Nat.le_of_eq (count_eq fun i hi => ?_)) _)
  rw [Nat.testBit_and _ (18446744073709551615 - d), not_bit d i hd hi]
theorem rest_eq (a d : Nat) (n : Int) : cntN (a &&& (18446744073709551615 - d)) n = popK 64 ((a &&& allZ n) &&& (18446744073709551615 - d)) := by
  unfold cntN
  congr 1
  rw [Nat.and_assoc, Nat.and_comm (18446744073709551615 - d) (allZ n), ← Nat.and_assoc]
theorem enough_cnt (s : Nat) (n l : Int) (hl : 0 < l) : enoughB s n l = decide (l ≤ (cntN s n : Int)) := by
  unfold enoughB cntN
  rw [show decide (0 < l) = true by simpa using hl]; rfl
end Go.Proofs.YtgmblgpfgdfnaaaDoor
