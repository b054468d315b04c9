/- Slots: two of one view with unlike terms: who votes for both. Plain mathematics. -/
/- Slots: the law's votesOf, text, Few. Written by wip/tools/gen29l.py. -/
/- Slots: what a call hands back, for the laws SlotDoes and SlotPlays. Written by wip/tools/gen29ya.py. -/
import Derived.Test.YtgmblgpfgdfnaaaDoorQSPC8
import Derived.Test.YtgmblgpfgdfnaaaDoorQSPC19
import Derived.Test.YtgmblgpfgdfnaaaDoorQSPC29
import Derived.Test.YtgmblgpfgdfnaaaDoorQSPC25
namespace Go.Proofs.YtgmblgpfgdfnaaaDoor
open Go Go.RowKit
set_option linter.unusedVariables false
set_option linter.unusedSimpArgs false
/-- What a replica votes in a list. -/
def voOf (l : List Vt) (p : Int) : Option Vt := l.find? fun x => decide (x.fr = p)
/-- Does a replica vote in both lists, for unlike things, in a view? -/
def bothB (la lb : List Vt) (vw : Int) (p : Int) : Bool := match voOf la p, voOf lb p with
  | some x, some y => !(decide (x.fr = y.fr) && (decide (x.vw = y.vw) && decide (x.tm = y.tm))) && (decide (x.vw = vw) && decide (y.vw = vw))
  | _, _ => false
def cntB (la lb : List Vt) (vw : Int) (N : Nat) : Nat := (List.range N).countP fun i : Nat => bothB la lb vw (i : Int)
theorem cntB_up (la lb : List Vt) (vw : Int) (k : Nat) : cntB la lb vw (k + 1) = cntB la lb vw k + if bothB la lb vw (k : Int) = true then 1 else 0 := by
  unfold cntB
  rw [List.range_succ, List.countP_append, List.countP_cons, List.countP_nil]; simp
theorem cntB_le (la lb : List Vt) (vw : Int) (k : Nat) : cntB la lb vw k ≤ k := by
  unfold cntB
  have := List.countP_le_length (p := fun i : Nat => bothB la lb vw (i : Int)) (l := List.range k)
  simpa using this
theorem vo_at {l : List Vt} (h : areB l = true) {x : Vt} (hx : x ∈ l) : voOf l x.fr = some x := by
  have hs := are_sort h
  unfold voOf
  obtain ⟨i, hi, rfl⟩ := List.getElem_of_mem hx
  rw [List.find?_eq_some_iff_getElem]
  refine ⟨by simp, i, hi, rfl, ?_⟩
  intro j hj
  have := vt_at hs hj hi
  simp; omega
theorem who_vo {vw tm : Int} {l : List Vt} {n but p : Int} (h : areB l = true) (hp : p ∈ whoL vw tm l n but) : ∃ x, voOf l p = some x ∧ x.fr = p ∧ x.vw = vw ∧ x.tm = tm := by
  obtain ⟨_, _, x, hx, hm, rfl⟩ := who_mem.1 hp
  unfold mat at hm
  simp only [Bool.and_eq_true, decide_eq_true_eq] at hm
  exact ⟨x, vo_at h hx, rfl, hm.1, hm.2⟩
/-- As many below n as the list has. -/
theorem who_cnt {vw tm : Int} {l : List Vt} {n but : Int} (h : areB l = true) (hn : 0 ≤ n) : ((List.range n.toNat).countP fun i : Nat => decide ((i : Int) ∈ whoL vw tm l n but)) = (whoL vw tm l n but).length := by
  rw [List.countP_eq_length_filter, show (whoL vw tm l n but).length = ((whoL vw tm l n but).map Int.toNat).length from (List.length_map _).symm]
  apply List.Perm.length_eq
  rw [List.perm_ext_iff_of_nodup (List.nodup_range.filter _) (who_nodup h)]
  intro i
  rw [List.mem_filter, List.mem_range, List.mem_map]
  constructor
  · rintro ⟨_, hb⟩
    exact ⟨(i : Int), of_decide_eq_true hb, by simp⟩
  · rintro ⟨p, hp, rfl⟩
    have h1 := who_range h hp
    have h2 := (who_mem.1 hp).1
    refine ⟨by omega, ?_⟩
    rw [Int.toNat_of_nonneg h1.1]
    exact decide_eq_true hp
theorem but_cnt {N : Nat} {q : Int} (h0 : 0 ≤ q) (h1 : q < (N : Int)) : ((List.range N).countP fun i : Nat => decide ((i : Int) ≠ q)) + 1 = N := by
  obtain ⟨k, rfl⟩ := Int.eq_ofNat_of_zero_le h0
  have hk : k < N := by omega
  clear h0 h1
  induction N with
  | zero => omega
  | succ N ih =>
    rw [List.range_succ, List.countP_append, List.countP_cons, List.countP_nil]
    by_cases he : k = N
    · subst he
      have : ((List.range k).countP fun i : Nat => decide (((i : Int)) ≠ (k : Int))) = (List.range k).length := by
        rw [List.countP_eq_length]
        intro i hi
        rw [List.mem_range] at hi
        simp; omega
      rw [List.length_range] at this
      simp only [ne_eq, Int.natCast_inj] at this ⊢
      simp at this ⊢
      omega
    · have h3 := ih (by omega)
      have h4 : decide ((N : Int) ≠ (k : Int)) = true := by simp; omega
      simp only [h4, if_true]
      omega
/-- Votes for two things in one view: as many as both have, less those who may vote. -/
theorem meet_who {la lb : List Vt} {vw ta tb : Int} {n but : Int} {M : Nat} (ha : areB la = true) (hb : areB lb = true) (ht : ta ≠ tb) (hn : 0 ≤ n)
    (hM : ((List.range n.toNat).countP fun i : Nat => decide ((i : Int) ≠ but)) ≤ M) : (whoL vw ta la n but).length + (whoL vw tb lb n but).length ≤ M + cntB la lb vw n.toNat := by
  rw [← who_cnt ha hn, ← who_cnt hb hn]
  refine Nat.le_trans (count_two _ _ (fun i : Nat => decide ((i : Int) ≠ but)) ?_ ?_ _) (Nat.add_le_add hM ?_)
  · intro i hi
    exact decide_eq_true (who_mem.1 (of_decide_eq_true hi)).2.1
  · intro i hi
    exact decide_eq_true (who_mem.1 (of_decide_eq_true hi)).2.1
  · unfold cntB
    apply List.countP_mono_left
    intro i _ hi
    rw [Bool.and_eq_true] at hi
    obtain ⟨x, e1, e2, e3, e4⟩ := who_vo ha (of_decide_eq_true hi.1)
    obtain ⟨y, f1, f2, f3, f4⟩ := who_vo hb (of_decide_eq_true hi.2)
    unfold bothB
    rw [e1, f1]
    simp only [e2, e3, e4, f2, f3, f4]
    simp [ht]
theorem prim_range (v n : Int) (h : 1 ≤ n) : 0 ≤ primZ v n ∧ primZ v n < n := by
  unfold primZ
  rw [if_neg (by omega)]
  exact ⟨Int.emod_nonneg _ (by omega), Int.emod_lt_of_pos _ (by omega)⟩
theorem agree_prep {a b : Sl} {n : Int} (hv : a.vw = b.vw) (ht : a.tm ≠ b.tm) (ha : prepB a n = true) (hb : prepB b n = true) : fN n ≤ (cntB a.ps b.ps a.vw n.toNat : Int) := by
  unfold prepB at ha hb
  simp only [Bool.and_eq_true, decide_eq_true_eq] at ha hb
  obtain ⟨h0, ma, _, ka⟩ := ha
  obtain ⟨_, mb, _, kb⟩ := hb
  obtain ⟨e1, e2, e3, _⟩ := all_count n (fN n) rfl h0
  have hp := prim_range a.vw n (by omega)
  have hc := but_cnt (N := n.toNat) (q := primZ a.vw n) hp.1 (by omega)
  rw [← hv] at kb
  have := meet_who (vw := a.vw) (n := n) (but := primZ a.vw n) (M := n.toNat - 1) (mayS_are ma).1 (mayS_are mb).1 ht (by omega) (by omega)
  omega
theorem agree_com {a b : Sl} {n : Int} (hv : a.vw = b.vw) (ht : a.tm ≠ b.tm) (ha : comB a n = true) (hb : comB b n = true) : fN n < (cntB a.cs b.cs a.vw n.toNat : Int) := by
  unfold comB at ha hb
  rw [Bool.and_eq_true, decide_eq_true_eq] at ha hb
  obtain ⟨pa, ka⟩ := ha
  obtain ⟨pb, kb⟩ := hb
  unfold prepB at pa pb
  simp only [Bool.and_eq_true, decide_eq_true_eq] at pa pb
  obtain ⟨h0, ma, _, _⟩ := pa
  obtain ⟨_, mb, _, _⟩ := pb
  obtain ⟨e1, e2, e3, _⟩ := all_count n (fN n) rfl h0
  rw [← hv] at kb
  have hM : ((List.range n.toNat).countP fun i : Nat => decide ((i : Int) ≠ -1)) ≤ n.toNat := by
    have h9 := List.countP_le_length (p := fun i : Nat => decide ((i : Int) ≠ -1)) (l := List.range n.toNat)
    rw [List.length_range] at h9
    exact h9
  have := meet_who (vw := a.vw) (n := n) (but := -1) (M := n.toNat) (mayS_are ma).2.1 (mayS_are mb).2.1 ht (by omega) hM
  omega
end Go.Proofs.YtgmblgpfgdfnaaaDoor
namespace Go.Proofs.YtgmblgpfgdfnaaaDoor
open Go Go.RowKit
set_option linter.unusedVariables false
set_option linter.unusedSimpArgs false
set_option maxRecDepth 100000
theorem vote_cells : (Tryd.prog.info? 26).map (·.size) = some 3 := by kernel_rfl
theorem set3_new {w : World} {B : Nat} {a0 a1 a2 u0 u1 u2 : Value} {t : TypeId} (h : w.heap[B]? = some (.cells #[a0, a1, a2] t (0, 0))) :
    (((w.setCell ⟨B, 0, none⟩ u0).setCell ⟨B, 1, none⟩ u1).setCell ⟨B, 2, none⟩ u2).heap[B]? = some (.cells #[u0, u1, u2] t (0, 0)) := by
  simpa using set_at (i := 2) (u := u2) (set_at (i := 1) (u := u1) (set_at (i := 0) (u := u0) h))
def voC (o : Option Vt) : Vt := match o with | some x => x | none => vt0
theorem vo_at_k {l : List Vt} {p : Int} {k : Nat} (hk : k < l.length) (h1 : ∀ i (h : i < l.length), i < k → l[i].fr ≠ p) (h2 : l[k].fr = p) : voOf l p = some l[k] := by
  unfold voOf
  rw [List.find?_eq_some_iff_getElem]
  exact ⟨by simpa using h2, k, hk, rfl, fun j hj => by simpa using h1 j (by omega) hj⟩
theorem vo_none {l : List Vt} {p : Int} (h1 : ∀ i (h : i < l.length), i < l.length → l[i].fr ≠ p) : voOf l p = none := by
  unfold voOf
  rw [List.find?_eq_none]
  intro x hx
  obtain ⟨i, hi, rfl⟩ := List.getElem_of_mem hx
  simpa using h1 i hi hi
set_option maxHeartbeats 1000000 in
theorem votesOf_any (v : Value) (l : List Vt) (p : Int) (w : World) (h : RdT w v l) : Calls Tryd.prog 24 #[v, .int .i64 p] w fun e w' => e = .returned (.tuple #[vtV (voC (voOf l p)), .bool (voOf l p).isSome]) ∧ Below w.heap.size w w' := by
  obtain ⟨ao, cap, rfl, hc, hm, hr⟩ := RdK.open h
  have hr : RdT w (.slice ao l.length cap) l := hr
  obtain ⟨W0, hW0⟩ : ∃ W0, W0 = w.alloc (.cells #[.int .i64 0, .int .i64 0, .int .i64 0] 26) := ⟨_, rfl⟩
  have q0 : W0.heap[w.heap.size]? = some (.cells #[.int .i64 0, .int .i64 0, .int .i64 0] 26 (0, 0)) := by rw [hW0]; exact heap_alloc_new _ _
  have B0 : Below w.heap.size w W0 := by rw [hW0]; exact (Below.refl _ _).alloc (Nat.le_refl _) _
  have HRD := Lib.hid (hr.below B0 (Nat.le_refl _))
  obtain ⟨Z, hZ⟩ : ∃ Z : Ending → World → Prop, Z = fun e w' => e = .returned (.tuple #[vtV (voC (voOf l p)), .bool (voOf l p).isSome]) ∧ Below w.heap.size w w' := ⟨_, rfl⟩
  rw [← hZ]
  have HZ := Lib.hid hZ
  clear h hr hZ
  go_enter Tryd.func24, Tryd.ntmps24
  go_wp2_with fail
  rw [← hW0]
  clear hW0
  go_loopw [6] (fun i wr => ∃ k : Nat, k ≤ l.length ∧ i = .int .i64 (k : Int) ∧ Hid (∀ i (h : i < l.length), i < k → l[i].fr ≠ p) ∧ Below W0.heap.size W0 wr) (fun i _ => l.length - (intOf i).toNat)
  case atStart => exact ⟨0, Nat.zero_le _, rfl, Lib.hid (fun i _ h => by omega), Below.refl _ _⟩
  case round =>
    obtain ⟨k, hk, rfl, HA, bel⟩ := hrel
    by_cases hlt : k < l.length
    · obtain ⟨pb, po, rfl, hpb, C0, C1, C2⟩ := rdt_cells HRD.out k hlt
      have c0 := (bel.cell (p := ⟨pb, po + k * 3, none⟩) hpb).trans C0
      have c1 := (bel.cell (p := ⟨pb, po + k * 3 + 1, none⟩) hpb).trans C1
      have c2 := (bel.cell (p := ⟨pb, po + k * 3 + 2, none⟩) hpb).trans C2
      have q1 := (bel.block _ (lt_of_block q0)).trans q0
      obtain ⟨d0, d1, d2, df⟩ := block_cells3 q1
      obtain ⟨x, hx⟩ : ∃ x, x = l[k] := ⟨_, rfl⟩
      rw [← hx] at c0 c1 c2
      have HX := Lib.hid hx
      clear C0 C1 C2 hx
      obtain ⟨a, b, c⟩ := x
      simp only at c0 c1 c2
      by_cases hp : a = p
      · have f1 : (a == p) = true := by simpa using hp
        have HV := Lib.hid (show voOf l p = some ⟨a, b, c⟩ by rw [HX.out]; exact vo_at_k hlt HA.out (by rw [← HX.out]; exact hp))
        have QZ := Lib.hid (set3_new (u0 := .int .i64 a) (u1 := .int .i64 b) (u2 := .int .i64 c) q1)
        have FB := Lib.hid (below_grownB (chain B0 bel) (grown_setB (i := 2) (u := .int .i64 c) (grown_setB (i := 1) (u := .int .i64 b) (grown_setB (i := 0) (u := .int .i64 a) (grown_reflB (r := some w.heap.size))))) (chain B0 bel).size (Nat.le_refl _))
        clear hp q1
        go_wp2_with fail
        (try simp only [Exit.inBlock, Exit.then])
        refine bodyPost_ret (results_cell_row_tmp rfl _ _ _ _ _ (0, 0) _ rfl QZ.out Tryd.underlying26 rfl vote_cells) rfl ?_
        show Z (.returned _) _
        rw [HZ.out]
        exact ⟨by rw [HV.out]; rfl, FB.out⟩
      · have f1 : (a == p) = false := by simpa using hp
        have HN := Lib.hid (show ∀ i (h : i < l.length), i < k + 1 → l[i].fr ≠ p from fun i h hi => by
          rcases Nat.lt_or_eq_of_le (show i ≤ k by omega) with h2 | h2
          · exact HA.out i h h2
          · subst h2; rw [← HX.out]; exact hp)
        clear hp q1
        go_wp2_with fail
        exact ⟨⟨k + 1, by omega, by push_cast; rfl, HN, bel⟩, by simp [intOf]; omega⟩
    · obtain rfl : k = l.length := by omega
      have HV := Lib.hid (show voOf l p = none from vo_none HA.out)
      have q1 := (bel.block _ (lt_of_block q0)).trans q0
      obtain ⟨d0, d1, d2, df⟩ := block_cells3 q1
      have QZ := Lib.hid (set3_new (u0 := .int .i64 0) (u1 := .int .i64 0) (u2 := .int .i64 0) q1)
      have FB := Lib.hid (below_grownB (chain B0 bel) (grown_setB (i := 2) (u := .int .i64 0) (grown_setB (i := 1) (u := .int .i64 0) (grown_setB (i := 0) (u := .int .i64 0) (grown_reflB (r := some w.heap.size))))) (chain B0 bel).size (Nat.le_refl _))
      clear q1
      go_wp2_with fail
      (try simp only [Exit.inBlock, Exit.then])
      refine bodyPost_ret (results_cell_row_tmp rfl _ _ _ _ _ (0, 0) _ rfl QZ.out Tryd.underlying26 rfl vote_cells) rfl ?_
      show Z (.returned _) _
      rw [HZ.out]
      exact ⟨by rw [HV.out]; rfl, FB.out⟩
theorem str_extract (l : List UInt8) (n : Nat) : (str l).extract 0 n = str (l.take n) := by
  apply ByteArray.ext
  simp [str, ByteArray.data_extract]
theorem text_any (l : List UInt8) (w : World) (h : l.length ≤ maxLen) : Calls Tryd.prog 7 #[.string (str l)] w fun e w' => e = .returned (.string (str (l.take 65540))) ∧ w = w' := by
  have h1 : (str l).size = l.length := str_size l
  unfold maxLen at h
  by_cases hl : 65540 < l.length
  · have h2 := str_extract l 65540
    go_enter Tryd.func7, Tryd.ntmps7
    go_wp2_with fail
    go_ret
    exact ⟨by rw [← h2]; rfl, rfl⟩
  · rw [List.take_of_length_le (show l.length ≤ 65540 by omega)]
    go_enter Tryd.func7, Tryd.ntmps7
    go_wp2_with fail
    go_ret
    exact ⟨rfl, rfl⟩
def fewS (s : Sl) : Sl := ⟨s.has, s.vw, s.tm, s.body.take 65540, s.ps.take 66, s.cs.take 66⟩
/-- What comes back is a slot that is read. -/
def GivesF (w : World) (s : Sl) (e : Ending) (w' : World) : Prop := ∃ a1 n1 c1 a2 n2 c2, e = .returned (sV s (.slice a1 n1 c1) (.slice a2 n2 c2)) ∧ RdS w' s (.slice a1 n1 c1) (.slice a2 n2 c2) ∧ Below w.heap.size w w'
set_option maxHeartbeats 1000000 in
theorem few_any (s : Sl) (vP vC : Value) (w : World) (h : RdS w s vP vC) : Calls Tryd.prog 6 #[sV s vP vC] w (GivesF w (fewS s)) := by
  obtain ⟨aP, cP, rfl, hc1, hm1, hr1⟩ := RdK.open h.p
  obtain ⟨aC, cC, rfl, hc2, hm2, hr2⟩ := RdK.open h.c
  have hr1 : RdT w (.slice aP s.ps.length cP) s.ps := hr1
  have hr2 : RdT w (.slice aC s.cs.length cC) s.cs := hr2
  have TX0 := fun w' => text_any s.body w' h.b
  have hb := h.b
  obtain ⟨Z, hZ⟩ : ∃ Z, Z = GivesF w (fewS s) := ⟨_, rfl⟩
  rw [← hZ]
  unfold fewS at hZ
  have HZ := Lib.hid hZ
  obtain ⟨has, vw, tm, body, ps, cs⟩ := s
  unfold sV
  simp only at TX0 hr1 hr2 hc1 hc2 hb ⊢
  obtain ⟨S, hS⟩ : ∃ S, S = str body := ⟨_, rfl⟩
  obtain ⟨T, hT⟩ : ∃ T, T = str (body.take 65540) := ⟨_, rfl⟩
  rw [← hS, ← hT] at TX0
  rw [← hS]
  have HT := Lib.hid hT
  have TX := Lib.hid TX0
  have HBT := Lib.hid (show (body.take 65540).length ≤ maxLen from Nat.le_trans (List.length_take_le _ _) (by decide))
  clear h TX0 hZ hS hT hb
  by_cases hp : 66 < ps.length
  · have HRP := Lib.hid (RdK.short vtC_len hr1 66 (by omega))
    by_cases hq : 66 < cs.length
    · have HRC := Lib.hid (RdK.short vtC_len hr2 66 (by omega))
      go_enter Tryd.func6, Tryd.ntmps6
      go_wp2_with ((with_reducible refine (TX.out _).mono ?_); rintro e w9 ⟨rfl, rfl⟩)
      refine bodyPost_ret (results_cell_row rfl _ _ _ 24 #[.bool has, .int .i64 vw, .int .i64 tm, .string T, .slice aP 66 cP, .slice aC 66 cC] (0, 0) _ rfl ?_ Tryd.underlying24 rfl slot_size) rfl ?_
      rotate_left
      · show Z (.returned _) _
        rw [HZ.out]
        exact ⟨aP, 66, cP, aC, 66, cC, by rw [HT.out]; rfl, ⟨RdK.below HRP.out (((Below.refl w.heap.size w).alloc (Nat.le_refl _) _).alloc (by simp) _) (Nat.le_refl _), RdK.below HRC.out (((Below.refl w.heap.size w).alloc (Nat.le_refl _) _).alloc (by simp) _) (Nat.le_refl _), HBT.out⟩, (((Below.refl w.heap.size w).alloc (Nat.le_refl _) _).alloc (by simp) _)⟩
      · exact (two_allocs w _ _).2.1
    · have HRC := Lib.hid (show RdK 3 vtC w (.slice aC cs.length cC) (cs.take 66) by rw [List.take_of_length_le (by omega)]; exact hr2)
      go_enter Tryd.func6, Tryd.ntmps6
      go_wp2_with ((with_reducible refine (TX.out _).mono ?_); rintro e w9 ⟨rfl, rfl⟩)
      refine bodyPost_ret (results_cell_row rfl _ _ _ 24 #[.bool has, .int .i64 vw, .int .i64 tm, .string T, .slice aP 66 cP, .slice aC cs.length cC] (0, 0) _ rfl ?_ Tryd.underlying24 rfl slot_size) rfl ?_
      rotate_left
      · show Z (.returned _) _
        rw [HZ.out]
        exact ⟨aP, 66, cP, aC, cs.length, cC, by rw [HT.out]; rfl, ⟨RdK.below HRP.out (((Below.refl w.heap.size w).alloc (Nat.le_refl _) _).alloc (by simp) _) (Nat.le_refl _), RdK.below HRC.out (((Below.refl w.heap.size w).alloc (Nat.le_refl _) _).alloc (by simp) _) (Nat.le_refl _), HBT.out⟩, (((Below.refl w.heap.size w).alloc (Nat.le_refl _) _).alloc (by simp) _)⟩
      · exact (two_allocs w _ _).2.1
  · have HRP := Lib.hid (show RdK 3 vtC w (.slice aP ps.length cP) (ps.take 66) by rw [List.take_of_length_le (by omega)]; exact hr1)
    by_cases hq : 66 < cs.length
    · have HRC := Lib.hid (RdK.short vtC_len hr2 66 (by omega))
      go_enter Tryd.func6, Tryd.ntmps6
      go_wp2_with ((with_reducible refine (TX.out _).mono ?_); rintro e w9 ⟨rfl, rfl⟩)
      refine bodyPost_ret (results_cell_row rfl _ _ _ 24 #[.bool has, .int .i64 vw, .int .i64 tm, .string T, .slice aP ps.length cP, .slice aC 66 cC] (0, 0) _ rfl ?_ Tryd.underlying24 rfl slot_size) rfl ?_
      rotate_left
      · show Z (.returned _) _
        rw [HZ.out]
        exact ⟨aP, ps.length, cP, aC, 66, cC, by rw [HT.out]; rfl, ⟨RdK.below HRP.out (((Below.refl w.heap.size w).alloc (Nat.le_refl _) _).alloc (by simp) _) (Nat.le_refl _), RdK.below HRC.out (((Below.refl w.heap.size w).alloc (Nat.le_refl _) _).alloc (by simp) _) (Nat.le_refl _), HBT.out⟩, (((Below.refl w.heap.size w).alloc (Nat.le_refl _) _).alloc (by simp) _)⟩
      · exact (two_allocs w _ _).2.1
    · have HRC := Lib.hid (show RdK 3 vtC w (.slice aC cs.length cC) (cs.take 66) by rw [List.take_of_length_le (by omega)]; exact hr2)
      go_enter Tryd.func6, Tryd.ntmps6
      go_wp2_with ((with_reducible refine (TX.out _).mono ?_); rintro e w9 ⟨rfl, rfl⟩)
      refine bodyPost_ret (results_cell_row rfl _ _ _ 24 #[.bool has, .int .i64 vw, .int .i64 tm, .string T, .slice aP ps.length cP, .slice aC cs.length cC] (0, 0) _ rfl ?_ Tryd.underlying24 rfl slot_size) rfl ?_
      rotate_left
      · show Z (.returned _) _
        rw [HZ.out]
        exact ⟨aP, ps.length, cP, aC, cs.length, cC, by rw [HT.out]; rfl, ⟨RdK.below HRP.out (((Below.refl w.heap.size w).alloc (Nat.le_refl _) _).alloc (by simp) _) (Nat.le_refl _), RdK.below HRC.out (((Below.refl w.heap.size w).alloc (Nat.le_refl _) _).alloc (by simp) _) (Nat.le_refl _), HBT.out⟩, (((Below.refl w.heap.size w).alloc (Nat.le_refl _) _).alloc (by simp) _)⟩
      · exact (two_allocs w _ _).2.1
end Go.Proofs.YtgmblgpfgdfnaaaDoor
namespace Go.Proofs.YtgmblgpfgdfnaaaDoor
open Go Go.RowKit
set_option linter.unusedVariables false
set_option linter.unusedSimpArgs false
set_option maxRecDepth 100000
/-- What a call hands back: a slot, to be read, and a number. -/
def GQ (w : World) (h : Bool) (v t : Int) (S : ByteArray) (R : Sl) (E : Int) (e : Ending) (w' : World) : Prop := ∃ a1 n1 c1 a2 n2 c2, e = .returned (.tuple #[.agg #[.bool h, .int .i64 v, .int .i64 t, .string S, .slice a1 n1 c1, .slice a2 n2 c2], .int .i64 E]) ∧ RdS w' R (.slice a1 n1 c1) (.slice a2 n2 c2) ∧ Below w.heap.size w w'
theorem gq_p {w w' : World} {s : Sl} {code : Nat} {e : Ending} (h : GivesP w s code e w') : GQ w s.has s.vw s.tm (str s.body) s (code : Int) e w' := by
  obtain ⟨a1, n1, c1, a2, n2, c2, he, ho, g⟩ := h
  exact ⟨a1, n1, c1, a2, n2, c2, he, ho.rds, g⟩
theorem gq_r {w w' : World} {s : Sl} {code : Nat} {e : Ending} (h : GivesR w s code e w') : GQ w s.has s.vw s.tm (str s.body) s (code : Int) e w' := by
  obtain ⟨a1, n1, c1, a2, n2, c2, he, ho, g⟩ := h
  exact ⟨a1, n1, c1, a2, n2, c2, he, ho, g⟩
theorem rds_six {w w' : World} {B : Nat} {h : Bool} {v t : Int} {s : ByteArray} {a1 a2 : Option Addr} {n1 c1 n2 c2 : Nat} {T : TypeId} {vP vC : Value} {R : Sl} (h0 : w.heap[B]? = some (.cells #[.bool h, .int .i64 v, .int .i64 t, .string s, .slice a1 n1 c1, .slice a2 n2 c2] T (0, 0))) (g : w.grownBy w' (some B)) (r : RdS w R vP vC) : RdS w' R vP vC :=
  ⟨rdt_six (one_slice _ _ _) (one_slice _ _ _) h0 g r.p, rdt_six (one_slice _ _ _) (one_slice _ _ _) h0 g r.c, r.b⟩
end Go.Proofs.YtgmblgpfgdfnaaaDoor
