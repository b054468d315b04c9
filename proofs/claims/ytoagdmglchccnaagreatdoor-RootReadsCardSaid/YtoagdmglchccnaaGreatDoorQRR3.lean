/- A table of texts: New, Of, Text, Count. Written by wip/tools/gen2a.py. -/
import Derived.Test.YtoagdmglchccnaaGreatDoorQRR2
import Derived.Maps.AppendAt
import Derived.IntWalk
namespace Go.Proofs.YtoagdmglchccnaaGreatDoor.T2
open Go Go.RowKit Go.Maps Go.MapKept
set_option linter.unusedVariables false
set_option linter.unusedSimpArgs false
/-- What turned is among the blocks own. -/
structure Trn (own : Nat → Prop) (w w' : World) : Prop where
  os : w'.os = w.os
  tape : w'.tape = w.tape
  output : w'.output = w.output
  size : w.heap.size ≤ w'.heap.size
  block : ∀ k, k < w.heap.size → ¬ own k → w'.heap[k]? = w.heap[k]?
theorem Trn.refl (own : Nat → Prop) (w : World) : Trn own w w := ⟨rfl, rfl, rfl, Nat.le_refl _, fun _ _ _ => rfl⟩
theorem Trn.below {own : Nat → Prop} {w w1 w2 : World} (h : Trn own w w1) (g : Below w1.heap.size w1 w2) : Trn own w w2 :=
  ⟨g.os.trans h.os, g.tape.trans h.tape, g.output.trans h.output, Nat.le_trans h.size g.size, fun k hk hn => (g.block k (Nat.lt_of_lt_of_le hk h.size)).trans (h.block k hk hn)⟩
theorem Trn.grown {own : Nat → Prop} {w w1 w2 : World} {r : Option Nat} (h : Trn own w w1) (g : w1.grownBy w2 r) (hr : ∀ k, r = some k → own k) : Trn own w w2 :=
  ⟨g.os.trans h.os, g.tape.trans h.tape, g.output.trans h.output, Nat.le_trans h.size g.size, fun k hk hn => (g.block k (Nat.lt_of_lt_of_le hk h.size) (fun e => hn (hr k e.symm))).trans (h.block k hk hn)⟩
theorem Trn.of_below {own : Nat → Prop} {w w1 : World} (g : Below w.heap.size w w1) : Trn own w w1 := (Trn.refl own w).below g
theorem Trn.set {own : Nat → Prop} {w w1 : World} (h : Trn own w w1) {B i : Nat} (hB : own B) (u : Value) : Trn own w (w1.setCell ⟨B, i, none⟩ u) :=
  ⟨h.os, h.tape, h.output, by simpa using h.size, fun k hk hn => (set_old (fun e => hn (by rw [e]; exact hB))).trans (h.block k hk hn)⟩
theorem below_trn {w w1 w2 : World} {own : Nat → Prop} (h : Below w.heap.size w w1) (t : Trn own w1 w2) (ho : ∀ k, own k → w.heap.size ≤ k) : Below w.heap.size w w2 :=
  ⟨t.os.trans h.os, t.tape.trans h.tape, t.output.trans h.output, Nat.le_trans h.size t.size, fun k hk => (t.block k (Nat.lt_of_lt_of_le hk h.size) (fun e => by have := ho k e; omega)).trans (h.block k hk)⟩
def ownR (B M : Nat) (v : Value) (k : Nat) : Prop := k = B ∨ k = M ∨ v.ownBlock = some k
theorem TB.own_ge {w : World} {base B M : Nat} {v : Value} {L : List Txt} (h : TB w base B M v L) : ∀ k, ownR B M v k → base ≤ k := by
  rintro k (e | e | e)
  · rw [e]; exact h.bB
  · rw [e]; exact h.bM
  · exact (h.row.lt k e).1
theorem i64_len (n : Nat) (h : n < 2000) : (Lit.int .i64 ((n : Int) + 1)).wf = true := by
  simp [Lit.wf, IntKind.min, IntKind.max, IntKind.signed, IntKind.bits]; omega
/-- The table behind a question. -/
def ofL (L : List Txt) (s : Txt) : List Txt := if s ∈ L then L else L ++ [s]
def OfP (w : World) (base B M : Nat) (v : Value) (n : Int) (L' : List Txt) (e : Ending) (w' : World) : Prop :=
  e = .returned (.tuple #[.int .i64 n, .int .i64 0]) ∧ ∃ v', TB w' base B M v' L' ∧ Trn (ownR B M v) w w' ∧ ∀ k, v'.ownBlock = some k → v.ownBlock = some k ∨ w.heap.size ≤ k
set_option maxRecDepth 100000 in
theorem new_any (w : World) : Calls Tryz.prog 48 #[] w fun e w' => e = .returned (.pointer (some ⟨w.heap.size + 1, 0, none⟩)) ∧ Below w.heap.size w w' ∧ TB w' w.heap.size (w.heap.size + 1) w.heap.size (.slice none 0 0) [] := by
  have hmm := @run_makeMap Tryz.prog
  go_enter Tryz.func48, Tryz.ntmps48
  go_wp2_with fail
  go_ret
  obtain ⟨q1, q2, q3, q4⟩ := two_allocs w (.map #[] 0) (.cells #[.map (some w.heap.size), .slice none 0 0] 124)
  exact ⟨rfl, ((Below.refl _ _).alloc (Nat.le_refl _) _).alloc (by simp) _, ⟨by simp, by simp, by simp, by omega, by omega, q2, ⟨#[], 0, q1, ⟨by simp, stamped_empty 0, by simp⟩, Nat.le_refl _, rfl⟩, World.ownsRow_nil _ _ _ _⟩⟩
set_option maxRecDepth 100000 in
theorem count_any (base B M : Nat) (v : Value) (L : List Txt) (w : World) (h : TB w base B M v L) :
    Calls Tryz.prog 15 #[.pointer (some ⟨B, 0, none⟩)] w fun e w' => e = .returned (.int .i64 (L.length : Int)) ∧ w = w' := by
  obtain ⟨c0, c1⟩ := cells2 h.blk
  obtain ⟨ao, cap, hv⟩ := own_slice' h.row
  subst hv
  clear h
  go_enter Tryz.func15, Tryz.ntmps15
  go_wp2_with fail
  go_ret
  exact ⟨rfl, rfl⟩
set_option maxRecDepth 100000 in
theorem text_out (base B M : Nat) (v : Value) (L : List Txt) (n : Int) (hn : ¬ (1 ≤ n ∧ n ≤ L.length)) (w : World) (h : TB w base B M v L) :
    Calls Tryz.prog 19 #[.pointer (some ⟨B, 0, none⟩), .int .i64 n] w fun e w' => e = .returned (.tuple #[sv [], .int .i64 6]) ∧ w = w' := by
  obtain ⟨c0, c1⟩ := cells2 h.blk
  obtain ⟨ao, cap, hv⟩ := own_slice' h.row
  subst hv
  clear h
  by_cases h1 : n < 1
  · clear hn
    go_enter Tryz.func19, Tryz.ntmps19
    go_wp2_with fail
    go_ret2
    exact ⟨rfl, rfl⟩
  · have h2 : (L.length : Int) < n := by omega
    clear hn
    go_enter Tryz.func19, Tryz.ntmps19
    go_wp2_with fail
    go_ret2
    exact ⟨rfl, rfl⟩
set_option maxRecDepth 100000 in
theorem text_in (base B M : Nat) (v : Value) (L : List Txt) (k : Nat) (hk : k < L.length) (w : World) (h : TB w base B M v L) :
    Calls Tryz.prog 19 #[.pointer (some ⟨B, 0, none⟩), .int .i64 ((k : Int) + 1)] w fun e w' => e = .returned (.tuple #[sv L[k], .int .i64 0]) ∧ w = w' := by
  obtain ⟨c0, c1⟩ := cells2 h.blk
  have hll := h.len
  obtain ⟨g, cap, rfl, _, _⟩ : ∃ g cap, v = .slice (some ⟨g, 0, none⟩) L.length cap ∧ L.length ≤ cap ∧ cap ≤ maxLen := slice_of_own h.row (by omega)
  have hc := h.row.cellAt k (by simpa using hk)
  have hc2 : w.cell? ⟨g, k, none⟩ = some (sv L[k]) := by rw [hc, List.getElem?_map, List.getElem?_eq_getElem hk]; rfl
  obtain ⟨t, ht⟩ : ∃ t, t = L[k] := ⟨_, rfl⟩
  rw [← ht] at hc2 ⊢
  have h1 : ¬ (k : Int) + 1 < 1 := by omega
  have h2 : ¬ (L.length : Int) < (k : Int) + 1 := by omega
  have h3 : (k : Int) + 1 - 1 = (k : Int) := by omega
  unfold sv at hc2 ⊢
  clear h hc ht
  go_enter Tryz.func19, Tryz.ntmps19
  go_wp2_with fail
  go_ret2
  exact ⟨rfl, rfl⟩
theorem own_keepB {w : World} {base B i n : Nat} {v u : Value} {xs : List Value} {cs : Array Value} (h : w.ownsRow base 9 1 v n xs) (hB : w.heap[B]? = some (.cells cs 124 (0, 0))) : (w.setCell ⟨B, i, none⟩ u).ownsRow base 9 1 v n xs := by
  refine ⟨h.1, ?_⟩
  rcases h.2 with hn | ⟨g, cap, cur, rfl, hb, hg, rest⟩
  · exact .inl hn
  · exact .inr ⟨g, cap, cur, rfl, hb, (set_old (by rintro rfl; rw [hB] at hg; simp at hg)).trans hg, rest⟩
theorem str_info : (Tryz.prog.info? 9).map (fun i => (i.zero, i.size, i.bytes)) = some (some (.string ByteArray.empty), 1, 16) := by kernel_rfl
set_option maxRecDepth 100000 in
set_option maxHeartbeats 1000000 in
theorem of_any (base B M : Nat) (v : Value) (L : List Txt) (s : Txt) (hs : s.length ≤ maxLen) (hlen : L.length < 2000) (w : World) (h : TB w base B M v L) (hbw : base ≤ w.heap.size) :
    Calls Tryz.prog 50 #[.pointer (some ⟨B, 0, none⟩), sv s] w (OfP w base B M v (numN (ofL L s) s : Int) (ofL L s)) := by
  obtain ⟨i0, hi0, hz0, hz1, hz2⟩ := info_parts str_info
  obtain ⟨c0, c1⟩ := cells2 h.blk
  obtain ⟨ao, cap, hv⟩ := own_slice' h.row
  have hm := h.map
  obtain ⟨n1, n2⟩ := numD_at L s h.nd
  obtain ⟨D, hD⟩ : ∃ D, D = numD L := ⟨_, rfl⟩
  rw [← hD] at hm n1 n2
  have N2 := Lib.hid n2
  have hk := key_txt s hs
  unfold sv at hk ⊢
  by_cases hin : s ∈ L
  · have e : ofL L s = L := by unfold ofL; rw [if_pos hin]
    rw [e]
    rw [decide_eq_true hin] at n1
    have N1 := Lib.hid n1
    have fin : OfP w base B M v (numN L s : Int) L (.returned (.tuple #[.int .i64 (numN L s : Int), .int .i64 0])) w := ⟨rfl, v, h, Trn.refl _ _, fun k hk => .inl hk⟩
    subst hv
    clear h n1 n2 hD e hin
    go_enter Tryz.func50, Tryz.ntmps50
    go_wp2_with (at_lookup; refine wpList_lookup_own_ok_int _ rfl _ _ 122 rfl 9 3 .i64 law Tryz.underlying122 Tryz.underlying3 (zero_int _) M L.length D rfl hm _ _ rfl hk ?_; intro c hat hwc; rw [N1.out, show c = (numN L s : Int) from by rw [N2.out] at hat; cases hat; rfl]; clear hat hwc)
    go_ret2
    exact fin
  · have e : ofL L s = L ++ [s] := by unfold ofL; rw [if_neg hin]
    rw [e, num_snoc_new hin]
    rw [decide_eq_false hin] at n1
    have N1 := Lib.hid n1
    have hnd : (L ++ [s]).Nodup := by rw [List.nodup_append]; exact ⟨h.nd, by simp, by rintro a ha b hb rfl; simp at hb; subst hb; exact hin ha⟩
    have hwf : ∀ x ∈ L ++ [s], x.length ≤ maxLen := by intro x hx; rcases List.mem_append.1 hx with hx | hx; exact h.wf x hx; rw [List.mem_singleton.1 hx]; exact hs
    have h0 := h
    have hsv := hv
    subst hv
    have e5 : ((L.length : Int) == 65536) = false := by simp; omega
    have own0 := h.row
    have hBS : some B ≠ (Value.slice ao L.length cap).ownBlock := by
      intro e
      rcases own0.2 with ⟨e1, e2⟩ | ⟨g, c, cur, e1, _, e3, _⟩
      · rw [e1] at e; cases e
      · rw [e1] at e; cases e; have := h.blk; rw [this] at e3; simp at e3
    have hMS : some M ≠ (Value.slice ao L.length cap).ownBlock := by
      intro e
      rcases own0.2 with ⟨e1, e2⟩ | ⟨g, c, cur, e1, _, e3, _⟩
      · rw [e1] at e; cases e
      · rw [e1] at e; cases e
        obtain ⟨es, clock, e4, _⟩ := h.map
        rw [e3] at e4; cases e4
    have hMB : some B ≠ some M := by
      intro e
      cases e
      obtain ⟨es, clock, e3, _⟩ := h.map
      rw [h.blk] at e3; cases e3
    have HE := Lib.hid e
    have HND := Lib.hid hnd
    have HWF := Lib.hid hwf
    have HDD := Lib.hid hD
    have lB := lt_of_block h.blk
    clear n1 n2 hD e hin hnd hwf
    go_enter Tryz.func50, Tryz.ntmps50
    go_wp2_with (first
      | (at_lookup; refine wpList_lookup_own_ok_int _ rfl _ _ 122 rfl 9 3 .i64 law Tryz.underlying122 Tryz.underlying3 (zero_int _) M L.length D rfl hm _ _ rfl hk ?_; intro c hat hwc; rw [N1.out, show c = (numN L s : Int) from by rw [N2.out] at hat; cases hat; rfl]; clear hat hwc)
      | (at_builtin; refine wpList_append_own_at _ rfl (.tmp 29) (.tmp 31) 22 rfl base 9 i0 (.string ByteArray.empty) 1 16 Tryz.underlying22 hi0 hz0 hz1 hz2 rfl (by decide) (.slice ao L.length cap) L.length (L.map sv) rfl (own0.alloc _) ⟨w.heap.size, 0, none⟩ 1 1 [.string (str s)] rfl rfl (cell_one_new _ _ _) (by intro u hu; simp at hu; subst hu; rfl) (by unfold maxLen; omega) (by omega) (by simp; omega) ?_; intro v4 w4 ro4 g4 _ hl4; obtain ⟨b4, cap4, rfl, _, _⟩ := slice_of_own ro4 (by omega); have q4 := (g4.block B (by simp; omega) hBS).trans ((heap_alloc_old w (.cells #[.string (str s)] 9) lB).trans h0.blk); obtain ⟨d0, d1⟩ := cells2 q4; have d2 := block_frozen q4))
    have q5 : (w4.setCell ⟨B, 1, none⟩ (.slice (some ⟨b4, 0, none⟩) (L.length + 1) cap4)).heap[B]? = some (.cells #[.map (some M), .slice (some ⟨b4, 0, none⟩) (L.length + 1) cap4] 124 (0, 0)) := by simpa using set_at (i := 1) (u := .slice (some ⟨b4, 0, none⟩) (L.length + 1) cap4) q4
    have m4 : w4.ownsMap Tryz.prog 9 (plainElem Tryz.prog 3) M L.length D := World.ownsMap.kept (hm.alloc (.cells #[.string (str s)] 9)) g4 hMS
    have m5 : (w4.setCell ⟨B, 1, none⟩ (.slice (some ⟨b4, 0, none⟩) (L.length + 1) cap4)).ownsMap Tryz.prog 9 (plainElem Tryz.prog 3) M L.length D := m4.setCell (by simpa using fun e => hMB (by rw [e])) _
    have T4 : Trn (ownR B M (.slice ao L.length cap)) w w4 := (Trn.of_below ((Below.refl _ _).alloc (Nat.le_refl _) (.cells #[.string (str s)] 9))).grown g4 (fun k hk => .inr (.inr hk))
    have T5 := T4.set (i := 1) (.inl rfl : ownR B M (.slice ao L.length cap) B) (.slice (some ⟨b4, 0, none⟩) (L.length + 1) cap4)
    have r5 := own_keepB ro4 q4 (i := 1) (u := .slice (some ⟨b4, 0, none⟩) (L.length + 1) cap4)
    obtain ⟨w5, hw5⟩ : ∃ w5, w5 = w4.setCell ⟨B, 1, none⟩ (.slice (some ⟨b4, 0, none⟩) (L.length + 1) cap4) := ⟨_, rfl⟩
    rw [← hw5] at q5 m5 T5 r5 ⊢
    have lw : w.heap.size < (w.alloc (.cells #[.string (str s)] 9)).heap.size := by simp
    have HL4 := Lib.hid hl4
    clear hw5 m4 T4 q4 d0 d1 d2 ro4 g4 hl4
    have hw1 : IntKind.i64.wrap ((L.length : Int) + 1) = (L.length : Int) + 1 := IntWalk.i64_in _ (by omega)
    have hkt := key_txt s hs
    unfold sv at hkt
    refine t_start 10 (by kernel_rfl) ?_
    refine t_take (i := 0) (d := (some 35)) (v := ?_) rfl rfl (by kernel_rfl) (fun _ _ _ h => h) (by rfl) (fun w' hb' => ?_) ?_
    rotate_left
    · (try go_simp); (try with_reducible rfl)
    try simp only [Act.put, List.setIfInBounds_toArray, List.set_cons_zero, List.set_cons_succ]
    refine t_take (i := 1) (d := (some 36)) (v := ?_) rfl rfl (by kernel_rfl) (fun _ _ _ h => h) (by rfl) (fun w' hb' => ?_) ?_
    rotate_left
    · (try go_simp); (try with_reducible rfl)
    try simp only [Act.put, List.setIfInBounds_toArray, List.set_cons_zero, List.set_cons_succ]
    refine t_take (i := 2) (d := (some 37)) (v := ?_) rfl rfl (by kernel_rfl) (fun _ _ _ h => h) (by rfl) (fun w' hb' => ?_) ?_
    rotate_left
    · (try go_simp); (try with_reducible rfl)
    try simp only [Act.put, List.setIfInBounds_toArray, List.set_cons_zero, List.set_cons_succ]
    refine t_take (i := 3) (d := (some 38)) (v := ?_) rfl rfl (by kernel_rfl) (fun _ _ _ h => h) (by rfl) (fun w' hb' => ?_) ?_
    rotate_left
    · have hc := (cells2 ((hb'.block _ (lt_of_block q5)).trans q5)).1; (try go_simp); (try with_reducible rfl)
    try simp only [Act.put, List.setIfInBounds_toArray, List.set_cons_zero, List.set_cons_succ]
    refine t_take (i := 4) (d := (some 39)) (v := ?_) rfl rfl (by kernel_rfl) (fun _ _ _ h => h) (by rfl) (fun w' hb' => ?_) ?_
    rotate_left
    · (try go_simp); (try with_reducible rfl)
    try simp only [Act.put, List.setIfInBounds_toArray, List.set_cons_zero, List.set_cons_succ]
    refine t_take (i := 5) (d := (some 40)) (v := ?_) rfl rfl (by kernel_rfl) (fun _ _ _ h => h) (by rfl) (fun w' hb' => ?_) ?_
    rotate_left
    · (try go_simp); (try with_reducible rfl)
    try simp only [Act.put, List.setIfInBounds_toArray, List.set_cons_zero, List.set_cons_succ]
    refine t_take (i := 6) (d := (some 41)) (v := ?_) rfl rfl (by kernel_rfl) (fun _ _ _ h => h) (by rfl) (fun w' hb' => ?_) ?_
    rotate_left
    · (try go_simp); (try with_reducible rfl)
    try simp only [Act.put, List.setIfInBounds_toArray, List.set_cons_zero, List.set_cons_succ]
    refine t_take (i := 7) (d := (some 42)) (v := ?_) rfl rfl (by kernel_rfl) (fun _ _ _ h => h) (by rfl) (fun w' hb' => ?_) ?_
    rotate_left
    · (try go_simp); (try with_reducible rfl)
    try simp only [Act.put, List.setIfInBounds_toArray, List.set_cons_zero, List.set_cons_succ]
    refine t_take (i := 8) (d := (some 43)) (v := ?_) rfl rfl (by kernel_rfl) (fun _ _ _ h => h) (by rfl) (fun w' hb' => ?_) ?_
    rotate_left
    · have hc := (cells2 ((hb'.block _ (lt_of_block q5)).trans q5)).2; (try go_simp); (try with_reducible rfl)
    try simp only [Act.put, List.setIfInBounds_toArray, List.set_cons_zero, List.set_cons_succ]
    refine t_take (i := 9) (d := (some 44)) (v := ?_) rfl rfl (by kernel_rfl) (fun _ _ _ h => h) (by rfl) (fun w' hb' => ?_) ?_
    rotate_left
    · (try go_simp); (try with_reducible rfl)
    try simp only [Act.put, List.setIfInBounds_toArray, List.set_cons_zero, List.set_cons_succ]
    refine t_last (i := 10) rfl (by kernel_rfl) (by kernel_rfl) (by kernel_rfl) (by rfl) (fun K hK => ?_)
    obtain ⟨w6, hrun, m6, t6⟩ := m5.drew.store law Tryz.underlying122 (by unfold maxLen; omega) hk (d := .lit (.int .i64 ((L.length : Int) + 1))) (ps := []) (plainElem_int Tryz.underlying3 (i64_len _ hlen)); go_simp; refine hK _ _ ?_; clear hK K hrun
    have g6 := t6.grown
    have q6 := (g6.block B (lt_of_block q5) hMB).trans q5
    obtain ⟨e0, e1⟩ := cells2 q6
    go_wp2_with fail
    go_ret2
    refine ⟨rfl, _, ⟨HND.out, HWF.out, by simp; omega, h0.bB, h0.bM, q6, ?_, ?_⟩, T5.grown (w1 := w5) (w2 := w6) (r := some M) ⟨g6.os, g6.tape, g6.output, g6.size, g6.block⟩ (fun k hk => .inr (.inl (by cases hk; rfl))), ?_⟩
    · rw [List.length_append, List.length_singleton, numD_snoc, ← HDD.out]; exact m6
    · rw [List.length_append, List.length_singleton, List.map_append]
      refine World.ownsRow.kept (w := w5.drew) (row := some M) r5 g6 (.inr ?_)
      intro e
      rcases r5.2 with ⟨e1, _⟩ | ⟨g, c, cur, e1, _, e3, _⟩
      · cases e1
      · cases e1
        simp [Value.ownBlock] at e
        subst e
        obtain ⟨es, clock, e4, _⟩ := m5
        rw [e3] at e4; cases e4
    · intro k hk
      rcases HL4.out with e | e
      · exact .inl (e ▸ hk)
      · rw [e] at hk; cases hk; right; omega
end Go.Proofs.YtoagdmglchccnaaGreatDoor.T2
