/- Clash: the law's wants. Written by wip/tools/gen23d.py. -/
import Derived.Test.YtjmfiekgpoonjaaDoorQLGC12
import Derived.Test.YtjmfiekgpoonjaaDoorQLGC13
namespace Go.Proofs.YtjmfiekgpoonjaaDoor
open Go Go.RowKit
set_option linter.unusedVariables false
set_option linter.unusedSimpArgs false
theorem strinfo : (Tryd.prog.info? 9).map (fun i => (i.zero, i.size, i.bytes)) = some (some (.string ⟨#[]⟩), 1, 16) := by kernel_rfl
theorem info_parts {P : Program} {e : TypeId} {z : Value} {n m : Nat} (h : (P.info? e).map (fun i => (i.zero, i.size, i.bytes)) = some (some z, n, m)) : ∃ i, P.info? e = some i ∧ i.zero = some z ∧ i.size = n ∧ i.bytes = m := by
  obtain ⟨i, h1, h2⟩ := Option.map_eq_some_iff.1 h
  simp only [Prod.mk.injEq] at h2
  exact ⟨i, h1, h2.1, h2.2.1, h2.2.2⟩
def fewS (l : List (List UInt8)) : List (List UInt8) := (l.take 20).map fun s => s.take 60
def fewW (a : Wt) : Wt := ⟨fewS a.r, fewS a.w⟩
theorem fewS_sz (l : List (List UInt8)) : SzS (fewS l) := by
  intro s hs
  unfold fewS at hs
  obtain ⟨t, _, rfl⟩ := List.mem_map.1 hs
  exact Nat.le_trans (List.length_take_le _ _) (by decide)
theorem fewW_sz (a : Wt) : SzW (fewW a) := ⟨fewS_sz _, fewS_sz _⟩
/-- What a call hands back is a slice of texts. -/
def GivesS (w : World) (l : List (List UInt8)) (e : Ending) (w' : World) : Prop := ∃ a n c, e = .returned (.slice a n c) ∧ w'.ownsRow w.heap.size 9 1 (.slice a n c) l.length (l.map sv) ∧ Below w.heap.size w w'
def GivesW (w : World) (a : Wt) (e : Ending) (w' : World) : Prop := ∃ a1 n1 c1 a2 n2 c2, e = .returned (.agg #[.slice a1 n1 c1, .slice a2 n2 c2]) ∧ w'.ownsRow w.heap.size 9 1 (.slice a1 n1 c1) a.r.length (a.r.map sv) ∧ w'.ownsRow w.heap.size 9 1 (.slice a2 n2 c2) a.w.length (a.w.map sv) ∧ Below w.heap.size w w'
theorem own_val {w : World} {base : Nat} {e : TypeId} {s : Nat} {v : Value} {n : Nat} {xs : List Value} (h : w.ownsRow base e s v n xs) : ∃ a n c, v = Value.slice a n c := by
  rcases h.2 with ⟨h1, _⟩ | ⟨g, cap, cur, h1, _⟩
  · exact ⟨_, _, _, h1⟩
  · exact ⟨_, _, _, h1⟩
theorem own_keep {w w' : World} {base : Nat} {e : TypeId} {s : Nat} {v : Value} {n : Nat} {xs : List Value} (h : w.ownsRow base e s v n xs) (g : Below w.heap.size w w') : w'.ownsRow base e s v n xs :=
  h.kept (row := none) ⟨g.os, g.tape, g.output, g.size, fun k hk _ => g.block k hk⟩ (by cases v.ownBlock <;> simp)
theorem own_base {w : World} {base b' : Nat} {e : TypeId} {s : Nat} {v : Value} {n : Nat} {xs : List Value} (h : w.ownsRow base e s v n xs) (hb : b' ≤ base) : w.ownsRow b' e s v n xs := by
  refine ⟨h.1, ?_⟩
  rcases h.2 with h1 | ⟨g, cap, cur, h1, h2, h3⟩
  · exact .inl h1
  · exact .inr ⟨g, cap, cur, h1, Nat.le_trans hb h2, h3⟩
theorem own_set {w : World} {base B i : Nat} {e : TypeId} {s : Nat} {v : Value} {n : Nat} {xs : List Value} (h : w.ownsRow base e s v n xs) (hB : B < base) (u : Value) : (w.setCell ⟨B, i, none⟩ u).ownsRow base e s v n xs := by
  refine World.ownsRow.kept (w := w) (row := some B) h ⟨rfl, rfl, rfl, by simp, fun k hk hne => heap_setCell_other w ⟨B, i, none⟩ k u (by simpa using hne)⟩ ?_
  cases ev : v.ownBlock with
  | none => exact .inl rfl
  | some g =>
    refine .inr fun e2 => ?_
    have h1 := (h.lt g ev).1
    have e3 : g = B := by simpa using e2
    omega
set_option maxRecDepth 100000 in
set_option maxHeartbeats 1000000 in
theorem patterns_any (v : Value) (l : List (List UInt8)) (w : World) (h : RdS w v l) (hz : SzS l) :
    Calls Tryd.prog 35 #[v] w (GivesS w (fewS l)) := by
  obtain ⟨i0, hi, hz0, hz1, hz2⟩ := info_parts strinfo
  obtain ⟨ao, cap, rfl, hc, hm, hr⟩ := h.open
  have HS := Lib.hid hz
  obtain ⟨Z, hZ⟩ : ∃ Z, Z = GivesS w (fewS l) := ⟨_, rfl⟩
  rw [← hZ]
  subst hZ
  clear h hz
  by_cases hbig : 20 < l.length
  · obtain ⟨l', hl'⟩ : ∃ l', l' = l.take 20 := ⟨_, rfl⟩
    have hln : l'.length = 20 := by rw [hl']; simp; omega
    have hr' : RdS w (.slice ao 20 cap) l' := by
      have := RdV.short (xs := l.map sv) (n := l.length) hr 20 (by omega)
      rw [← List.map_take] at this
      rw [hl']; exact this
    have HS := Lib.hid (show SzS l' by rw [hl']; exact fun x hx => HS.out x (List.mem_of_mem_take hx))
    have HRD := Lib.hid hr'
    have HLN := Lib.hid hln
    have HL := Lib.hid hl'
    have hd1 : decide (20 < (l.length : Int)) = true := decide_eq_true (by omega)
    have hd2 : decide (20 < l.length) = true := decide_eq_true hbig
    clear hr hr' hl' hln
    go_enter Tryd.func35, Tryd.ntmps35
    go_wp2_with fail
    go_loopw [3, 4] (fun out i wr => ∃ (j : Nat) (acc : List (List UInt8)), j ≤ 20 ∧ i = .int .i64 (j : Int) ∧ acc.length ≤ j ∧ Hid (acc = (l'.take j).map fun s => s.take 60) ∧ wr.ownsRow w.heap.size 9 1 out acc.length (acc.map sv) ∧ Below w.heap.size w wr) (fun _ i _ => 30 - (intOf i).toNat)
    case atStart => exact ⟨0, [], Nat.zero_le _, rfl, Nat.le_refl _, rfl, World.ownsRow_nil _ _ _ _, Below.refl _ _⟩
    case round =>
      obtain ⟨j, acc, hj, rfl, hacc, HA, hown, bel⟩ := hrel
      by_cases hjn : j < 20
      · have hlt : j < l'.length := by have := HLN.out; omega
        obtain ⟨b, off, rfl, hb, c0⟩ := (HRD.out.below bel (Nat.le_refl _)).cell j hlt
        obtain ⟨x, hx⟩ : ∃ x, x = l'[j]'hlt := ⟨_, rfl⟩
        rw [← hx] at c0
        have hxs : x.length ≤ maxLen := by rw [hx]; exact HS.out _ (List.getElem_mem _)
        have HN0 := show acc ++ [x.take 60] = (l'.take (j + 1)).map fun s => s.take 60 by rw [HA.out, List.take_succ_eq_append_getElem hlt, List.map_append, ← hx]; rfl
        have hzx := str_size x
        have hex : (str x).extract 0 60 = str (x.take 60) := by rw [str_extract]; simp
        unfold maxLen at hxs
        clear hx
        by_cases h60 : 60 < x.length
        · have HN := Lib.hid HN0
          clear HN0
          go_wp2_with (at_builtin; refine wpList_app1 w rfl (.tmp 26) (.tmp 28) 22 rfl w.heap.size 9 i0 (.string ⟨#[]⟩) 16 Tryd.underlying22 hi hz0 hz1 hz2 rfl _ _ _ rfl hown _ (sv (x.take 60)) rfl rfl (by unfold maxLen; omega) (by omega) (Nat.le_refl _) bel ?_; intro v' w1 hown' hb')
          exact ⟨⟨j + 1, acc ++ [(x.take 60)], by omega, by push_cast; rfl, by simp; omega, HN, by simpa using hown', hb'⟩, by simp [intOf]; omega⟩
        · have hex2 : x.take 60 = x := List.take_of_length_le (by omega)
          rw [hex2] at HN0
          have HN := Lib.hid HN0
          clear HN0 hex hex2
          go_wp2_with (at_builtin; refine wpList_app1 w rfl (.tmp 26) (.tmp 28) 22 rfl w.heap.size 9 i0 (.string ⟨#[]⟩) 16 Tryd.underlying22 hi hz0 hz1 hz2 rfl _ _ _ rfl hown _ (sv x) rfl rfl (by unfold maxLen; omega) (by omega) (Nat.le_refl _) bel ?_; intro v' w1 hown' hb')
          exact ⟨⟨j + 1, acc ++ [x], by omega, by push_cast; rfl, by simp; omega, HN, by simpa using hown', hb'⟩, by simp [intOf]; omega⟩
      · obtain rfl : j = 20 := by omega
        have E := Lib.hid (show acc = fewS l by rw [HA.out]; unfold fewS; rw [HL.out, List.take_take]; rfl)
        go_wp2_with fail
        go_ret
        obtain ⟨ao', n', c', e3⟩ := own_val hown
        subst e3
        refine ⟨ao', n', c', rfl, ?_, bel⟩
        rw [← E.out]
        exact hown
  · have HRD := Lib.hid hr
    have HLN := Lib.hid (rfl : l.length = l.length)
    have hd1 : decide (20 < (l.length : Int)) = false := decide_eq_false (by omega)
    have hd2 : decide (20 < l.length) = false := decide_eq_false hbig
    clear hr
    go_enter Tryd.func35, Tryd.ntmps35
    go_wp2_with fail
    go_loopw [3, 4] (fun out i wr => ∃ (j : Nat) (acc : List (List UInt8)), j ≤ l.length ∧ i = .int .i64 (j : Int) ∧ acc.length ≤ j ∧ Hid (acc = (l.take j).map fun s => s.take 60) ∧ wr.ownsRow w.heap.size 9 1 out acc.length (acc.map sv) ∧ Below w.heap.size w wr) (fun _ i _ => 30 - (intOf i).toNat)
    case atStart => exact ⟨0, [], Nat.zero_le _, rfl, Nat.le_refl _, rfl, World.ownsRow_nil _ _ _ _, Below.refl _ _⟩
    case round =>
      obtain ⟨j, acc, hj, rfl, hacc, HA, hown, bel⟩ := hrel
      by_cases hjn : j < l.length
      · have hlt : j < l.length := by have := HLN.out; omega
        obtain ⟨b, off, rfl, hb, c0⟩ := (HRD.out.below bel (Nat.le_refl _)).cell j hlt
        obtain ⟨x, hx⟩ : ∃ x, x = l[j]'hlt := ⟨_, rfl⟩
        rw [← hx] at c0
        have hxs : x.length ≤ maxLen := by rw [hx]; exact HS.out _ (List.getElem_mem _)
        have HN0 := show acc ++ [x.take 60] = (l.take (j + 1)).map fun s => s.take 60 by rw [HA.out, List.take_succ_eq_append_getElem hlt, List.map_append, ← hx]; rfl
        have hzx := str_size x
        have hex : (str x).extract 0 60 = str (x.take 60) := by rw [str_extract]; simp
        unfold maxLen at hxs
        clear hx
        by_cases h60 : 60 < x.length
        · have HN := Lib.hid HN0
          clear HN0
          go_wp2_with (at_builtin; refine wpList_app1 w rfl (.tmp 26) (.tmp 28) 22 rfl w.heap.size 9 i0 (.string ⟨#[]⟩) 16 Tryd.underlying22 hi hz0 hz1 hz2 rfl _ _ _ rfl hown _ (sv (x.take 60)) rfl rfl (by unfold maxLen; omega) (by omega) (Nat.le_refl _) bel ?_; intro v' w1 hown' hb')
          exact ⟨⟨j + 1, acc ++ [(x.take 60)], by omega, by push_cast; rfl, by simp; omega, HN, by simpa using hown', hb'⟩, by simp [intOf]; omega⟩
        · have hex2 : x.take 60 = x := List.take_of_length_le (by omega)
          rw [hex2] at HN0
          have HN := Lib.hid HN0
          clear HN0 hex hex2
          go_wp2_with (at_builtin; refine wpList_app1 w rfl (.tmp 26) (.tmp 28) 22 rfl w.heap.size 9 i0 (.string ⟨#[]⟩) 16 Tryd.underlying22 hi hz0 hz1 hz2 rfl _ _ _ rfl hown _ (sv x) rfl rfl (by unfold maxLen; omega) (by omega) (Nat.le_refl _) bel ?_; intro v' w1 hown' hb')
          exact ⟨⟨j + 1, acc ++ [x], by omega, by push_cast; rfl, by simp; omega, HN, by simpa using hown', hb'⟩, by simp [intOf]; omega⟩
      · obtain rfl : j = l.length := by omega
        have E := Lib.hid (show acc = fewS l by rw [HA.out]; unfold fewS; rw [List.take_of_length_le (Nat.le_refl _), List.take_of_length_le (Nat.le_of_not_lt hbig)])
        go_wp2_with fail
        go_ret
        obtain ⟨ao', n', c', e3⟩ := own_val hown
        subst e3
        refine ⟨ao', n', c', rfl, ?_, bel⟩
        rw [← E.out]
        exact hown
set_option maxRecDepth 100000 in
theorem wants_any (vr vw : Value) (a : Wt) (w : World) (hr : RdS w vr a.r) (hw : RdS w vw a.w) (hz : SzW a) :
    Calls Tryd.prog 8 #[.agg #[vr, vw]] w (GivesW w (fewW a)) := by
  have P1 := Lib.hid (fun W (g : Below w.heap.size w W) => patterns_any vr a.r W (hr.below g (Nat.le_refl _)) hz.1)
  have P2 := Lib.hid (fun W (g : Below w.heap.size w W) => patterns_any vw a.w W (hw.below g (Nat.le_refl _)) hz.2)
  obtain ⟨R1, e1⟩ : ∃ R, R = fewS a.r := ⟨_, rfl⟩
  obtain ⟨R2, e2⟩ : ∃ R, R = fewS a.w := ⟨_, rfl⟩
  rw [show fewW a = ⟨R1, R2⟩ by rw [e1, e2]; rfl]
  rw [← e1] at P1
  rw [← e2] at P2
  obtain ⟨q1, q2, -, -⟩ := two_allocs w (.cells #[vr, vw] 24) (.cells #[.slice none 0 0, .slice none 0 0] 24)
  have bel := ((Below.refl w.heap.size w).alloc (Nat.le_refl _) (.cells #[vr, vw] 24)).alloc (by simp) (.cells #[.slice none 0 0, .slice none 0 0] 24)
  clear hr hw hz e1 e2
  go_enter Tryd.func8, Tryd.ntmps8
  go_wp2_with fail
  obtain ⟨W0, hW0⟩ : ∃ W, W = (w.alloc (.cells #[vr, vw] 24)).alloc (.cells #[.slice none 0 0, .slice none 0 0] 24) := ⟨_, rfl⟩
  rw [← hW0] at q1 q2 bel ⊢
  clear hW0
  have hz0 : w.heap.size + 1 < W0.heap.size := lt_of_block q2
  refine t_start 7 (by kernel_rfl) ?_
  refine t_take (i := 0) (d := (some 3)) (v := ?_) rfl rfl (by kernel_rfl) (fun _ _ _ h => h) (by rfl) (fun w' hb' => ?_) ?_
  rotate_left
  · (try go_simp); (try with_reducible rfl)
  try simp only [Act.put, List.setIfInBounds_toArray, List.set_cons_zero, List.set_cons_succ]
  refine t_take (i := 1) (d := (some 4)) (v := ?_) rfl rfl (by kernel_rfl) (fun _ _ _ h => h) (by rfl) (fun w' hb' => ?_) ?_
  rotate_left
  · obtain ⟨c0, c1, cf⟩ := block_cells2 ((hb'.block _ (lt_of_block q1)).trans q1); (try go_simp); (try with_reducible rfl)
  try simp only [Act.put, List.setIfInBounds_toArray, List.set_cons_zero, List.set_cons_succ]
  refine t_take (i := 3) (d := (some 6)) (v := ?_) rfl rfl (by kernel_rfl) (fun _ _ _ h => h) (by rfl) (fun w' hb' => ?_) ?_
  rotate_left
  · (try go_simp); (try with_reducible rfl)
  try simp only [Act.put, List.setIfInBounds_toArray, List.set_cons_zero, List.set_cons_succ]
  refine t_take (i := 4) (d := (some 7)) (v := ?_) rfl rfl (by kernel_rfl) (fun _ _ _ h => h) (by rfl) (fun w' hb' => ?_) ?_
  rotate_left
  · obtain ⟨c0, c1, cf⟩ := block_cells2 ((hb'.block _ (lt_of_block q1)).trans q1); (try go_simp); (try with_reducible rfl)
  try simp only [Act.put, List.setIfInBounds_toArray, List.set_cons_zero, List.set_cons_succ]
  refine t_run (i := 2) rfl (by kernel_rfl) (by kernel_rfl) (by rfl) (fun K hK => ?_)
  go_simp; refine (P1.out _ (Below.drew bel)).mono ?_; rintro e w1 ⟨a1, n1, k1, rfl, r1, g⟩; have gg := Below.trans (Below.drew (Below.refl _ _)) g; have q1 := (gg.block _ (lt_of_block q1)).trans q1; have q2 := (gg.block _ (lt_of_block q2)).trans q2; have hz1 := lt_of_block q2; have bel := chain bel gg; refine hK _ _ ⟨g, ?_⟩; clear hK K g gg
  try simp only [Act.put, List.setIfInBounds_toArray, List.set_cons_zero, List.set_cons_succ]
  refine t_run (i := 5) rfl (by kernel_rfl) (by kernel_rfl) (by rfl) (fun K hK => ?_)
  go_simp; refine (P2.out _ bel).mono ?_; rintro e w2 ⟨a2, n2, k2, rfl, r2, g⟩; have q2 := (g.block _ (lt_of_block q2)).trans q2; have r1 := own_keep r1 g; have bel := chain bel g; refine hK _ _ ⟨g, ?_⟩; clear hK K g q1
  try simp only [Act.put, List.setIfInBounds_toArray, List.set_cons_zero, List.set_cons_succ]
  refine t_run (i := 6) rfl (by kernel_rfl) (by kernel_rfl) (by rfl) (fun K hK => ?_)
  go_simp; refine hK _ _ ⟨Below.refl _ _, ?_⟩; clear hK K
  try simp only [Act.put, List.setIfInBounds_toArray, List.set_cons_zero, List.set_cons_succ]
  refine t_last (i := 7) rfl (by kernel_rfl) (by kernel_rfl) (by kernel_rfl) (by rfl) (fun K hK => ?_)
  obtain ⟨d0, d1, df⟩ := block_cells2 q2; go_simp; refine hK _ _ ?_; clear hK K d0 d1 df

  have q3 : ((w2.setCell ⟨w.heap.size + 1, 0, none⟩ (.slice a1 n1 k1)).setCell ⟨w.heap.size + 1, 1, none⟩ (.slice a2 n2 k2)).heap[w.heap.size + 1]? = some (.cells #[.slice a1 n1 k1, .slice a2 n2 k2] 24 (0, 0)) := by
    simpa using set_at (i := 1) (u := Value.slice a2 n2 k2) (set_at (i := 0) (u := Value.slice a1 n1 k1) q2)
  have bel9 := (bel.setCell (p := ⟨w.heap.size + 1, 0, none⟩) (by simp) (.slice a1 n1 k1)).setCell (p := ⟨w.heap.size + 1, 1, none⟩) (by simp) (.slice a2 n2 k2)
  obtain ⟨f0, f1, -⟩ := block_cells2 q3
  have r1 := own_set (i := 1) (own_set (i := 0) r1 (show w.heap.size + 1 < _ from hz0) (.slice a1 n1 k1)) (show w.heap.size + 1 < _ from hz0) (.slice a2 n2 k2)
  have r2 := own_set (i := 1) (own_set (i := 0) r2 (show w.heap.size + 1 < _ from hz1) (.slice a1 n1 k1)) (show w.heap.size + 1 < _ from hz1) (.slice a2 n2 k2)
  go_wp2_with fail
  exact bodyPost_ret (v := .agg #[.slice a1 n1 k1, .slice a2 n2 k2]) (by simp [results, Tryd.results8, go_sem, f0, f1]) rfl ⟨_, _, _, _, _, _, rfl, own_base r1 (Nat.le_of_lt (Nat.lt_of_succ_lt (show w.heap.size + 1 < _ from hz0))), own_base r2 (Nat.le_of_lt (Nat.lt_of_succ_lt (show w.heap.size + 1 < _ from hz1))), bel9⟩
end Go.Proofs.YtjmfiekgpoonjaaDoor
