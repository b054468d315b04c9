/- The document's Say. Written by wip/tools/gen4h.py. -/
import Derived.Test.YtojjpnkdblaidaaR4G
namespace Go.Proofs.Ytojjpnkdblaidaa
open Go Go.RowKit Go.Maps
set_option linter.unusedVariables false
set_option linter.unusedSimpArgs false
theorem own_ne {w : World} {base : Nat} {e : TypeId} {size : Nat} {v : Value} {n : Nat} {xs : List Value} {k : Nat} (h : w.ownsRow base e size v n xs) (hk : k < base) : some k ≠ v.ownBlock := fun e => by have := (h.lt k e.symm).1; omega
theorem own_apart {a b n c m d : Nat} (h : a ≠ b) : (Value.slice (some ⟨a, 0, none⟩) n c).ownBlock ≠ (Value.slice (some ⟨b, 0, none⟩) m d).ownBlock := by simpa [Value.ownBlock] using h
/-- 'append(a, b...)', statements. -/
theorem op_app_st {w : World} {o : Oper} {a : Act} {K : Act → World → Prop} {Q : Exit → Act → World → Prop} (sx x : Operand)
    (ho : o.op = .call { callee := .builtin .append, args := #[sx, x], argTypes := #[25, 25] }) (base : Nat)
    (v : Value) (n : Nat) (xs : List Value) (hs : a.eval sx = v) (hown : w.ownsRow base 39 5 v n xs) (lv : Value) (T : List St) (b0 : Nat) (hx : a.eval x = lv) (hT : w.ownsRow b0 39 5 lv T.length (T.flatMap St.cs))
    (i0 : TypeInfo) (hi0 : Try.prog.info? 39 = some i0) (hz0 : i0.zero = some (.agg #[.int .i64 0, .int .i64 0, .int .i64 0, .int .i64 0, .int .i64 0])) (hz1 : i0.size = 5) (hz2 : i0.bytes = 40)
    (hl : n + T.length ≤ 3000) (hbase : base ≤ w.heap.size)
    (h : ∀ v' w', w'.ownsRow base 39 5 v' (n + T.length) (xs ++ T.flatMap St.cs) → w.grownBy w' v.ownBlock → (v'.ownBlock = v.ownBlock ∨ v'.ownBlock = some w.heap.size) → K (a.put o.dst v') w') : o.wp Try.prog a w K Q := by
  rcases hT.2 with ⟨e1, e2⟩ | ⟨g, cap, cur, e1, _, hg, _⟩
  · have e3 : T = [] := List.eq_nil_of_length_eq_zero e2
    subst e3
    have hrun := run_append_owned_none (P := Try.prog) (w := w) base 25 o.type 39 i0 5 Try.underlying25 hi0 v n xs hown
    rw [e1] at hx
    unfold Oper.wp
    simp [execOp, ho, resolve, invoke, builtin, hs, hx, hrun, Result.andThen]
    exact h v w (by simpa using hown) ⟨rfl, rfl, rfl, Nat.le_refl _, fun _ _ _ => rfl⟩ (.inl rfl)
  · rw [e1] at hx
    exact op_app_at sx x 25 ho base 39 i0 _ 5 40 Try.underlying25 hi0 hz0 hz1 hz2 rfl (by decide) v n xs hs hown ⟨g, 0, none⟩ T.length cap (T.flatMap St.cs) hx (flat_len T) (fun j u hj => hT.cells (by rw [e1]; rfl) j u hj) (flat_one T) (by unfold maxLen; omega) (by omega) hbase h
theorem own_slice' {w : World} {base : Nat} {e : TypeId} {size : Nat} {v : Value} {n : Nat} {xs : List Value} (h : w.ownsRow base e size v n xs) : ∃ ao c, v = .slice ao n c := by
  rcases h.2 with ⟨e, h2⟩ | ⟨g, cap, cur, e, _⟩
  · exact ⟨none, 0, by rw [e, h2]⟩
  · exact ⟨_, _, e⟩
theorem own_below {w w' : World} {base : Nat} {e : TypeId} {size : Nat} {v : Value} {n : Nat} {xs : List Value} (h : w.ownsRow base e size v n xs) (g : Below w.heap.size w w') : w'.ownsRow base e size v n xs := by
  refine ⟨h.1, ?_⟩
  rcases h.2 with hn | ⟨k, cap, cur, e, hb, hk, rest⟩
  · exact .inl hn
  · exact .inr ⟨k, cap, cur, e, hb, (g.block k (lt_of_block hk)).trans hk, rest⟩
theorem flat_at (T : List St) (i : Nat) (hi : i < T.length) (j : Nat) (hj : j < 5) : (T.flatMap St.cs)[i * 5 + j]? = T[i].cs[j]? := by
  induction T generalizing i with
  | nil => simp at hi
  | cons t T ih =>
    rw [List.flatMap_cons]
    cases i with
    | zero => rw [List.getElem?_append_left (by simp [St.cs]; omega)]; simp
    | succ i =>
      rw [List.getElem?_append_right (by simp [St.cs]; omega)]
      have e : (i + 1) * 5 + j - t.cs.length = i * 5 + j := by simp [St.cs]; omega
      rw [e, ih i (by simpa using hi)]; simp
theorem own_rds {w : World} {base : Nat} {v : Value} {T : List St} (h : w.ownsRow base 39 5 v T.length (T.flatMap St.cs)) (hwf : ∀ x ∈ T, x.Wf) (hl : T.length ≤ 3000) : RdS w v T := by
  rcases h.2 with ⟨e1, e2⟩ | ⟨g, cap, cur, e1, hb, hg, h3, h4, h5, h6⟩
  · exact ⟨none, 0, by rw [e1, e2], by omega, by decide, hwf, Lib.hid fun hp => by omega⟩
  · refine ⟨_, cap, e1, h3, h4, hwf, Lib.hid fun _ => ⟨g, 0, rfl, lt_of_block hg, fun i hi => ?_⟩⟩
    have hc : ∀ j, j < 5 → w.cell? ⟨g, i * 5 + j, none⟩ = T[i].cs[j]? := by
      intro j hj
      rw [← flat_at T i hi j hj, block_cell hg, ← h6, List.getElem?_take, if_pos (by omega)]
      simp
    rw [Nat.zero_add]
    exact ⟨hc 0 (by omega), hc 1 (by omega), hc 2 (by omega), hc 3 (by omega), hc 4 (by omega)⟩
/-- What Say hands back, where it records. -/
def RSayP (w : World) (n : Int) (rv : Value) (T : List St) (err : Int) (e : Ending) (w' : World) : Prop :=
  Below w.heap.size w w' ∧ ∃ lv, e = .returned (.tuple #[.agg #[.int .i64 n, rv, lv], .int .i64 err]) ∧ w'.ownsRow w.heap.size 39 5 lv T.length (T.flatMap St.cs)
theorem say_fin {w V : World} {b : Nat} {n : Int} {x y : Value} {v50 : Value} {T : List St} {s : St} (h : V.heap[w.heap.size]? = some (.cells #[.int .i64 n, x, y] 27 (0, 0))) (o : V.ownsRow b 39 5 v50 (T.length + [s].length) (T.flatMap St.cs ++ [s].flatMap St.cs)) (bel : Below w.heap.size w V) (hb : w.heap.size + 2 < b) (hb2 : w.heap.size ≤ V.heap.size) :
    (V.setCell ⟨w.heap.size, 2, none⟩ v50).heap[w.heap.size]? = some (.cells #[.int .i64 n, x, v50] 27 (0, 0)) ∧ Below w.heap.size w (V.setCell ⟨w.heap.size, 2, none⟩ v50) ∧ (V.setCell ⟨w.heap.size, 2, none⟩ v50).ownsRow b 39 5 v50 (T ++ [s]).length ((T ++ [s]).flatMap St.cs) := by
  refine ⟨by simpa using set_at (i := 2) (u := v50) h, bel.setCell (Nat.le_refl _) _, ?_⟩
  rw [List.length_append, List.flatMap_append]
  refine ⟨o.1, ?_⟩
  rcases o.2 with hn | ⟨g, cap, cur, rfl, hbg, hg, rest⟩
  · exact .inl hn
  · exact .inr ⟨g, cap, cur, rfl, hbg, (set_old (by omega)).trans hg, rest⟩
theorem own_set {w : World} {base : Nat} {e : TypeId} {size : Nat} {v : Value} {n : Nat} {xs : List Value} {k i : Nat} {u : Value} (h : w.ownsRow base e size v n xs) (hk : k < base) : (w.setCell ⟨k, i, none⟩ u).ownsRow base e size v n xs := by
  refine ⟨h.1, ?_⟩
  rcases h.2 with hn | ⟨g, cap, cur, rfl, hb, hg, rest⟩
  · exact .inl hn
  · exact .inr ⟨g, cap, cur, rfl, hb, (set_old (by omega)).trans hg, rest⟩
theorem own_base {w : World} {base base' : Nat} {e : TypeId} {size : Nat} {v : Value} {n : Nat} {xs : List Value} (h : w.ownsRow base e size v n xs) (hk : base' ≤ base) : w.ownsRow base' e size v n xs := by
  refine ⟨h.1, ?_⟩
  rcases h.2 with hn | ⟨g, cap, cur, rfl, hb, rest⟩
  · exact .inl hn
  · exact .inr ⟨g, cap, cur, rfl, Nat.le_trans hk hb, rest⟩
theorem say_fin2 {w V : World} {b N : Nat} {n : Int} {x y : Value} {X : List Value} {z0 z1 z2 : Value} (o : V.ownsRow b 39 5 y N X) (bel : Below w.heap.size w V) (h : V.heap[w.heap.size + 2]? = some (.cells #[z0, z1, z2] 27 (0, 0))) (hb : w.heap.size + 2 < b) :
    (((V.setCell ⟨w.heap.size + 1 + 1, 0, none⟩ (.int .i64 n)).setCell ⟨w.heap.size + 1 + 1, 1, none⟩ x).setCell ⟨w.heap.size + 1 + 1, 2, none⟩ y).heap[w.heap.size + 1 + 1]? = some (.cells #[.int .i64 n, x, y] 27 (0, 0)) ∧
    Below w.heap.size w (((V.setCell ⟨w.heap.size + 1 + 1, 0, none⟩ (.int .i64 n)).setCell ⟨w.heap.size + 1 + 1, 1, none⟩ x).setCell ⟨w.heap.size + 1 + 1, 2, none⟩ y) ∧
    (((V.setCell ⟨w.heap.size + 1 + 1, 0, none⟩ (.int .i64 n)).setCell ⟨w.heap.size + 1 + 1, 1, none⟩ x).setCell ⟨w.heap.size + 1 + 1, 2, none⟩ y).ownsRow w.heap.size 39 5 y N X := by
  refine ⟨by simpa using set_at (i := 2) (u := y) (set_at (i := 1) (u := x) (set_at (i := 0) (u := .int .i64 n) h)), ?_, ?_⟩
  · exact ((bel.setCell (by simp; omega) _).setCell (by simp; omega) _).setCell (by simp; omega) _
  · exact own_base (own_set (own_set (own_set o (by omega)) (by omega)) (by omega)) (by omega)
set_option maxRecDepth 100000 in
set_option maxHeartbeats 2000000 in
theorem refSay_new (n : Int) (rv lv : Value) (xs : List Int) (T : List St) (sp : Int) (s : St) (b0 : Nat) (w : World) (hx : xs.length ≤ 1000) (hT : T.length < 1000) (hr : RdV w rv (xs.map iv)) (hwf : ∀ x ∈ T, x.Wf) (hl : w.ownsRow b0 39 5 lv T.length (T.flatMap St.cs))
    (h1 : 0 ≤ sp) (h2 : sp < n) (h3 : s.a = sp ∨ (sp ∈ xs ∧ s.a ∈ xs)) (hm : ¬ s ∈ T) :
    Calls Try.prog 11 #[.agg #[.int .i64 n, rv, lv], .int .i64 sp, s.v] w (RSayP w n rv (T ++ [s]) 0) := by
  obtain ⟨i0, hi0, hz0, hz1, hz2⟩ := info_parts st_info
  obtain ⟨a1, c1, hrv, _⟩ := rdv_open hr
  obtain ⟨ao, cap, hlv⟩ := own_slice' hl
  have hn1 : ∃ ao m c, lv = .slice ao m c := ⟨_, _, _, hlv⟩
  obtain ⟨Wb, hW⟩ : ∃ Wb, Wb = ((w.alloc (.cells #[.int .i64 n, .slice a1 xs.length c1, .slice ao T.length cap] 27)).alloc (.cells #[.int .i64 s.a, .int .i64 s.b, .int .i64 s.c, .int .i64 s.d, .int .i64 s.e] 39)).alloc (.cells #[.int .i64 0, .slice none 0 0, .slice none 0 0] 27) := ⟨_, rfl⟩
  have Be : Below w.heap.size w Wb := by rw [hW]; exact (((Below.refl _ _).alloc (Nat.le_refl _) _).alloc (by simp) _).alloc (by simp; omega) _
  have q3 : Wb.heap[w.heap.size]? = some (.cells #[.int .i64 n, .slice a1 xs.length c1, .slice ao T.length cap] 27 (0, 0)) := by rw [hW, heap_alloc_old _ _ (by simp; omega), heap_alloc_old _ _ (by simp)]; exact heap_alloc_new _ _
  have q5 : Wb.heap[w.heap.size + 1]? = some (.cells #[.int .i64 s.a, .int .i64 s.b, .int .i64 s.c, .int .i64 s.d, .int .i64 s.e] 39 (0, 0)) := by rw [hW, heap_alloc_old _ _ (by simp)]; exact heap_alloc2_new _ _ _
  have q6 : Wb.heap[w.heap.size + 2]? = some (.cells #[.int .i64 0, .slice none 0 0, .slice none 0 0] 27 (0, 0)) := by rw [hW]; have := heap_alloc_new ((w.alloc (.cells #[.int .i64 n, .slice a1 xs.length c1, .slice ao T.length cap] 27)).alloc (.cells #[.int .i64 s.a, .int .i64 s.b, .int .i64 s.c, .int .i64 s.d, .int .i64 s.e] 39)) (.cells #[.int .i64 0, .slice none 0 0, .slice none 0 0] 27); simpa using this
  have HB := Lib.hid (fun (p : Int) (w' : World) (g : Below Wb.heap.size Wb w') => refBad_any n rv lv xs hx p w' (hr.below (chain Be g) (Nat.le_refl _)) hn1)
  have HH := Lib.hid (fun (w' : World) (g : Below Wb.heap.size Wb w') => refHas_any n rv lv T (by omega) s w' ⟨_, _, _, hrv⟩ (own_rds (own_below hl (chain Be g)) hwf (by omega)))
  have HL := Lib.hid (fun (w' : World) (g : Below w.heap.size w w') => own_below hl g)
  have HC := Lib.hid (fun (w' : World) (g : Below Wb.heap.size Wb w') => (show w'.heap[w.heap.size]? = some (.cells #[.int .i64 n, .slice a1 xs.length c1, .slice ao T.length cap] 27 (0, 0)) ∧ w'.heap[w.heap.size + 1]? = some (.cells #[.int .i64 s.a, .int .i64 s.b, .int .i64 s.c, .int .i64 s.d, .int .i64 s.e] 39 (0, 0)) ∧ w'.heap[w.heap.size + 2]? = some (.cells #[.int .i64 0, .slice none 0 0, .slice none 0 0] 27 (0, 0)) from ⟨(g.block _ (lt_of_block q3)).trans q3, (g.block _ (lt_of_block q5)).trans q5, (g.block _ (lt_of_block q6)).trans q6⟩))
  have HM := Lib.hid (show decide (s ∈ T) = false from by simpa using hm)
  subst hrv hlv
  have bel := Below.refl Wb.heap.size Wb
  have f3 := cells3 q3
  have f5 := cells5 q5
  have e4 : ¬ sp < 0 := by omega
  have e5 : ¬ n ≤ sp := by omega
  have lW : w.heap.size + 2 < Wb.heap.size := lt_of_block q6
  clear hr hl hm hwf hn1
  unfold St.v at HH
  unfold St.v
  rcases h3 with h3 | ⟨h3, h4⟩
  · have e1 := int_eqn h3
    have e2 := int_eqb h3
    clear h3
    go_enter Try.func11, Try.ntmps11
    go_wp2_with fail
    rw [← hW]
    have hh := HH.out _ bel
    rw [HM.out] at hh
    refine hh.mono ?_
    rintro e w2 ⟨rfl, g2⟩
    have bel := chain bel g2
    have q := HC.out _ bel
    have f3 := cells3 q.1
    have f5 := cells5 q.2.1
    have e6 : decide ((65536 : Int) ≤ (T.length : Int)) = false := decide_eq_false (by omega)
    clear g2 hh
    go_wp2_with fail
    have hS0 : w2.drew.heap[w.heap.size]? = some (.cells #[.int .i64 n, .slice a1 xs.length c1, .slice ao T.length cap] 27 (0, 0)) ∧ w2.drew.heap[w.heap.size + 1]? = some (.cells #[.int .i64 s.a, .int .i64 s.b, .int .i64 s.c, .int .i64 s.d, .int .i64 s.e] 39 (0, 0)) ∧ w2.drew.heap[w.heap.size + 2]? = some (.cells #[.int .i64 0, .slice none 0 0, .slice none 0 0] 27 (0, 0)) := q
    have bel0 : Below w.heap.size w w2.drew := (chain Be bel).drew
    have z0 : w2.drew.heap.size ≤ w2.drew.heap.size := Nat.le_refl _
    have zb : w.heap.size + 2 < w2.drew.heap.size := lt_of_block q.2.2
    have oL0 := HL.out _ bel0
    clear f3 f5 q bel q3 q5 q6 hW HB HH HC HL Be lW
    refine v_start 8 (fun w' => w'.heap[w.heap.size]? = some (.cells #[.int .i64 n, .slice a1 xs.length c1, .slice ao T.length cap] 27 (0, 0)) ∧ w'.heap[w.heap.size + 1]? = some (.cells #[.int .i64 s.a, .int .i64 s.b, .int .i64 s.c, .int .i64 s.d, .int .i64 s.e] 39 (0, 0)) ∧ w'.heap[w.heap.size + 2]? = some (.cells #[.int .i64 0, .slice none 0 0, .slice none 0 0] 27 (0, 0))) (by kernel_rfl) ?_
    generalize w2.drew = W0 at *
    refine v_take (i := 1) (d := (some 45)) (v := ?_) rfl rfl (by kernel_rfl) (fun _ _ _ h => h) (by rfl) (by first | exact hS5 | exact hS4 | exact hS3 | exact hS2 | exact hS1 | exact hS0) (fun w' hb' => ?_) ?_
    rotate_left
    · (try go_simp); (try with_reducible rfl)
    try simp only [Act.put, List.setIfInBounds_toArray, List.set_cons_zero, List.set_cons_succ]
    refine v_take (i := 2) (d := (some 46)) (v := ?_) rfl rfl (by kernel_rfl) (fun _ _ _ h => h) (by rfl) (by first | exact hS5 | exact hS4 | exact hS3 | exact hS2 | exact hS1 | exact hS0) (fun w' hb' => ?_) ?_
    rotate_left
    · have hc := (cells3 hb'.1).2.2; (try go_simp); (try with_reducible rfl)
    try simp only [Act.put, List.setIfInBounds_toArray, List.set_cons_zero, List.set_cons_succ]
    refine v_take (i := 4) (d := (some 48)) (v := ?_) rfl rfl (by kernel_rfl) (fun _ _ _ h => h) (by rfl) (by first | exact hS5 | exact hS4 | exact hS3 | exact hS2 | exact hS1 | exact hS0) (fun w' hb' => ?_) ?_
    rotate_left
    · have hc := cells5 hb'.2.1; (try go_simp); (try with_reducible rfl)
    try simp only [Act.put, List.setIfInBounds_toArray, List.set_cons_zero, List.set_cons_succ]
    refine v_run2 (i := 0) (k := 5) rfl rfl (by kernel_rfl) (by kernel_rfl) (by rfl) (by rfl) (fun K hK => ?_) (fun K hK => ?_)
    · skip
      go_simp
      have hS := hS0
      have bel := bel0
      have z0 : W0.heap.size ≤ W0.heap.size := z0
      have oL := oL0
      have o44 : (W0.alloc (.cells #[] 39)).ownsRow W0.heap.size 39 5 (.slice (some ⟨W0.heap.size, 0, none⟩) 0 0) 0 [] := World.ownsRow_lit _ #[] 0 z0 (by decide) rfl
      have oL := oL.alloc (.cells #[] 39)
      have bel := bel.alloc bel.size (.cells #[] 39)
      have hS : (W0.alloc (.cells #[] 39)).heap[w.heap.size]? = some (.cells #[.int .i64 n, .slice a1 xs.length c1, .slice ao T.length cap] 27 (0, 0)) ∧ (W0.alloc (.cells #[] 39)).heap[w.heap.size + 1]? = some (.cells #[.int .i64 s.a, .int .i64 s.b, .int .i64 s.c, .int .i64 s.d, .int .i64 s.e] 39 (0, 0)) ∧ (W0.alloc (.cells #[] 39)).heap[w.heap.size + 2]? = some (.cells #[.int .i64 0, .slice none 0 0, .slice none 0 0] 27 (0, 0)) := ⟨(heap_alloc_old _ _ (lt_of_block hS.1)).trans hS.1, (heap_alloc_old _ _ (lt_of_block hS.2.1)).trans hS.2.1, (heap_alloc_old _ _ (lt_of_block hS.2.2)).trans hS.2.2⟩
      have z1 : W0.heap.size ≤ (W0.alloc (.cells #[] 39)).heap.size := by rw [World.size_alloc]; omega
      have zz : W0.heap.size < (W0.alloc (.cells #[] 39)).heap.size := by simp
      refine hK _ _ ⟨hS, ?_⟩
      clear hK K
      generalize W0.alloc (.cells #[] 39) = W1 at *
      have hS1 := hS
      have bel1 := bel
      have z1 := z1
      have oL1 := oL
      clear hS bel z1 oL z0
      try simp only [Act.put, List.setIfInBounds_toArray, List.set_cons_zero, List.set_cons_succ]
      refine v_run2 (i := 3) (k := 5) rfl rfl (by kernel_rfl) (by kernel_rfl) (by rfl) (by rfl) (fun K hK => ?_) (fun K hK => ?_)
      · skip
        refine op_app_st (.tmp 44) (.tmp 46) rfl W0.heap.size _ 0 [] rfl o44 _ T b0 rfl oL1 i0 hi0 hz0 hz1 hz2 (by omega) z1 ?_
        intro v47 W2 o47 g47 hl47
        rw [Nat.zero_add, List.nil_append] at o47
        have hS2 : W2.heap[w.heap.size]? = some (.cells #[.int .i64 n, .slice a1 xs.length c1, .slice ao T.length cap] 27 (0, 0)) ∧ W2.heap[w.heap.size + 1]? = some (.cells #[.int .i64 s.a, .int .i64 s.b, .int .i64 s.c, .int .i64 s.d, .int .i64 s.e] 39 (0, 0)) ∧ W2.heap[w.heap.size + 2]? = some (.cells #[.int .i64 0, .slice none 0 0, .slice none 0 0] 27 (0, 0)) := ⟨(g47.block _ (lt_of_block hS1.1) (own_ne o44 (by omega))).trans hS1.1, (g47.block _ (lt_of_block hS1.2.1) (own_ne o44 (by omega))).trans hS1.2.1, (g47.block _ (lt_of_block hS1.2.2) (own_ne o44 (by omega))).trans hS1.2.2⟩
        have bel2 : Below w.heap.size w W2 := bel1.grown g47 bel1.size (fun k hk => by have := (o44.lt k hk).1; omega)
        have z2 : W0.heap.size ≤ W2.heap.size := Nat.le_trans z1 g47.size
        obtain ⟨b47, m47, c47, rfl⟩ := own_slice o47
        refine hK _ _ ⟨hS2, ?_⟩
        clear hK K
        have oL2 := o47
        try simp only [Act.put, List.setIfInBounds_toArray, List.set_cons_zero, List.set_cons_succ]
        refine v_run (i := 5) rfl (by kernel_rfl) (by kernel_rfl) (by rfl) (fun K hK => ?_)
        go_simp
        have hS := hS2
        have bel := bel2
        have z0 : W0.heap.size ≤ W2.heap.size := z2
        have oL := oL2
        have o49 : (W2.alloc (.cells #[.int .i64 s.a, .int .i64 s.b, .int .i64 s.c, .int .i64 s.d, .int .i64 s.e] 39)).ownsRow W0.heap.size 39 5 (.slice (some ⟨W2.heap.size, 0, none⟩) 1 1) ([s] : List St).length (([s] : List St).flatMap St.cs) := by simpa [St.cs] using World.ownsRow_lit (base := W0.heap.size) (size := 5) (w := W2) (e := 39) #[.int .i64 s.a, .int .i64 s.b, .int .i64 s.c, .int .i64 s.d, .int .i64 s.e] 1 z0 (by decide) rfl
        have o44 := o44.alloc (.cells #[.int .i64 s.a, .int .i64 s.b, .int .i64 s.c, .int .i64 s.d, .int .i64 s.e] 39)
        have o47 := o47.alloc (.cells #[.int .i64 s.a, .int .i64 s.b, .int .i64 s.c, .int .i64 s.d, .int .i64 s.e] 39)
        have oL := oL.alloc (.cells #[.int .i64 s.a, .int .i64 s.b, .int .i64 s.c, .int .i64 s.d, .int .i64 s.e] 39)
        have bel := bel.alloc bel.size (.cells #[.int .i64 s.a, .int .i64 s.b, .int .i64 s.c, .int .i64 s.d, .int .i64 s.e] 39)
        have hS : (W2.alloc (.cells #[.int .i64 s.a, .int .i64 s.b, .int .i64 s.c, .int .i64 s.d, .int .i64 s.e] 39)).heap[w.heap.size]? = some (.cells #[.int .i64 n, .slice a1 xs.length c1, .slice ao T.length cap] 27 (0, 0)) ∧ (W2.alloc (.cells #[.int .i64 s.a, .int .i64 s.b, .int .i64 s.c, .int .i64 s.d, .int .i64 s.e] 39)).heap[w.heap.size + 1]? = some (.cells #[.int .i64 s.a, .int .i64 s.b, .int .i64 s.c, .int .i64 s.d, .int .i64 s.e] 39 (0, 0)) ∧ (W2.alloc (.cells #[.int .i64 s.a, .int .i64 s.b, .int .i64 s.c, .int .i64 s.d, .int .i64 s.e] 39)).heap[w.heap.size + 2]? = some (.cells #[.int .i64 0, .slice none 0 0, .slice none 0 0] 27 (0, 0)) := ⟨(heap_alloc_old _ _ (lt_of_block hS.1)).trans hS.1, (heap_alloc_old _ _ (lt_of_block hS.2.1)).trans hS.2.1, (heap_alloc_old _ _ (lt_of_block hS.2.2)).trans hS.2.2⟩
        have z1 : W0.heap.size ≤ (W2.alloc (.cells #[.int .i64 s.a, .int .i64 s.b, .int .i64 s.c, .int .i64 s.d, .int .i64 s.e] 39)).heap.size := by rw [World.size_alloc]; omega
        have zz : W2.heap.size < (W2.alloc (.cells #[.int .i64 s.a, .int .i64 s.b, .int .i64 s.c, .int .i64 s.d, .int .i64 s.e] 39)).heap.size := by simp
        refine hK _ _ ⟨hS, ?_⟩
        clear hK K
        generalize W2.alloc (.cells #[.int .i64 s.a, .int .i64 s.b, .int .i64 s.c, .int .i64 s.d, .int .i64 s.e] 39) = W3 at *
        have hS3 := hS
        have bel3 := bel
        have z3 := z1
        have oL3 := oL
        clear hS bel z1 oL z0
        try simp only [Act.put, List.setIfInBounds_toArray, List.set_cons_zero, List.set_cons_succ]
        refine v_run (i := 6) rfl (by kernel_rfl) (by kernel_rfl) (by rfl) (fun K hK => ?_)
        refine op_app_st (.tmp 47) (.tmp 49) rfl W0.heap.size (.slice b47 m47 c47) T.length (T.flatMap St.cs) (by rfl) o47 (.slice (some ⟨W2.heap.size, 0, none⟩) 1 1) [s] W0.heap.size (by rfl) o49 i0 hi0 hz0 hz1 hz2 (by simp; omega) z3 ?_
        intro v50 W4 o50 g50 hl50
        have hS4 : W4.heap[w.heap.size]? = some (.cells #[.int .i64 n, .slice a1 xs.length c1, .slice ao T.length cap] 27 (0, 0)) ∧ W4.heap[w.heap.size + 1]? = some (.cells #[.int .i64 s.a, .int .i64 s.b, .int .i64 s.c, .int .i64 s.d, .int .i64 s.e] 39 (0, 0)) ∧ W4.heap[w.heap.size + 2]? = some (.cells #[.int .i64 0, .slice none 0 0, .slice none 0 0] 27 (0, 0)) := ⟨(g50.block _ (lt_of_block hS3.1) (own_ne o47 (by omega))).trans hS3.1, (g50.block _ (lt_of_block hS3.2.1) (own_ne o47 (by omega))).trans hS3.2.1, (g50.block _ (lt_of_block hS3.2.2) (own_ne o47 (by omega))).trans hS3.2.2⟩
        have bel4 : Below w.heap.size w W4 := bel3.grown g50 bel3.size (fun k hk => by have := (o47.lt k hk).1; omega)
        obtain ⟨b50, m50, c50, rfl⟩ := own_slice o50
        refine hK _ _ ⟨hS4, ?_⟩
        clear hK K
        have RS := say_fin hS4.1 o50 bel4 (by omega) bel4.size
        obtain ⟨WW, hWW⟩ : ∃ WW, WW = W4 := ⟨_, rfl⟩
        rw [← hWW] at RS hS4 ⊢
        clear hWW
        try simp only [Act.put, List.setIfInBounds_toArray, List.set_cons_zero, List.set_cons_succ]
        refine v_take (i := 7) (d := (some 51)) (v := ?_) rfl rfl (by kernel_rfl) (fun _ _ _ h => h) (by rfl) (by first | exact hS5 | exact hS4 | exact hS3 | exact hS2 | exact hS1 | exact hS0) (fun w' hb' => ?_) ?_
        rotate_left
        · (try go_simp); (try with_reducible rfl)
        try simp only [Act.put, List.setIfInBounds_toArray, List.set_cons_zero, List.set_cons_succ]
        refine v_last (i := 8) rfl (by kernel_rfl) (by kernel_rfl) (by kernel_rfl) (by rfl) (fun K hK => ?_)
        have hc := block_cell hS4.1 2
        have hf := block_frozen hS4.1 2
        simp at hc
        go_simp
        refine hK _ _ ?_
        clear hK K
        obtain ⟨r1, r2, r3⟩ := RS
        have r6 := (set_old (w := WW) (i := 2) (u := .slice b50 m50 c50) (by omega : w.heap.size + 2 ≠ w.heap.size)).trans hS4.2.2
        generalize WW.setCell ⟨w.heap.size, 2, none⟩ (.slice b50 m50 c50) = WF at *
        obtain ⟨g1, g2, g3⟩ := cells3 r1
        obtain ⟨g4, g5, g6⟩ := cells3 r6
        have g7 := block_frozen r6
        have R3 := Lib.hid r3
        clear r3
        go_wp2_with fail
        have fin := say_fin2 (n := n) (x := .slice a1 xs.length c1) R3.out r2 r6 zb
        obtain ⟨u1, u2, u3⟩ := cells3 fin.1
        exact bodyPost_ret (v := .tuple #[.agg #[.int .i64 n, .slice a1 xs.length c1, .slice b50 m50 c50], .int .i64 0]) (by simp [results, Try.results11, go_sem, u1, u2, u3]) rfl ⟨fin.2.1, _, rfl, fin.2.2⟩
      · skip
        go_simp
        have hS := hS1
        have bel := bel1
        have z0 : W0.heap.size ≤ W1.heap.size := z1
        have oL := oL1
        have o49 : (W1.alloc (.cells #[.int .i64 s.a, .int .i64 s.b, .int .i64 s.c, .int .i64 s.d, .int .i64 s.e] 39)).ownsRow W0.heap.size 39 5 (.slice (some ⟨W1.heap.size, 0, none⟩) 1 1) ([s] : List St).length (([s] : List St).flatMap St.cs) := by simpa [St.cs] using World.ownsRow_lit (base := W0.heap.size) (size := 5) (w := W1) (e := 39) #[.int .i64 s.a, .int .i64 s.b, .int .i64 s.c, .int .i64 s.d, .int .i64 s.e] 1 z0 (by decide) rfl
        have o44 := o44.alloc (.cells #[.int .i64 s.a, .int .i64 s.b, .int .i64 s.c, .int .i64 s.d, .int .i64 s.e] 39)
        have oL := oL.alloc (.cells #[.int .i64 s.a, .int .i64 s.b, .int .i64 s.c, .int .i64 s.d, .int .i64 s.e] 39)
        have bel := bel.alloc bel.size (.cells #[.int .i64 s.a, .int .i64 s.b, .int .i64 s.c, .int .i64 s.d, .int .i64 s.e] 39)
        have hS : (W1.alloc (.cells #[.int .i64 s.a, .int .i64 s.b, .int .i64 s.c, .int .i64 s.d, .int .i64 s.e] 39)).heap[w.heap.size]? = some (.cells #[.int .i64 n, .slice a1 xs.length c1, .slice ao T.length cap] 27 (0, 0)) ∧ (W1.alloc (.cells #[.int .i64 s.a, .int .i64 s.b, .int .i64 s.c, .int .i64 s.d, .int .i64 s.e] 39)).heap[w.heap.size + 1]? = some (.cells #[.int .i64 s.a, .int .i64 s.b, .int .i64 s.c, .int .i64 s.d, .int .i64 s.e] 39 (0, 0)) ∧ (W1.alloc (.cells #[.int .i64 s.a, .int .i64 s.b, .int .i64 s.c, .int .i64 s.d, .int .i64 s.e] 39)).heap[w.heap.size + 2]? = some (.cells #[.int .i64 0, .slice none 0 0, .slice none 0 0] 27 (0, 0)) := ⟨(heap_alloc_old _ _ (lt_of_block hS.1)).trans hS.1, (heap_alloc_old _ _ (lt_of_block hS.2.1)).trans hS.2.1, (heap_alloc_old _ _ (lt_of_block hS.2.2)).trans hS.2.2⟩
        have z1 : W0.heap.size ≤ (W1.alloc (.cells #[.int .i64 s.a, .int .i64 s.b, .int .i64 s.c, .int .i64 s.d, .int .i64 s.e] 39)).heap.size := by rw [World.size_alloc]; omega
        have zz : W1.heap.size < (W1.alloc (.cells #[.int .i64 s.a, .int .i64 s.b, .int .i64 s.c, .int .i64 s.d, .int .i64 s.e] 39)).heap.size := by simp
        refine hK _ _ ⟨hS, ?_⟩
        clear hK K
        generalize W1.alloc (.cells #[.int .i64 s.a, .int .i64 s.b, .int .i64 s.c, .int .i64 s.d, .int .i64 s.e] 39) = W2 at *
        have hS2 := hS
        have bel2 := bel
        have z2 := z1
        have oL2 := oL
        clear hS bel z1 oL z0
        try simp only [Act.put, List.setIfInBounds_toArray, List.set_cons_zero, List.set_cons_succ]
        refine v_run (i := 3) rfl (by kernel_rfl) (by kernel_rfl) (by rfl) (fun K hK => ?_)
        refine op_app_st (.tmp 44) (.tmp 46) rfl W0.heap.size _ 0 [] rfl o44 _ T b0 rfl oL2 i0 hi0 hz0 hz1 hz2 (by omega) z2 ?_
        intro v47 W3 o47 g47 hl47
        rw [Nat.zero_add, List.nil_append] at o47
        have hS3 : W3.heap[w.heap.size]? = some (.cells #[.int .i64 n, .slice a1 xs.length c1, .slice ao T.length cap] 27 (0, 0)) ∧ W3.heap[w.heap.size + 1]? = some (.cells #[.int .i64 s.a, .int .i64 s.b, .int .i64 s.c, .int .i64 s.d, .int .i64 s.e] 39 (0, 0)) ∧ W3.heap[w.heap.size + 2]? = some (.cells #[.int .i64 0, .slice none 0 0, .slice none 0 0] 27 (0, 0)) := ⟨(g47.block _ (lt_of_block hS2.1) (own_ne o44 (by omega))).trans hS2.1, (g47.block _ (lt_of_block hS2.2.1) (own_ne o44 (by omega))).trans hS2.2.1, (g47.block _ (lt_of_block hS2.2.2) (own_ne o44 (by omega))).trans hS2.2.2⟩
        have bel3 : Below w.heap.size w W3 := bel2.grown g47 bel2.size (fun k hk => by have := (o44.lt k hk).1; omega)
        have z3 : W0.heap.size ≤ W3.heap.size := Nat.le_trans z2 g47.size
        have o49 := o49.kept g47 (.inr (own_apart (by omega)))
        obtain ⟨b47, m47, c47, rfl⟩ := own_slice o47
        refine hK _ _ ⟨hS3, ?_⟩
        clear hK K
        have oL3 := o47
        try simp only [Act.put, List.setIfInBounds_toArray, List.set_cons_zero, List.set_cons_succ]
        refine v_run (i := 6) rfl (by kernel_rfl) (by kernel_rfl) (by rfl) (fun K hK => ?_)
        refine op_app_st (.tmp 47) (.tmp 49) rfl W0.heap.size (.slice b47 m47 c47) T.length (T.flatMap St.cs) (by rfl) o47 (.slice (some ⟨W1.heap.size, 0, none⟩) 1 1) [s] W0.heap.size (by rfl) o49 i0 hi0 hz0 hz1 hz2 (by simp; omega) z3 ?_
        intro v50 W4 o50 g50 hl50
        have hS4 : W4.heap[w.heap.size]? = some (.cells #[.int .i64 n, .slice a1 xs.length c1, .slice ao T.length cap] 27 (0, 0)) ∧ W4.heap[w.heap.size + 1]? = some (.cells #[.int .i64 s.a, .int .i64 s.b, .int .i64 s.c, .int .i64 s.d, .int .i64 s.e] 39 (0, 0)) ∧ W4.heap[w.heap.size + 2]? = some (.cells #[.int .i64 0, .slice none 0 0, .slice none 0 0] 27 (0, 0)) := ⟨(g50.block _ (lt_of_block hS3.1) (own_ne o47 (by omega))).trans hS3.1, (g50.block _ (lt_of_block hS3.2.1) (own_ne o47 (by omega))).trans hS3.2.1, (g50.block _ (lt_of_block hS3.2.2) (own_ne o47 (by omega))).trans hS3.2.2⟩
        have bel4 : Below w.heap.size w W4 := bel3.grown g50 bel3.size (fun k hk => by have := (o47.lt k hk).1; omega)
        obtain ⟨b50, m50, c50, rfl⟩ := own_slice o50
        refine hK _ _ ⟨hS4, ?_⟩
        clear hK K
        have RS := say_fin hS4.1 o50 bel4 (by omega) bel4.size
        obtain ⟨WW, hWW⟩ : ∃ WW, WW = W4 := ⟨_, rfl⟩
        rw [← hWW] at RS hS4 ⊢
        clear hWW
        try simp only [Act.put, List.setIfInBounds_toArray, List.set_cons_zero, List.set_cons_succ]
        refine v_take (i := 7) (d := (some 51)) (v := ?_) rfl rfl (by kernel_rfl) (fun _ _ _ h => h) (by rfl) (by first | exact hS5 | exact hS4 | exact hS3 | exact hS2 | exact hS1 | exact hS0) (fun w' hb' => ?_) ?_
        rotate_left
        · (try go_simp); (try with_reducible rfl)
        try simp only [Act.put, List.setIfInBounds_toArray, List.set_cons_zero, List.set_cons_succ]
        refine v_last (i := 8) rfl (by kernel_rfl) (by kernel_rfl) (by kernel_rfl) (by rfl) (fun K hK => ?_)
        have hc := block_cell hS4.1 2
        have hf := block_frozen hS4.1 2
        simp at hc
        go_simp
        refine hK _ _ ?_
        clear hK K
        obtain ⟨r1, r2, r3⟩ := RS
        have r6 := (set_old (w := WW) (i := 2) (u := .slice b50 m50 c50) (by omega : w.heap.size + 2 ≠ w.heap.size)).trans hS4.2.2
        generalize WW.setCell ⟨w.heap.size, 2, none⟩ (.slice b50 m50 c50) = WF at *
        obtain ⟨g1, g2, g3⟩ := cells3 r1
        obtain ⟨g4, g5, g6⟩ := cells3 r6
        have g7 := block_frozen r6
        have R3 := Lib.hid r3
        clear r3
        go_wp2_with fail
        have fin := say_fin2 (n := n) (x := .slice a1 xs.length c1) R3.out r2 r6 zb
        obtain ⟨u1, u2, u3⟩ := cells3 fin.1
        exact bodyPost_ret (v := .tuple #[.agg #[.int .i64 n, .slice a1 xs.length c1, .slice b50 m50 c50], .int .i64 0]) (by simp [results, Try.results11, go_sem, u1, u2, u3]) rfl ⟨fin.2.1, _, rfl, fin.2.2⟩
    · skip
      go_simp
      have hS := hS0
      have bel := bel0
      have z0 : W0.heap.size ≤ W0.heap.size := z0
      have oL := oL0
      have o49 : (W0.alloc (.cells #[.int .i64 s.a, .int .i64 s.b, .int .i64 s.c, .int .i64 s.d, .int .i64 s.e] 39)).ownsRow W0.heap.size 39 5 (.slice (some ⟨W0.heap.size, 0, none⟩) 1 1) ([s] : List St).length (([s] : List St).flatMap St.cs) := by simpa [St.cs] using World.ownsRow_lit (base := W0.heap.size) (size := 5) (w := W0) (e := 39) #[.int .i64 s.a, .int .i64 s.b, .int .i64 s.c, .int .i64 s.d, .int .i64 s.e] 1 z0 (by decide) rfl
      have oL := oL.alloc (.cells #[.int .i64 s.a, .int .i64 s.b, .int .i64 s.c, .int .i64 s.d, .int .i64 s.e] 39)
      have bel := bel.alloc bel.size (.cells #[.int .i64 s.a, .int .i64 s.b, .int .i64 s.c, .int .i64 s.d, .int .i64 s.e] 39)
      have hS : (W0.alloc (.cells #[.int .i64 s.a, .int .i64 s.b, .int .i64 s.c, .int .i64 s.d, .int .i64 s.e] 39)).heap[w.heap.size]? = some (.cells #[.int .i64 n, .slice a1 xs.length c1, .slice ao T.length cap] 27 (0, 0)) ∧ (W0.alloc (.cells #[.int .i64 s.a, .int .i64 s.b, .int .i64 s.c, .int .i64 s.d, .int .i64 s.e] 39)).heap[w.heap.size + 1]? = some (.cells #[.int .i64 s.a, .int .i64 s.b, .int .i64 s.c, .int .i64 s.d, .int .i64 s.e] 39 (0, 0)) ∧ (W0.alloc (.cells #[.int .i64 s.a, .int .i64 s.b, .int .i64 s.c, .int .i64 s.d, .int .i64 s.e] 39)).heap[w.heap.size + 2]? = some (.cells #[.int .i64 0, .slice none 0 0, .slice none 0 0] 27 (0, 0)) := ⟨(heap_alloc_old _ _ (lt_of_block hS.1)).trans hS.1, (heap_alloc_old _ _ (lt_of_block hS.2.1)).trans hS.2.1, (heap_alloc_old _ _ (lt_of_block hS.2.2)).trans hS.2.2⟩
      have z1 : W0.heap.size ≤ (W0.alloc (.cells #[.int .i64 s.a, .int .i64 s.b, .int .i64 s.c, .int .i64 s.d, .int .i64 s.e] 39)).heap.size := by rw [World.size_alloc]; omega
      have zz : W0.heap.size < (W0.alloc (.cells #[.int .i64 s.a, .int .i64 s.b, .int .i64 s.c, .int .i64 s.d, .int .i64 s.e] 39)).heap.size := by simp
      refine hK _ _ ⟨hS, ?_⟩
      clear hK K
      generalize W0.alloc (.cells #[.int .i64 s.a, .int .i64 s.b, .int .i64 s.c, .int .i64 s.d, .int .i64 s.e] 39) = W1 at *
      have hS1 := hS
      have bel1 := bel
      have z1 := z1
      have oL1 := oL
      clear hS bel z1 oL z0
      try simp only [Act.put, List.setIfInBounds_toArray, List.set_cons_zero, List.set_cons_succ]
      refine v_run (i := 0) rfl (by kernel_rfl) (by kernel_rfl) (by rfl) (fun K hK => ?_)
      go_simp
      have hS := hS1
      have bel := bel1
      have z0 : W0.heap.size ≤ W1.heap.size := z1
      have oL := oL1
      have o44 : (W1.alloc (.cells #[] 39)).ownsRow W0.heap.size 39 5 (.slice (some ⟨W1.heap.size, 0, none⟩) 0 0) 0 [] := World.ownsRow_lit _ #[] 0 z0 (by decide) rfl
      have o49 := o49.alloc (.cells #[] 39)
      have oL := oL.alloc (.cells #[] 39)
      have bel := bel.alloc bel.size (.cells #[] 39)
      have hS : (W1.alloc (.cells #[] 39)).heap[w.heap.size]? = some (.cells #[.int .i64 n, .slice a1 xs.length c1, .slice ao T.length cap] 27 (0, 0)) ∧ (W1.alloc (.cells #[] 39)).heap[w.heap.size + 1]? = some (.cells #[.int .i64 s.a, .int .i64 s.b, .int .i64 s.c, .int .i64 s.d, .int .i64 s.e] 39 (0, 0)) ∧ (W1.alloc (.cells #[] 39)).heap[w.heap.size + 2]? = some (.cells #[.int .i64 0, .slice none 0 0, .slice none 0 0] 27 (0, 0)) := ⟨(heap_alloc_old _ _ (lt_of_block hS.1)).trans hS.1, (heap_alloc_old _ _ (lt_of_block hS.2.1)).trans hS.2.1, (heap_alloc_old _ _ (lt_of_block hS.2.2)).trans hS.2.2⟩
      have z1 : W0.heap.size ≤ (W1.alloc (.cells #[] 39)).heap.size := by rw [World.size_alloc]; omega
      have zz : W1.heap.size < (W1.alloc (.cells #[] 39)).heap.size := by simp
      refine hK _ _ ⟨hS, ?_⟩
      clear hK K
      generalize W1.alloc (.cells #[] 39) = W2 at *
      have hS2 := hS
      have bel2 := bel
      have z2 := z1
      have oL2 := oL
      clear hS bel z1 oL z0
      try simp only [Act.put, List.setIfInBounds_toArray, List.set_cons_zero, List.set_cons_succ]
      refine v_run (i := 3) rfl (by kernel_rfl) (by kernel_rfl) (by rfl) (fun K hK => ?_)
      refine op_app_st (.tmp 44) (.tmp 46) rfl W0.heap.size _ 0 [] rfl o44 _ T b0 rfl oL2 i0 hi0 hz0 hz1 hz2 (by omega) z2 ?_
      intro v47 W3 o47 g47 hl47
      rw [Nat.zero_add, List.nil_append] at o47
      have hS3 : W3.heap[w.heap.size]? = some (.cells #[.int .i64 n, .slice a1 xs.length c1, .slice ao T.length cap] 27 (0, 0)) ∧ W3.heap[w.heap.size + 1]? = some (.cells #[.int .i64 s.a, .int .i64 s.b, .int .i64 s.c, .int .i64 s.d, .int .i64 s.e] 39 (0, 0)) ∧ W3.heap[w.heap.size + 2]? = some (.cells #[.int .i64 0, .slice none 0 0, .slice none 0 0] 27 (0, 0)) := ⟨(g47.block _ (lt_of_block hS2.1) (own_ne o44 (by omega))).trans hS2.1, (g47.block _ (lt_of_block hS2.2.1) (own_ne o44 (by omega))).trans hS2.2.1, (g47.block _ (lt_of_block hS2.2.2) (own_ne o44 (by omega))).trans hS2.2.2⟩
      have bel3 : Below w.heap.size w W3 := bel2.grown g47 bel2.size (fun k hk => by have := (o44.lt k hk).1; omega)
      have z3 : W0.heap.size ≤ W3.heap.size := Nat.le_trans z2 g47.size
      have o49 := o49.kept g47 (.inr (own_apart (by omega)))
      obtain ⟨b47, m47, c47, rfl⟩ := own_slice o47
      refine hK _ _ ⟨hS3, ?_⟩
      clear hK K
      have oL3 := o47
      try simp only [Act.put, List.setIfInBounds_toArray, List.set_cons_zero, List.set_cons_succ]
      refine v_run (i := 6) rfl (by kernel_rfl) (by kernel_rfl) (by rfl) (fun K hK => ?_)
      refine op_app_st (.tmp 47) (.tmp 49) rfl W0.heap.size (.slice b47 m47 c47) T.length (T.flatMap St.cs) (by rfl) o47 (.slice (some ⟨W0.heap.size, 0, none⟩) 1 1) [s] W0.heap.size (by rfl) o49 i0 hi0 hz0 hz1 hz2 (by simp; omega) z3 ?_
      intro v50 W4 o50 g50 hl50
      have hS4 : W4.heap[w.heap.size]? = some (.cells #[.int .i64 n, .slice a1 xs.length c1, .slice ao T.length cap] 27 (0, 0)) ∧ W4.heap[w.heap.size + 1]? = some (.cells #[.int .i64 s.a, .int .i64 s.b, .int .i64 s.c, .int .i64 s.d, .int .i64 s.e] 39 (0, 0)) ∧ W4.heap[w.heap.size + 2]? = some (.cells #[.int .i64 0, .slice none 0 0, .slice none 0 0] 27 (0, 0)) := ⟨(g50.block _ (lt_of_block hS3.1) (own_ne o47 (by omega))).trans hS3.1, (g50.block _ (lt_of_block hS3.2.1) (own_ne o47 (by omega))).trans hS3.2.1, (g50.block _ (lt_of_block hS3.2.2) (own_ne o47 (by omega))).trans hS3.2.2⟩
      have bel4 : Below w.heap.size w W4 := bel3.grown g50 bel3.size (fun k hk => by have := (o47.lt k hk).1; omega)
      obtain ⟨b50, m50, c50, rfl⟩ := own_slice o50
      refine hK _ _ ⟨hS4, ?_⟩
      clear hK K
      have RS := say_fin hS4.1 o50 bel4 (by omega) bel4.size
      obtain ⟨WW, hWW⟩ : ∃ WW, WW = W4 := ⟨_, rfl⟩
      rw [← hWW] at RS hS4 ⊢
      clear hWW
      try simp only [Act.put, List.setIfInBounds_toArray, List.set_cons_zero, List.set_cons_succ]
      refine v_take (i := 7) (d := (some 51)) (v := ?_) rfl rfl (by kernel_rfl) (fun _ _ _ h => h) (by rfl) (by first | exact hS5 | exact hS4 | exact hS3 | exact hS2 | exact hS1 | exact hS0) (fun w' hb' => ?_) ?_
      rotate_left
      · (try go_simp); (try with_reducible rfl)
      try simp only [Act.put, List.setIfInBounds_toArray, List.set_cons_zero, List.set_cons_succ]
      refine v_last (i := 8) rfl (by kernel_rfl) (by kernel_rfl) (by kernel_rfl) (by rfl) (fun K hK => ?_)
      have hc := block_cell hS4.1 2
      have hf := block_frozen hS4.1 2
      simp at hc
      go_simp
      refine hK _ _ ?_
      clear hK K
      obtain ⟨r1, r2, r3⟩ := RS
      have r6 := (set_old (w := WW) (i := 2) (u := .slice b50 m50 c50) (by omega : w.heap.size + 2 ≠ w.heap.size)).trans hS4.2.2
      generalize WW.setCell ⟨w.heap.size, 2, none⟩ (.slice b50 m50 c50) = WF at *
      obtain ⟨g1, g2, g3⟩ := cells3 r1
      obtain ⟨g4, g5, g6⟩ := cells3 r6
      have g7 := block_frozen r6
      have R3 := Lib.hid r3
      clear r3
      go_wp2_with fail
      have fin := say_fin2 (n := n) (x := .slice a1 xs.length c1) R3.out r2 r6 zb
      obtain ⟨u1, u2, u3⟩ := cells3 fin.1
      exact bodyPost_ret (v := .tuple #[.agg #[.int .i64 n, .slice a1 xs.length c1, .slice b50 m50 c50], .int .i64 0]) (by simp [results, Try.results11, go_sem, u1, u2, u3]) rfl ⟨fin.2.1, _, rfl, fin.2.2⟩
  · by_cases h5 : s.a = sp
    · have e1 := int_eqn h5
      have e2 := int_eqb h5
      clear h3 h4 h5
      go_enter Try.func11, Try.ntmps11
      go_wp2_with fail
      rw [← hW]
      have hh := HH.out _ bel
      rw [HM.out] at hh
      refine hh.mono ?_
      rintro e w2 ⟨rfl, g2⟩
      have bel := chain bel g2
      have q := HC.out _ bel
      have f3 := cells3 q.1
      have f5 := cells5 q.2.1
      have e6 : decide ((65536 : Int) ≤ (T.length : Int)) = false := decide_eq_false (by omega)
      clear g2 hh
      go_wp2_with fail
      have hS0 : w2.drew.heap[w.heap.size]? = some (.cells #[.int .i64 n, .slice a1 xs.length c1, .slice ao T.length cap] 27 (0, 0)) ∧ w2.drew.heap[w.heap.size + 1]? = some (.cells #[.int .i64 s.a, .int .i64 s.b, .int .i64 s.c, .int .i64 s.d, .int .i64 s.e] 39 (0, 0)) ∧ w2.drew.heap[w.heap.size + 2]? = some (.cells #[.int .i64 0, .slice none 0 0, .slice none 0 0] 27 (0, 0)) := q
      have bel0 : Below w.heap.size w w2.drew := (chain Be bel).drew
      have z0 : w2.drew.heap.size ≤ w2.drew.heap.size := Nat.le_refl _
      have zb : w.heap.size + 2 < w2.drew.heap.size := lt_of_block q.2.2
      have oL0 := HL.out _ bel0
      clear f3 f5 q bel q3 q5 q6 hW HB HH HC HL Be lW
      refine v_start 8 (fun w' => w'.heap[w.heap.size]? = some (.cells #[.int .i64 n, .slice a1 xs.length c1, .slice ao T.length cap] 27 (0, 0)) ∧ w'.heap[w.heap.size + 1]? = some (.cells #[.int .i64 s.a, .int .i64 s.b, .int .i64 s.c, .int .i64 s.d, .int .i64 s.e] 39 (0, 0)) ∧ w'.heap[w.heap.size + 2]? = some (.cells #[.int .i64 0, .slice none 0 0, .slice none 0 0] 27 (0, 0))) (by kernel_rfl) ?_
      generalize w2.drew = W0 at *
      refine v_take (i := 1) (d := (some 45)) (v := ?_) rfl rfl (by kernel_rfl) (fun _ _ _ h => h) (by rfl) (by first | exact hS5 | exact hS4 | exact hS3 | exact hS2 | exact hS1 | exact hS0) (fun w' hb' => ?_) ?_
      rotate_left
      · (try go_simp); (try with_reducible rfl)
      try simp only [Act.put, List.setIfInBounds_toArray, List.set_cons_zero, List.set_cons_succ]
      refine v_take (i := 2) (d := (some 46)) (v := ?_) rfl rfl (by kernel_rfl) (fun _ _ _ h => h) (by rfl) (by first | exact hS5 | exact hS4 | exact hS3 | exact hS2 | exact hS1 | exact hS0) (fun w' hb' => ?_) ?_
      rotate_left
      · have hc := (cells3 hb'.1).2.2; (try go_simp); (try with_reducible rfl)
      try simp only [Act.put, List.setIfInBounds_toArray, List.set_cons_zero, List.set_cons_succ]
      refine v_take (i := 4) (d := (some 48)) (v := ?_) rfl rfl (by kernel_rfl) (fun _ _ _ h => h) (by rfl) (by first | exact hS5 | exact hS4 | exact hS3 | exact hS2 | exact hS1 | exact hS0) (fun w' hb' => ?_) ?_
      rotate_left
      · have hc := cells5 hb'.2.1; (try go_simp); (try with_reducible rfl)
      try simp only [Act.put, List.setIfInBounds_toArray, List.set_cons_zero, List.set_cons_succ]
      refine v_run2 (i := 0) (k := 5) rfl rfl (by kernel_rfl) (by kernel_rfl) (by rfl) (by rfl) (fun K hK => ?_) (fun K hK => ?_)
      · skip
        go_simp
        have hS := hS0
        have bel := bel0
        have z0 : W0.heap.size ≤ W0.heap.size := z0
        have oL := oL0
        have o44 : (W0.alloc (.cells #[] 39)).ownsRow W0.heap.size 39 5 (.slice (some ⟨W0.heap.size, 0, none⟩) 0 0) 0 [] := World.ownsRow_lit _ #[] 0 z0 (by decide) rfl
        have oL := oL.alloc (.cells #[] 39)
        have bel := bel.alloc bel.size (.cells #[] 39)
        have hS : (W0.alloc (.cells #[] 39)).heap[w.heap.size]? = some (.cells #[.int .i64 n, .slice a1 xs.length c1, .slice ao T.length cap] 27 (0, 0)) ∧ (W0.alloc (.cells #[] 39)).heap[w.heap.size + 1]? = some (.cells #[.int .i64 s.a, .int .i64 s.b, .int .i64 s.c, .int .i64 s.d, .int .i64 s.e] 39 (0, 0)) ∧ (W0.alloc (.cells #[] 39)).heap[w.heap.size + 2]? = some (.cells #[.int .i64 0, .slice none 0 0, .slice none 0 0] 27 (0, 0)) := ⟨(heap_alloc_old _ _ (lt_of_block hS.1)).trans hS.1, (heap_alloc_old _ _ (lt_of_block hS.2.1)).trans hS.2.1, (heap_alloc_old _ _ (lt_of_block hS.2.2)).trans hS.2.2⟩
        have z1 : W0.heap.size ≤ (W0.alloc (.cells #[] 39)).heap.size := by rw [World.size_alloc]; omega
        have zz : W0.heap.size < (W0.alloc (.cells #[] 39)).heap.size := by simp
        refine hK _ _ ⟨hS, ?_⟩
        clear hK K
        generalize W0.alloc (.cells #[] 39) = W1 at *
        have hS1 := hS
        have bel1 := bel
        have z1 := z1
        have oL1 := oL
        clear hS bel z1 oL z0
        try simp only [Act.put, List.setIfInBounds_toArray, List.set_cons_zero, List.set_cons_succ]
        refine v_run2 (i := 3) (k := 5) rfl rfl (by kernel_rfl) (by kernel_rfl) (by rfl) (by rfl) (fun K hK => ?_) (fun K hK => ?_)
        · skip
          refine op_app_st (.tmp 44) (.tmp 46) rfl W0.heap.size _ 0 [] rfl o44 _ T b0 rfl oL1 i0 hi0 hz0 hz1 hz2 (by omega) z1 ?_
          intro v47 W2 o47 g47 hl47
          rw [Nat.zero_add, List.nil_append] at o47
          have hS2 : W2.heap[w.heap.size]? = some (.cells #[.int .i64 n, .slice a1 xs.length c1, .slice ao T.length cap] 27 (0, 0)) ∧ W2.heap[w.heap.size + 1]? = some (.cells #[.int .i64 s.a, .int .i64 s.b, .int .i64 s.c, .int .i64 s.d, .int .i64 s.e] 39 (0, 0)) ∧ W2.heap[w.heap.size + 2]? = some (.cells #[.int .i64 0, .slice none 0 0, .slice none 0 0] 27 (0, 0)) := ⟨(g47.block _ (lt_of_block hS1.1) (own_ne o44 (by omega))).trans hS1.1, (g47.block _ (lt_of_block hS1.2.1) (own_ne o44 (by omega))).trans hS1.2.1, (g47.block _ (lt_of_block hS1.2.2) (own_ne o44 (by omega))).trans hS1.2.2⟩
          have bel2 : Below w.heap.size w W2 := bel1.grown g47 bel1.size (fun k hk => by have := (o44.lt k hk).1; omega)
          have z2 : W0.heap.size ≤ W2.heap.size := Nat.le_trans z1 g47.size
          obtain ⟨b47, m47, c47, rfl⟩ := own_slice o47
          refine hK _ _ ⟨hS2, ?_⟩
          clear hK K
          have oL2 := o47
          try simp only [Act.put, List.setIfInBounds_toArray, List.set_cons_zero, List.set_cons_succ]
          refine v_run (i := 5) rfl (by kernel_rfl) (by kernel_rfl) (by rfl) (fun K hK => ?_)
          go_simp
          have hS := hS2
          have bel := bel2
          have z0 : W0.heap.size ≤ W2.heap.size := z2
          have oL := oL2
          have o49 : (W2.alloc (.cells #[.int .i64 s.a, .int .i64 s.b, .int .i64 s.c, .int .i64 s.d, .int .i64 s.e] 39)).ownsRow W0.heap.size 39 5 (.slice (some ⟨W2.heap.size, 0, none⟩) 1 1) ([s] : List St).length (([s] : List St).flatMap St.cs) := by simpa [St.cs] using World.ownsRow_lit (base := W0.heap.size) (size := 5) (w := W2) (e := 39) #[.int .i64 s.a, .int .i64 s.b, .int .i64 s.c, .int .i64 s.d, .int .i64 s.e] 1 z0 (by decide) rfl
          have o44 := o44.alloc (.cells #[.int .i64 s.a, .int .i64 s.b, .int .i64 s.c, .int .i64 s.d, .int .i64 s.e] 39)
          have o47 := o47.alloc (.cells #[.int .i64 s.a, .int .i64 s.b, .int .i64 s.c, .int .i64 s.d, .int .i64 s.e] 39)
          have oL := oL.alloc (.cells #[.int .i64 s.a, .int .i64 s.b, .int .i64 s.c, .int .i64 s.d, .int .i64 s.e] 39)
          have bel := bel.alloc bel.size (.cells #[.int .i64 s.a, .int .i64 s.b, .int .i64 s.c, .int .i64 s.d, .int .i64 s.e] 39)
          have hS : (W2.alloc (.cells #[.int .i64 s.a, .int .i64 s.b, .int .i64 s.c, .int .i64 s.d, .int .i64 s.e] 39)).heap[w.heap.size]? = some (.cells #[.int .i64 n, .slice a1 xs.length c1, .slice ao T.length cap] 27 (0, 0)) ∧ (W2.alloc (.cells #[.int .i64 s.a, .int .i64 s.b, .int .i64 s.c, .int .i64 s.d, .int .i64 s.e] 39)).heap[w.heap.size + 1]? = some (.cells #[.int .i64 s.a, .int .i64 s.b, .int .i64 s.c, .int .i64 s.d, .int .i64 s.e] 39 (0, 0)) ∧ (W2.alloc (.cells #[.int .i64 s.a, .int .i64 s.b, .int .i64 s.c, .int .i64 s.d, .int .i64 s.e] 39)).heap[w.heap.size + 2]? = some (.cells #[.int .i64 0, .slice none 0 0, .slice none 0 0] 27 (0, 0)) := ⟨(heap_alloc_old _ _ (lt_of_block hS.1)).trans hS.1, (heap_alloc_old _ _ (lt_of_block hS.2.1)).trans hS.2.1, (heap_alloc_old _ _ (lt_of_block hS.2.2)).trans hS.2.2⟩
          have z1 : W0.heap.size ≤ (W2.alloc (.cells #[.int .i64 s.a, .int .i64 s.b, .int .i64 s.c, .int .i64 s.d, .int .i64 s.e] 39)).heap.size := by rw [World.size_alloc]; omega
          have zz : W2.heap.size < (W2.alloc (.cells #[.int .i64 s.a, .int .i64 s.b, .int .i64 s.c, .int .i64 s.d, .int .i64 s.e] 39)).heap.size := by simp
          refine hK _ _ ⟨hS, ?_⟩
          clear hK K
          generalize W2.alloc (.cells #[.int .i64 s.a, .int .i64 s.b, .int .i64 s.c, .int .i64 s.d, .int .i64 s.e] 39) = W3 at *
          have hS3 := hS
          have bel3 := bel
          have z3 := z1
          have oL3 := oL
          clear hS bel z1 oL z0
          try simp only [Act.put, List.setIfInBounds_toArray, List.set_cons_zero, List.set_cons_succ]
          refine v_run (i := 6) rfl (by kernel_rfl) (by kernel_rfl) (by rfl) (fun K hK => ?_)
          refine op_app_st (.tmp 47) (.tmp 49) rfl W0.heap.size (.slice b47 m47 c47) T.length (T.flatMap St.cs) (by rfl) o47 (.slice (some ⟨W2.heap.size, 0, none⟩) 1 1) [s] W0.heap.size (by rfl) o49 i0 hi0 hz0 hz1 hz2 (by simp; omega) z3 ?_
          intro v50 W4 o50 g50 hl50
          have hS4 : W4.heap[w.heap.size]? = some (.cells #[.int .i64 n, .slice a1 xs.length c1, .slice ao T.length cap] 27 (0, 0)) ∧ W4.heap[w.heap.size + 1]? = some (.cells #[.int .i64 s.a, .int .i64 s.b, .int .i64 s.c, .int .i64 s.d, .int .i64 s.e] 39 (0, 0)) ∧ W4.heap[w.heap.size + 2]? = some (.cells #[.int .i64 0, .slice none 0 0, .slice none 0 0] 27 (0, 0)) := ⟨(g50.block _ (lt_of_block hS3.1) (own_ne o47 (by omega))).trans hS3.1, (g50.block _ (lt_of_block hS3.2.1) (own_ne o47 (by omega))).trans hS3.2.1, (g50.block _ (lt_of_block hS3.2.2) (own_ne o47 (by omega))).trans hS3.2.2⟩
          have bel4 : Below w.heap.size w W4 := bel3.grown g50 bel3.size (fun k hk => by have := (o47.lt k hk).1; omega)
          obtain ⟨b50, m50, c50, rfl⟩ := own_slice o50
          refine hK _ _ ⟨hS4, ?_⟩
          clear hK K
          have RS := say_fin hS4.1 o50 bel4 (by omega) bel4.size
          obtain ⟨WW, hWW⟩ : ∃ WW, WW = W4 := ⟨_, rfl⟩
          rw [← hWW] at RS hS4 ⊢
          clear hWW
          try simp only [Act.put, List.setIfInBounds_toArray, List.set_cons_zero, List.set_cons_succ]
          refine v_take (i := 7) (d := (some 51)) (v := ?_) rfl rfl (by kernel_rfl) (fun _ _ _ h => h) (by rfl) (by first | exact hS5 | exact hS4 | exact hS3 | exact hS2 | exact hS1 | exact hS0) (fun w' hb' => ?_) ?_
          rotate_left
          · (try go_simp); (try with_reducible rfl)
          try simp only [Act.put, List.setIfInBounds_toArray, List.set_cons_zero, List.set_cons_succ]
          refine v_last (i := 8) rfl (by kernel_rfl) (by kernel_rfl) (by kernel_rfl) (by rfl) (fun K hK => ?_)
          have hc := block_cell hS4.1 2
          have hf := block_frozen hS4.1 2
          simp at hc
          go_simp
          refine hK _ _ ?_
          clear hK K
          obtain ⟨r1, r2, r3⟩ := RS
          have r6 := (set_old (w := WW) (i := 2) (u := .slice b50 m50 c50) (by omega : w.heap.size + 2 ≠ w.heap.size)).trans hS4.2.2
          generalize WW.setCell ⟨w.heap.size, 2, none⟩ (.slice b50 m50 c50) = WF at *
          obtain ⟨g1, g2, g3⟩ := cells3 r1
          obtain ⟨g4, g5, g6⟩ := cells3 r6
          have g7 := block_frozen r6
          have R3 := Lib.hid r3
          clear r3
          go_wp2_with fail
          have fin := say_fin2 (n := n) (x := .slice a1 xs.length c1) R3.out r2 r6 zb
          obtain ⟨u1, u2, u3⟩ := cells3 fin.1
          exact bodyPost_ret (v := .tuple #[.agg #[.int .i64 n, .slice a1 xs.length c1, .slice b50 m50 c50], .int .i64 0]) (by simp [results, Try.results11, go_sem, u1, u2, u3]) rfl ⟨fin.2.1, _, rfl, fin.2.2⟩
        · skip
          go_simp
          have hS := hS1
          have bel := bel1
          have z0 : W0.heap.size ≤ W1.heap.size := z1
          have oL := oL1
          have o49 : (W1.alloc (.cells #[.int .i64 s.a, .int .i64 s.b, .int .i64 s.c, .int .i64 s.d, .int .i64 s.e] 39)).ownsRow W0.heap.size 39 5 (.slice (some ⟨W1.heap.size, 0, none⟩) 1 1) ([s] : List St).length (([s] : List St).flatMap St.cs) := by simpa [St.cs] using World.ownsRow_lit (base := W0.heap.size) (size := 5) (w := W1) (e := 39) #[.int .i64 s.a, .int .i64 s.b, .int .i64 s.c, .int .i64 s.d, .int .i64 s.e] 1 z0 (by decide) rfl
          have o44 := o44.alloc (.cells #[.int .i64 s.a, .int .i64 s.b, .int .i64 s.c, .int .i64 s.d, .int .i64 s.e] 39)
          have oL := oL.alloc (.cells #[.int .i64 s.a, .int .i64 s.b, .int .i64 s.c, .int .i64 s.d, .int .i64 s.e] 39)
          have bel := bel.alloc bel.size (.cells #[.int .i64 s.a, .int .i64 s.b, .int .i64 s.c, .int .i64 s.d, .int .i64 s.e] 39)
          have hS : (W1.alloc (.cells #[.int .i64 s.a, .int .i64 s.b, .int .i64 s.c, .int .i64 s.d, .int .i64 s.e] 39)).heap[w.heap.size]? = some (.cells #[.int .i64 n, .slice a1 xs.length c1, .slice ao T.length cap] 27 (0, 0)) ∧ (W1.alloc (.cells #[.int .i64 s.a, .int .i64 s.b, .int .i64 s.c, .int .i64 s.d, .int .i64 s.e] 39)).heap[w.heap.size + 1]? = some (.cells #[.int .i64 s.a, .int .i64 s.b, .int .i64 s.c, .int .i64 s.d, .int .i64 s.e] 39 (0, 0)) ∧ (W1.alloc (.cells #[.int .i64 s.a, .int .i64 s.b, .int .i64 s.c, .int .i64 s.d, .int .i64 s.e] 39)).heap[w.heap.size + 2]? = some (.cells #[.int .i64 0, .slice none 0 0, .slice none 0 0] 27 (0, 0)) := ⟨(heap_alloc_old _ _ (lt_of_block hS.1)).trans hS.1, (heap_alloc_old _ _ (lt_of_block hS.2.1)).trans hS.2.1, (heap_alloc_old _ _ (lt_of_block hS.2.2)).trans hS.2.2⟩
          have z1 : W0.heap.size ≤ (W1.alloc (.cells #[.int .i64 s.a, .int .i64 s.b, .int .i64 s.c, .int .i64 s.d, .int .i64 s.e] 39)).heap.size := by rw [World.size_alloc]; omega
          have zz : W1.heap.size < (W1.alloc (.cells #[.int .i64 s.a, .int .i64 s.b, .int .i64 s.c, .int .i64 s.d, .int .i64 s.e] 39)).heap.size := by simp
          refine hK _ _ ⟨hS, ?_⟩
          clear hK K
          generalize W1.alloc (.cells #[.int .i64 s.a, .int .i64 s.b, .int .i64 s.c, .int .i64 s.d, .int .i64 s.e] 39) = W2 at *
          have hS2 := hS
          have bel2 := bel
          have z2 := z1
          have oL2 := oL
          clear hS bel z1 oL z0
          try simp only [Act.put, List.setIfInBounds_toArray, List.set_cons_zero, List.set_cons_succ]
          refine v_run (i := 3) rfl (by kernel_rfl) (by kernel_rfl) (by rfl) (fun K hK => ?_)
          refine op_app_st (.tmp 44) (.tmp 46) rfl W0.heap.size _ 0 [] rfl o44 _ T b0 rfl oL2 i0 hi0 hz0 hz1 hz2 (by omega) z2 ?_
          intro v47 W3 o47 g47 hl47
          rw [Nat.zero_add, List.nil_append] at o47
          have hS3 : W3.heap[w.heap.size]? = some (.cells #[.int .i64 n, .slice a1 xs.length c1, .slice ao T.length cap] 27 (0, 0)) ∧ W3.heap[w.heap.size + 1]? = some (.cells #[.int .i64 s.a, .int .i64 s.b, .int .i64 s.c, .int .i64 s.d, .int .i64 s.e] 39 (0, 0)) ∧ W3.heap[w.heap.size + 2]? = some (.cells #[.int .i64 0, .slice none 0 0, .slice none 0 0] 27 (0, 0)) := ⟨(g47.block _ (lt_of_block hS2.1) (own_ne o44 (by omega))).trans hS2.1, (g47.block _ (lt_of_block hS2.2.1) (own_ne o44 (by omega))).trans hS2.2.1, (g47.block _ (lt_of_block hS2.2.2) (own_ne o44 (by omega))).trans hS2.2.2⟩
          have bel3 : Below w.heap.size w W3 := bel2.grown g47 bel2.size (fun k hk => by have := (o44.lt k hk).1; omega)
          have z3 : W0.heap.size ≤ W3.heap.size := Nat.le_trans z2 g47.size
          have o49 := o49.kept g47 (.inr (own_apart (by omega)))
          obtain ⟨b47, m47, c47, rfl⟩ := own_slice o47
          refine hK _ _ ⟨hS3, ?_⟩
          clear hK K
          have oL3 := o47
          try simp only [Act.put, List.setIfInBounds_toArray, List.set_cons_zero, List.set_cons_succ]
          refine v_run (i := 6) rfl (by kernel_rfl) (by kernel_rfl) (by rfl) (fun K hK => ?_)
          refine op_app_st (.tmp 47) (.tmp 49) rfl W0.heap.size (.slice b47 m47 c47) T.length (T.flatMap St.cs) (by rfl) o47 (.slice (some ⟨W1.heap.size, 0, none⟩) 1 1) [s] W0.heap.size (by rfl) o49 i0 hi0 hz0 hz1 hz2 (by simp; omega) z3 ?_
          intro v50 W4 o50 g50 hl50
          have hS4 : W4.heap[w.heap.size]? = some (.cells #[.int .i64 n, .slice a1 xs.length c1, .slice ao T.length cap] 27 (0, 0)) ∧ W4.heap[w.heap.size + 1]? = some (.cells #[.int .i64 s.a, .int .i64 s.b, .int .i64 s.c, .int .i64 s.d, .int .i64 s.e] 39 (0, 0)) ∧ W4.heap[w.heap.size + 2]? = some (.cells #[.int .i64 0, .slice none 0 0, .slice none 0 0] 27 (0, 0)) := ⟨(g50.block _ (lt_of_block hS3.1) (own_ne o47 (by omega))).trans hS3.1, (g50.block _ (lt_of_block hS3.2.1) (own_ne o47 (by omega))).trans hS3.2.1, (g50.block _ (lt_of_block hS3.2.2) (own_ne o47 (by omega))).trans hS3.2.2⟩
          have bel4 : Below w.heap.size w W4 := bel3.grown g50 bel3.size (fun k hk => by have := (o47.lt k hk).1; omega)
          obtain ⟨b50, m50, c50, rfl⟩ := own_slice o50
          refine hK _ _ ⟨hS4, ?_⟩
          clear hK K
          have RS := say_fin hS4.1 o50 bel4 (by omega) bel4.size
          obtain ⟨WW, hWW⟩ : ∃ WW, WW = W4 := ⟨_, rfl⟩
          rw [← hWW] at RS hS4 ⊢
          clear hWW
          try simp only [Act.put, List.setIfInBounds_toArray, List.set_cons_zero, List.set_cons_succ]
          refine v_take (i := 7) (d := (some 51)) (v := ?_) rfl rfl (by kernel_rfl) (fun _ _ _ h => h) (by rfl) (by first | exact hS5 | exact hS4 | exact hS3 | exact hS2 | exact hS1 | exact hS0) (fun w' hb' => ?_) ?_
          rotate_left
          · (try go_simp); (try with_reducible rfl)
          try simp only [Act.put, List.setIfInBounds_toArray, List.set_cons_zero, List.set_cons_succ]
          refine v_last (i := 8) rfl (by kernel_rfl) (by kernel_rfl) (by kernel_rfl) (by rfl) (fun K hK => ?_)
          have hc := block_cell hS4.1 2
          have hf := block_frozen hS4.1 2
          simp at hc
          go_simp
          refine hK _ _ ?_
          clear hK K
          obtain ⟨r1, r2, r3⟩ := RS
          have r6 := (set_old (w := WW) (i := 2) (u := .slice b50 m50 c50) (by omega : w.heap.size + 2 ≠ w.heap.size)).trans hS4.2.2
          generalize WW.setCell ⟨w.heap.size, 2, none⟩ (.slice b50 m50 c50) = WF at *
          obtain ⟨g1, g2, g3⟩ := cells3 r1
          obtain ⟨g4, g5, g6⟩ := cells3 r6
          have g7 := block_frozen r6
          have R3 := Lib.hid r3
          clear r3
          go_wp2_with fail
          have fin := say_fin2 (n := n) (x := .slice a1 xs.length c1) R3.out r2 r6 zb
          obtain ⟨u1, u2, u3⟩ := cells3 fin.1
          exact bodyPost_ret (v := .tuple #[.agg #[.int .i64 n, .slice a1 xs.length c1, .slice b50 m50 c50], .int .i64 0]) (by simp [results, Try.results11, go_sem, u1, u2, u3]) rfl ⟨fin.2.1, _, rfl, fin.2.2⟩
      · skip
        go_simp
        have hS := hS0
        have bel := bel0
        have z0 : W0.heap.size ≤ W0.heap.size := z0
        have oL := oL0
        have o49 : (W0.alloc (.cells #[.int .i64 s.a, .int .i64 s.b, .int .i64 s.c, .int .i64 s.d, .int .i64 s.e] 39)).ownsRow W0.heap.size 39 5 (.slice (some ⟨W0.heap.size, 0, none⟩) 1 1) ([s] : List St).length (([s] : List St).flatMap St.cs) := by simpa [St.cs] using World.ownsRow_lit (base := W0.heap.size) (size := 5) (w := W0) (e := 39) #[.int .i64 s.a, .int .i64 s.b, .int .i64 s.c, .int .i64 s.d, .int .i64 s.e] 1 z0 (by decide) rfl
        have oL := oL.alloc (.cells #[.int .i64 s.a, .int .i64 s.b, .int .i64 s.c, .int .i64 s.d, .int .i64 s.e] 39)
        have bel := bel.alloc bel.size (.cells #[.int .i64 s.a, .int .i64 s.b, .int .i64 s.c, .int .i64 s.d, .int .i64 s.e] 39)
        have hS : (W0.alloc (.cells #[.int .i64 s.a, .int .i64 s.b, .int .i64 s.c, .int .i64 s.d, .int .i64 s.e] 39)).heap[w.heap.size]? = some (.cells #[.int .i64 n, .slice a1 xs.length c1, .slice ao T.length cap] 27 (0, 0)) ∧ (W0.alloc (.cells #[.int .i64 s.a, .int .i64 s.b, .int .i64 s.c, .int .i64 s.d, .int .i64 s.e] 39)).heap[w.heap.size + 1]? = some (.cells #[.int .i64 s.a, .int .i64 s.b, .int .i64 s.c, .int .i64 s.d, .int .i64 s.e] 39 (0, 0)) ∧ (W0.alloc (.cells #[.int .i64 s.a, .int .i64 s.b, .int .i64 s.c, .int .i64 s.d, .int .i64 s.e] 39)).heap[w.heap.size + 2]? = some (.cells #[.int .i64 0, .slice none 0 0, .slice none 0 0] 27 (0, 0)) := ⟨(heap_alloc_old _ _ (lt_of_block hS.1)).trans hS.1, (heap_alloc_old _ _ (lt_of_block hS.2.1)).trans hS.2.1, (heap_alloc_old _ _ (lt_of_block hS.2.2)).trans hS.2.2⟩
        have z1 : W0.heap.size ≤ (W0.alloc (.cells #[.int .i64 s.a, .int .i64 s.b, .int .i64 s.c, .int .i64 s.d, .int .i64 s.e] 39)).heap.size := by rw [World.size_alloc]; omega
        have zz : W0.heap.size < (W0.alloc (.cells #[.int .i64 s.a, .int .i64 s.b, .int .i64 s.c, .int .i64 s.d, .int .i64 s.e] 39)).heap.size := by simp
        refine hK _ _ ⟨hS, ?_⟩
        clear hK K
        generalize W0.alloc (.cells #[.int .i64 s.a, .int .i64 s.b, .int .i64 s.c, .int .i64 s.d, .int .i64 s.e] 39) = W1 at *
        have hS1 := hS
        have bel1 := bel
        have z1 := z1
        have oL1 := oL
        clear hS bel z1 oL z0
        try simp only [Act.put, List.setIfInBounds_toArray, List.set_cons_zero, List.set_cons_succ]
        refine v_run (i := 0) rfl (by kernel_rfl) (by kernel_rfl) (by rfl) (fun K hK => ?_)
        go_simp
        have hS := hS1
        have bel := bel1
        have z0 : W0.heap.size ≤ W1.heap.size := z1
        have oL := oL1
        have o44 : (W1.alloc (.cells #[] 39)).ownsRow W0.heap.size 39 5 (.slice (some ⟨W1.heap.size, 0, none⟩) 0 0) 0 [] := World.ownsRow_lit _ #[] 0 z0 (by decide) rfl
        have o49 := o49.alloc (.cells #[] 39)
        have oL := oL.alloc (.cells #[] 39)
        have bel := bel.alloc bel.size (.cells #[] 39)
        have hS : (W1.alloc (.cells #[] 39)).heap[w.heap.size]? = some (.cells #[.int .i64 n, .slice a1 xs.length c1, .slice ao T.length cap] 27 (0, 0)) ∧ (W1.alloc (.cells #[] 39)).heap[w.heap.size + 1]? = some (.cells #[.int .i64 s.a, .int .i64 s.b, .int .i64 s.c, .int .i64 s.d, .int .i64 s.e] 39 (0, 0)) ∧ (W1.alloc (.cells #[] 39)).heap[w.heap.size + 2]? = some (.cells #[.int .i64 0, .slice none 0 0, .slice none 0 0] 27 (0, 0)) := ⟨(heap_alloc_old _ _ (lt_of_block hS.1)).trans hS.1, (heap_alloc_old _ _ (lt_of_block hS.2.1)).trans hS.2.1, (heap_alloc_old _ _ (lt_of_block hS.2.2)).trans hS.2.2⟩
        have z1 : W0.heap.size ≤ (W1.alloc (.cells #[] 39)).heap.size := by rw [World.size_alloc]; omega
        have zz : W1.heap.size < (W1.alloc (.cells #[] 39)).heap.size := by simp
        refine hK _ _ ⟨hS, ?_⟩
        clear hK K
        generalize W1.alloc (.cells #[] 39) = W2 at *
        have hS2 := hS
        have bel2 := bel
        have z2 := z1
        have oL2 := oL
        clear hS bel z1 oL z0
        try simp only [Act.put, List.setIfInBounds_toArray, List.set_cons_zero, List.set_cons_succ]
        refine v_run (i := 3) rfl (by kernel_rfl) (by kernel_rfl) (by rfl) (fun K hK => ?_)
        refine op_app_st (.tmp 44) (.tmp 46) rfl W0.heap.size _ 0 [] rfl o44 _ T b0 rfl oL2 i0 hi0 hz0 hz1 hz2 (by omega) z2 ?_
        intro v47 W3 o47 g47 hl47
        rw [Nat.zero_add, List.nil_append] at o47
        have hS3 : W3.heap[w.heap.size]? = some (.cells #[.int .i64 n, .slice a1 xs.length c1, .slice ao T.length cap] 27 (0, 0)) ∧ W3.heap[w.heap.size + 1]? = some (.cells #[.int .i64 s.a, .int .i64 s.b, .int .i64 s.c, .int .i64 s.d, .int .i64 s.e] 39 (0, 0)) ∧ W3.heap[w.heap.size + 2]? = some (.cells #[.int .i64 0, .slice none 0 0, .slice none 0 0] 27 (0, 0)) := ⟨(g47.block _ (lt_of_block hS2.1) (own_ne o44 (by omega))).trans hS2.1, (g47.block _ (lt_of_block hS2.2.1) (own_ne o44 (by omega))).trans hS2.2.1, (g47.block _ (lt_of_block hS2.2.2) (own_ne o44 (by omega))).trans hS2.2.2⟩
        have bel3 : Below w.heap.size w W3 := bel2.grown g47 bel2.size (fun k hk => by have := (o44.lt k hk).1; omega)
        have z3 : W0.heap.size ≤ W3.heap.size := Nat.le_trans z2 g47.size
        have o49 := o49.kept g47 (.inr (own_apart (by omega)))
        obtain ⟨b47, m47, c47, rfl⟩ := own_slice o47
        refine hK _ _ ⟨hS3, ?_⟩
        clear hK K
        have oL3 := o47
        try simp only [Act.put, List.setIfInBounds_toArray, List.set_cons_zero, List.set_cons_succ]
        refine v_run (i := 6) rfl (by kernel_rfl) (by kernel_rfl) (by rfl) (fun K hK => ?_)
        refine op_app_st (.tmp 47) (.tmp 49) rfl W0.heap.size (.slice b47 m47 c47) T.length (T.flatMap St.cs) (by rfl) o47 (.slice (some ⟨W0.heap.size, 0, none⟩) 1 1) [s] W0.heap.size (by rfl) o49 i0 hi0 hz0 hz1 hz2 (by simp; omega) z3 ?_
        intro v50 W4 o50 g50 hl50
        have hS4 : W4.heap[w.heap.size]? = some (.cells #[.int .i64 n, .slice a1 xs.length c1, .slice ao T.length cap] 27 (0, 0)) ∧ W4.heap[w.heap.size + 1]? = some (.cells #[.int .i64 s.a, .int .i64 s.b, .int .i64 s.c, .int .i64 s.d, .int .i64 s.e] 39 (0, 0)) ∧ W4.heap[w.heap.size + 2]? = some (.cells #[.int .i64 0, .slice none 0 0, .slice none 0 0] 27 (0, 0)) := ⟨(g50.block _ (lt_of_block hS3.1) (own_ne o47 (by omega))).trans hS3.1, (g50.block _ (lt_of_block hS3.2.1) (own_ne o47 (by omega))).trans hS3.2.1, (g50.block _ (lt_of_block hS3.2.2) (own_ne o47 (by omega))).trans hS3.2.2⟩
        have bel4 : Below w.heap.size w W4 := bel3.grown g50 bel3.size (fun k hk => by have := (o47.lt k hk).1; omega)
        obtain ⟨b50, m50, c50, rfl⟩ := own_slice o50
        refine hK _ _ ⟨hS4, ?_⟩
        clear hK K
        have RS := say_fin hS4.1 o50 bel4 (by omega) bel4.size
        obtain ⟨WW, hWW⟩ : ∃ WW, WW = W4 := ⟨_, rfl⟩
        rw [← hWW] at RS hS4 ⊢
        clear hWW
        try simp only [Act.put, List.setIfInBounds_toArray, List.set_cons_zero, List.set_cons_succ]
        refine v_take (i := 7) (d := (some 51)) (v := ?_) rfl rfl (by kernel_rfl) (fun _ _ _ h => h) (by rfl) (by first | exact hS5 | exact hS4 | exact hS3 | exact hS2 | exact hS1 | exact hS0) (fun w' hb' => ?_) ?_
        rotate_left
        · (try go_simp); (try with_reducible rfl)
        try simp only [Act.put, List.setIfInBounds_toArray, List.set_cons_zero, List.set_cons_succ]
        refine v_last (i := 8) rfl (by kernel_rfl) (by kernel_rfl) (by kernel_rfl) (by rfl) (fun K hK => ?_)
        have hc := block_cell hS4.1 2
        have hf := block_frozen hS4.1 2
        simp at hc
        go_simp
        refine hK _ _ ?_
        clear hK K
        obtain ⟨r1, r2, r3⟩ := RS
        have r6 := (set_old (w := WW) (i := 2) (u := .slice b50 m50 c50) (by omega : w.heap.size + 2 ≠ w.heap.size)).trans hS4.2.2
        generalize WW.setCell ⟨w.heap.size, 2, none⟩ (.slice b50 m50 c50) = WF at *
        obtain ⟨g1, g2, g3⟩ := cells3 r1
        obtain ⟨g4, g5, g6⟩ := cells3 r6
        have g7 := block_frozen r6
        have R3 := Lib.hid r3
        clear r3
        go_wp2_with fail
        have fin := say_fin2 (n := n) (x := .slice a1 xs.length c1) R3.out r2 r6 zb
        obtain ⟨u1, u2, u3⟩ := cells3 fin.1
        exact bodyPost_ret (v := .tuple #[.agg #[.int .i64 n, .slice a1 xs.length c1, .slice b50 m50 c50], .int .i64 0]) (by simp [results, Try.results11, go_sem, u1, u2, u3]) rfl ⟨fin.2.1, _, rfl, fin.2.2⟩
    · have e1 := int_nen h5
      have e2 := int_neb h5
      have B1 := HB.out sp Wb bel
      rw [show decide (sp ∈ xs) = true from by simpa using h3] at B1
      have B2 := fun w1 g => HB.out s.a w1 g
      rw [show decide (s.a ∈ xs) = true from by simpa using h4] at B2
      have B2 := Lib.hid B2
      clear h3 h4 h5
      go_enter Try.func11, Try.ntmps11
      go_wp2_with fail
      rw [← hW]
      refine B1.mono ?_
      rintro e w1 ⟨rfl, g1⟩
      have bel := chain bel g1
      have f3 := cells3 (HC.out _ bel).1
      have f5 := cells5 (HC.out _ bel).2.1
      clear g1
      go_wp2_with fail
      refine (B2.out _ bel).mono ?_
      rintro e w1 ⟨rfl, g1⟩
      have bel := chain bel g1
      have f3 := cells3 (HC.out _ bel).1
      have f5 := cells5 (HC.out _ bel).2.1
      clear g1
      go_wp2_with fail
      have hh := HH.out _ bel
      rw [HM.out] at hh
      refine hh.mono ?_
      rintro e w2 ⟨rfl, g2⟩
      have bel := chain bel g2
      have q := HC.out _ bel
      have f3 := cells3 q.1
      have f5 := cells5 q.2.1
      have e6 : decide ((65536 : Int) ≤ (T.length : Int)) = false := decide_eq_false (by omega)
      clear g2 hh
      go_wp2_with fail
      have hS0 : w2.drew.heap[w.heap.size]? = some (.cells #[.int .i64 n, .slice a1 xs.length c1, .slice ao T.length cap] 27 (0, 0)) ∧ w2.drew.heap[w.heap.size + 1]? = some (.cells #[.int .i64 s.a, .int .i64 s.b, .int .i64 s.c, .int .i64 s.d, .int .i64 s.e] 39 (0, 0)) ∧ w2.drew.heap[w.heap.size + 2]? = some (.cells #[.int .i64 0, .slice none 0 0, .slice none 0 0] 27 (0, 0)) := q
      have bel0 : Below w.heap.size w w2.drew := (chain Be bel).drew
      have z0 : w2.drew.heap.size ≤ w2.drew.heap.size := Nat.le_refl _
      have zb : w.heap.size + 2 < w2.drew.heap.size := lt_of_block q.2.2
      have oL0 := HL.out _ bel0
      clear f3 f5 q bel q3 q5 q6 hW HB HH HC HL Be lW
      refine v_start 8 (fun w' => w'.heap[w.heap.size]? = some (.cells #[.int .i64 n, .slice a1 xs.length c1, .slice ao T.length cap] 27 (0, 0)) ∧ w'.heap[w.heap.size + 1]? = some (.cells #[.int .i64 s.a, .int .i64 s.b, .int .i64 s.c, .int .i64 s.d, .int .i64 s.e] 39 (0, 0)) ∧ w'.heap[w.heap.size + 2]? = some (.cells #[.int .i64 0, .slice none 0 0, .slice none 0 0] 27 (0, 0))) (by kernel_rfl) ?_
      generalize w2.drew = W0 at *
      refine v_take (i := 1) (d := (some 45)) (v := ?_) rfl rfl (by kernel_rfl) (fun _ _ _ h => h) (by rfl) (by first | exact hS5 | exact hS4 | exact hS3 | exact hS2 | exact hS1 | exact hS0) (fun w' hb' => ?_) ?_
      rotate_left
      · (try go_simp); (try with_reducible rfl)
      try simp only [Act.put, List.setIfInBounds_toArray, List.set_cons_zero, List.set_cons_succ]
      refine v_take (i := 2) (d := (some 46)) (v := ?_) rfl rfl (by kernel_rfl) (fun _ _ _ h => h) (by rfl) (by first | exact hS5 | exact hS4 | exact hS3 | exact hS2 | exact hS1 | exact hS0) (fun w' hb' => ?_) ?_
      rotate_left
      · have hc := (cells3 hb'.1).2.2; (try go_simp); (try with_reducible rfl)
      try simp only [Act.put, List.setIfInBounds_toArray, List.set_cons_zero, List.set_cons_succ]
      refine v_take (i := 4) (d := (some 48)) (v := ?_) rfl rfl (by kernel_rfl) (fun _ _ _ h => h) (by rfl) (by first | exact hS5 | exact hS4 | exact hS3 | exact hS2 | exact hS1 | exact hS0) (fun w' hb' => ?_) ?_
      rotate_left
      · have hc := cells5 hb'.2.1; (try go_simp); (try with_reducible rfl)
      try simp only [Act.put, List.setIfInBounds_toArray, List.set_cons_zero, List.set_cons_succ]
      refine v_run2 (i := 0) (k := 5) rfl rfl (by kernel_rfl) (by kernel_rfl) (by rfl) (by rfl) (fun K hK => ?_) (fun K hK => ?_)
      · skip
        go_simp
        have hS := hS0
        have bel := bel0
        have z0 : W0.heap.size ≤ W0.heap.size := z0
        have oL := oL0
        have o44 : (W0.alloc (.cells #[] 39)).ownsRow W0.heap.size 39 5 (.slice (some ⟨W0.heap.size, 0, none⟩) 0 0) 0 [] := World.ownsRow_lit _ #[] 0 z0 (by decide) rfl
        have oL := oL.alloc (.cells #[] 39)
        have bel := bel.alloc bel.size (.cells #[] 39)
        have hS : (W0.alloc (.cells #[] 39)).heap[w.heap.size]? = some (.cells #[.int .i64 n, .slice a1 xs.length c1, .slice ao T.length cap] 27 (0, 0)) ∧ (W0.alloc (.cells #[] 39)).heap[w.heap.size + 1]? = some (.cells #[.int .i64 s.a, .int .i64 s.b, .int .i64 s.c, .int .i64 s.d, .int .i64 s.e] 39 (0, 0)) ∧ (W0.alloc (.cells #[] 39)).heap[w.heap.size + 2]? = some (.cells #[.int .i64 0, .slice none 0 0, .slice none 0 0] 27 (0, 0)) := ⟨(heap_alloc_old _ _ (lt_of_block hS.1)).trans hS.1, (heap_alloc_old _ _ (lt_of_block hS.2.1)).trans hS.2.1, (heap_alloc_old _ _ (lt_of_block hS.2.2)).trans hS.2.2⟩
        have z1 : W0.heap.size ≤ (W0.alloc (.cells #[] 39)).heap.size := by rw [World.size_alloc]; omega
        have zz : W0.heap.size < (W0.alloc (.cells #[] 39)).heap.size := by simp
        refine hK _ _ ⟨hS, ?_⟩
        clear hK K
        generalize W0.alloc (.cells #[] 39) = W1 at *
        have hS1 := hS
        have bel1 := bel
        have z1 := z1
        have oL1 := oL
        clear hS bel z1 oL z0
        try simp only [Act.put, List.setIfInBounds_toArray, List.set_cons_zero, List.set_cons_succ]
        refine v_run2 (i := 3) (k := 5) rfl rfl (by kernel_rfl) (by kernel_rfl) (by rfl) (by rfl) (fun K hK => ?_) (fun K hK => ?_)
        · skip
          refine op_app_st (.tmp 44) (.tmp 46) rfl W0.heap.size _ 0 [] rfl o44 _ T b0 rfl oL1 i0 hi0 hz0 hz1 hz2 (by omega) z1 ?_
          intro v47 W2 o47 g47 hl47
          rw [Nat.zero_add, List.nil_append] at o47
          have hS2 : W2.heap[w.heap.size]? = some (.cells #[.int .i64 n, .slice a1 xs.length c1, .slice ao T.length cap] 27 (0, 0)) ∧ W2.heap[w.heap.size + 1]? = some (.cells #[.int .i64 s.a, .int .i64 s.b, .int .i64 s.c, .int .i64 s.d, .int .i64 s.e] 39 (0, 0)) ∧ W2.heap[w.heap.size + 2]? = some (.cells #[.int .i64 0, .slice none 0 0, .slice none 0 0] 27 (0, 0)) := ⟨(g47.block _ (lt_of_block hS1.1) (own_ne o44 (by omega))).trans hS1.1, (g47.block _ (lt_of_block hS1.2.1) (own_ne o44 (by omega))).trans hS1.2.1, (g47.block _ (lt_of_block hS1.2.2) (own_ne o44 (by omega))).trans hS1.2.2⟩
          have bel2 : Below w.heap.size w W2 := bel1.grown g47 bel1.size (fun k hk => by have := (o44.lt k hk).1; omega)
          have z2 : W0.heap.size ≤ W2.heap.size := Nat.le_trans z1 g47.size
          obtain ⟨b47, m47, c47, rfl⟩ := own_slice o47
          refine hK _ _ ⟨hS2, ?_⟩
          clear hK K
          have oL2 := o47
          try simp only [Act.put, List.setIfInBounds_toArray, List.set_cons_zero, List.set_cons_succ]
          refine v_run (i := 5) rfl (by kernel_rfl) (by kernel_rfl) (by rfl) (fun K hK => ?_)
          go_simp
          have hS := hS2
          have bel := bel2
          have z0 : W0.heap.size ≤ W2.heap.size := z2
          have oL := oL2
          have o49 : (W2.alloc (.cells #[.int .i64 s.a, .int .i64 s.b, .int .i64 s.c, .int .i64 s.d, .int .i64 s.e] 39)).ownsRow W0.heap.size 39 5 (.slice (some ⟨W2.heap.size, 0, none⟩) 1 1) ([s] : List St).length (([s] : List St).flatMap St.cs) := by simpa [St.cs] using World.ownsRow_lit (base := W0.heap.size) (size := 5) (w := W2) (e := 39) #[.int .i64 s.a, .int .i64 s.b, .int .i64 s.c, .int .i64 s.d, .int .i64 s.e] 1 z0 (by decide) rfl
          have o44 := o44.alloc (.cells #[.int .i64 s.a, .int .i64 s.b, .int .i64 s.c, .int .i64 s.d, .int .i64 s.e] 39)
          have o47 := o47.alloc (.cells #[.int .i64 s.a, .int .i64 s.b, .int .i64 s.c, .int .i64 s.d, .int .i64 s.e] 39)
          have oL := oL.alloc (.cells #[.int .i64 s.a, .int .i64 s.b, .int .i64 s.c, .int .i64 s.d, .int .i64 s.e] 39)
          have bel := bel.alloc bel.size (.cells #[.int .i64 s.a, .int .i64 s.b, .int .i64 s.c, .int .i64 s.d, .int .i64 s.e] 39)
          have hS : (W2.alloc (.cells #[.int .i64 s.a, .int .i64 s.b, .int .i64 s.c, .int .i64 s.d, .int .i64 s.e] 39)).heap[w.heap.size]? = some (.cells #[.int .i64 n, .slice a1 xs.length c1, .slice ao T.length cap] 27 (0, 0)) ∧ (W2.alloc (.cells #[.int .i64 s.a, .int .i64 s.b, .int .i64 s.c, .int .i64 s.d, .int .i64 s.e] 39)).heap[w.heap.size + 1]? = some (.cells #[.int .i64 s.a, .int .i64 s.b, .int .i64 s.c, .int .i64 s.d, .int .i64 s.e] 39 (0, 0)) ∧ (W2.alloc (.cells #[.int .i64 s.a, .int .i64 s.b, .int .i64 s.c, .int .i64 s.d, .int .i64 s.e] 39)).heap[w.heap.size + 2]? = some (.cells #[.int .i64 0, .slice none 0 0, .slice none 0 0] 27 (0, 0)) := ⟨(heap_alloc_old _ _ (lt_of_block hS.1)).trans hS.1, (heap_alloc_old _ _ (lt_of_block hS.2.1)).trans hS.2.1, (heap_alloc_old _ _ (lt_of_block hS.2.2)).trans hS.2.2⟩
          have z1 : W0.heap.size ≤ (W2.alloc (.cells #[.int .i64 s.a, .int .i64 s.b, .int .i64 s.c, .int .i64 s.d, .int .i64 s.e] 39)).heap.size := by rw [World.size_alloc]; omega
          have zz : W2.heap.size < (W2.alloc (.cells #[.int .i64 s.a, .int .i64 s.b, .int .i64 s.c, .int .i64 s.d, .int .i64 s.e] 39)).heap.size := by simp
          refine hK _ _ ⟨hS, ?_⟩
          clear hK K
          generalize W2.alloc (.cells #[.int .i64 s.a, .int .i64 s.b, .int .i64 s.c, .int .i64 s.d, .int .i64 s.e] 39) = W3 at *
          have hS3 := hS
          have bel3 := bel
          have z3 := z1
          have oL3 := oL
          clear hS bel z1 oL z0
          try simp only [Act.put, List.setIfInBounds_toArray, List.set_cons_zero, List.set_cons_succ]
          refine v_run (i := 6) rfl (by kernel_rfl) (by kernel_rfl) (by rfl) (fun K hK => ?_)
          refine op_app_st (.tmp 47) (.tmp 49) rfl W0.heap.size (.slice b47 m47 c47) T.length (T.flatMap St.cs) (by rfl) o47 (.slice (some ⟨W2.heap.size, 0, none⟩) 1 1) [s] W0.heap.size (by rfl) o49 i0 hi0 hz0 hz1 hz2 (by simp; omega) z3 ?_
          intro v50 W4 o50 g50 hl50
          have hS4 : W4.heap[w.heap.size]? = some (.cells #[.int .i64 n, .slice a1 xs.length c1, .slice ao T.length cap] 27 (0, 0)) ∧ W4.heap[w.heap.size + 1]? = some (.cells #[.int .i64 s.a, .int .i64 s.b, .int .i64 s.c, .int .i64 s.d, .int .i64 s.e] 39 (0, 0)) ∧ W4.heap[w.heap.size + 2]? = some (.cells #[.int .i64 0, .slice none 0 0, .slice none 0 0] 27 (0, 0)) := ⟨(g50.block _ (lt_of_block hS3.1) (own_ne o47 (by omega))).trans hS3.1, (g50.block _ (lt_of_block hS3.2.1) (own_ne o47 (by omega))).trans hS3.2.1, (g50.block _ (lt_of_block hS3.2.2) (own_ne o47 (by omega))).trans hS3.2.2⟩
          have bel4 : Below w.heap.size w W4 := bel3.grown g50 bel3.size (fun k hk => by have := (o47.lt k hk).1; omega)
          obtain ⟨b50, m50, c50, rfl⟩ := own_slice o50
          refine hK _ _ ⟨hS4, ?_⟩
          clear hK K
          have RS := say_fin hS4.1 o50 bel4 (by omega) bel4.size
          obtain ⟨WW, hWW⟩ : ∃ WW, WW = W4 := ⟨_, rfl⟩
          rw [← hWW] at RS hS4 ⊢
          clear hWW
          try simp only [Act.put, List.setIfInBounds_toArray, List.set_cons_zero, List.set_cons_succ]
          refine v_take (i := 7) (d := (some 51)) (v := ?_) rfl rfl (by kernel_rfl) (fun _ _ _ h => h) (by rfl) (by first | exact hS5 | exact hS4 | exact hS3 | exact hS2 | exact hS1 | exact hS0) (fun w' hb' => ?_) ?_
          rotate_left
          · (try go_simp); (try with_reducible rfl)
          try simp only [Act.put, List.setIfInBounds_toArray, List.set_cons_zero, List.set_cons_succ]
          refine v_last (i := 8) rfl (by kernel_rfl) (by kernel_rfl) (by kernel_rfl) (by rfl) (fun K hK => ?_)
          have hc := block_cell hS4.1 2
          have hf := block_frozen hS4.1 2
          simp at hc
          go_simp
          refine hK _ _ ?_
          clear hK K
          obtain ⟨r1, r2, r3⟩ := RS
          have r6 := (set_old (w := WW) (i := 2) (u := .slice b50 m50 c50) (by omega : w.heap.size + 2 ≠ w.heap.size)).trans hS4.2.2
          generalize WW.setCell ⟨w.heap.size, 2, none⟩ (.slice b50 m50 c50) = WF at *
          obtain ⟨g1, g2, g3⟩ := cells3 r1
          obtain ⟨g4, g5, g6⟩ := cells3 r6
          have g7 := block_frozen r6
          have R3 := Lib.hid r3
          clear r3
          go_wp2_with fail
          have fin := say_fin2 (n := n) (x := .slice a1 xs.length c1) R3.out r2 r6 zb
          obtain ⟨u1, u2, u3⟩ := cells3 fin.1
          exact bodyPost_ret (v := .tuple #[.agg #[.int .i64 n, .slice a1 xs.length c1, .slice b50 m50 c50], .int .i64 0]) (by simp [results, Try.results11, go_sem, u1, u2, u3]) rfl ⟨fin.2.1, _, rfl, fin.2.2⟩
        · skip
          go_simp
          have hS := hS1
          have bel := bel1
          have z0 : W0.heap.size ≤ W1.heap.size := z1
          have oL := oL1
          have o49 : (W1.alloc (.cells #[.int .i64 s.a, .int .i64 s.b, .int .i64 s.c, .int .i64 s.d, .int .i64 s.e] 39)).ownsRow W0.heap.size 39 5 (.slice (some ⟨W1.heap.size, 0, none⟩) 1 1) ([s] : List St).length (([s] : List St).flatMap St.cs) := by simpa [St.cs] using World.ownsRow_lit (base := W0.heap.size) (size := 5) (w := W1) (e := 39) #[.int .i64 s.a, .int .i64 s.b, .int .i64 s.c, .int .i64 s.d, .int .i64 s.e] 1 z0 (by decide) rfl
          have o44 := o44.alloc (.cells #[.int .i64 s.a, .int .i64 s.b, .int .i64 s.c, .int .i64 s.d, .int .i64 s.e] 39)
          have oL := oL.alloc (.cells #[.int .i64 s.a, .int .i64 s.b, .int .i64 s.c, .int .i64 s.d, .int .i64 s.e] 39)
          have bel := bel.alloc bel.size (.cells #[.int .i64 s.a, .int .i64 s.b, .int .i64 s.c, .int .i64 s.d, .int .i64 s.e] 39)
          have hS : (W1.alloc (.cells #[.int .i64 s.a, .int .i64 s.b, .int .i64 s.c, .int .i64 s.d, .int .i64 s.e] 39)).heap[w.heap.size]? = some (.cells #[.int .i64 n, .slice a1 xs.length c1, .slice ao T.length cap] 27 (0, 0)) ∧ (W1.alloc (.cells #[.int .i64 s.a, .int .i64 s.b, .int .i64 s.c, .int .i64 s.d, .int .i64 s.e] 39)).heap[w.heap.size + 1]? = some (.cells #[.int .i64 s.a, .int .i64 s.b, .int .i64 s.c, .int .i64 s.d, .int .i64 s.e] 39 (0, 0)) ∧ (W1.alloc (.cells #[.int .i64 s.a, .int .i64 s.b, .int .i64 s.c, .int .i64 s.d, .int .i64 s.e] 39)).heap[w.heap.size + 2]? = some (.cells #[.int .i64 0, .slice none 0 0, .slice none 0 0] 27 (0, 0)) := ⟨(heap_alloc_old _ _ (lt_of_block hS.1)).trans hS.1, (heap_alloc_old _ _ (lt_of_block hS.2.1)).trans hS.2.1, (heap_alloc_old _ _ (lt_of_block hS.2.2)).trans hS.2.2⟩
          have z1 : W0.heap.size ≤ (W1.alloc (.cells #[.int .i64 s.a, .int .i64 s.b, .int .i64 s.c, .int .i64 s.d, .int .i64 s.e] 39)).heap.size := by rw [World.size_alloc]; omega
          have zz : W1.heap.size < (W1.alloc (.cells #[.int .i64 s.a, .int .i64 s.b, .int .i64 s.c, .int .i64 s.d, .int .i64 s.e] 39)).heap.size := by simp
          refine hK _ _ ⟨hS, ?_⟩
          clear hK K
          generalize W1.alloc (.cells #[.int .i64 s.a, .int .i64 s.b, .int .i64 s.c, .int .i64 s.d, .int .i64 s.e] 39) = W2 at *
          have hS2 := hS
          have bel2 := bel
          have z2 := z1
          have oL2 := oL
          clear hS bel z1 oL z0
          try simp only [Act.put, List.setIfInBounds_toArray, List.set_cons_zero, List.set_cons_succ]
          refine v_run (i := 3) rfl (by kernel_rfl) (by kernel_rfl) (by rfl) (fun K hK => ?_)
          refine op_app_st (.tmp 44) (.tmp 46) rfl W0.heap.size _ 0 [] rfl o44 _ T b0 rfl oL2 i0 hi0 hz0 hz1 hz2 (by omega) z2 ?_
          intro v47 W3 o47 g47 hl47
          rw [Nat.zero_add, List.nil_append] at o47
          have hS3 : W3.heap[w.heap.size]? = some (.cells #[.int .i64 n, .slice a1 xs.length c1, .slice ao T.length cap] 27 (0, 0)) ∧ W3.heap[w.heap.size + 1]? = some (.cells #[.int .i64 s.a, .int .i64 s.b, .int .i64 s.c, .int .i64 s.d, .int .i64 s.e] 39 (0, 0)) ∧ W3.heap[w.heap.size + 2]? = some (.cells #[.int .i64 0, .slice none 0 0, .slice none 0 0] 27 (0, 0)) := ⟨(g47.block _ (lt_of_block hS2.1) (own_ne o44 (by omega))).trans hS2.1, (g47.block _ (lt_of_block hS2.2.1) (own_ne o44 (by omega))).trans hS2.2.1, (g47.block _ (lt_of_block hS2.2.2) (own_ne o44 (by omega))).trans hS2.2.2⟩
          have bel3 : Below w.heap.size w W3 := bel2.grown g47 bel2.size (fun k hk => by have := (o44.lt k hk).1; omega)
          have z3 : W0.heap.size ≤ W3.heap.size := Nat.le_trans z2 g47.size
          have o49 := o49.kept g47 (.inr (own_apart (by omega)))
          obtain ⟨b47, m47, c47, rfl⟩ := own_slice o47
          refine hK _ _ ⟨hS3, ?_⟩
          clear hK K
          have oL3 := o47
          try simp only [Act.put, List.setIfInBounds_toArray, List.set_cons_zero, List.set_cons_succ]
          refine v_run (i := 6) rfl (by kernel_rfl) (by kernel_rfl) (by rfl) (fun K hK => ?_)
          refine op_app_st (.tmp 47) (.tmp 49) rfl W0.heap.size (.slice b47 m47 c47) T.length (T.flatMap St.cs) (by rfl) o47 (.slice (some ⟨W1.heap.size, 0, none⟩) 1 1) [s] W0.heap.size (by rfl) o49 i0 hi0 hz0 hz1 hz2 (by simp; omega) z3 ?_
          intro v50 W4 o50 g50 hl50
          have hS4 : W4.heap[w.heap.size]? = some (.cells #[.int .i64 n, .slice a1 xs.length c1, .slice ao T.length cap] 27 (0, 0)) ∧ W4.heap[w.heap.size + 1]? = some (.cells #[.int .i64 s.a, .int .i64 s.b, .int .i64 s.c, .int .i64 s.d, .int .i64 s.e] 39 (0, 0)) ∧ W4.heap[w.heap.size + 2]? = some (.cells #[.int .i64 0, .slice none 0 0, .slice none 0 0] 27 (0, 0)) := ⟨(g50.block _ (lt_of_block hS3.1) (own_ne o47 (by omega))).trans hS3.1, (g50.block _ (lt_of_block hS3.2.1) (own_ne o47 (by omega))).trans hS3.2.1, (g50.block _ (lt_of_block hS3.2.2) (own_ne o47 (by omega))).trans hS3.2.2⟩
          have bel4 : Below w.heap.size w W4 := bel3.grown g50 bel3.size (fun k hk => by have := (o47.lt k hk).1; omega)
          obtain ⟨b50, m50, c50, rfl⟩ := own_slice o50
          refine hK _ _ ⟨hS4, ?_⟩
          clear hK K
          have RS := say_fin hS4.1 o50 bel4 (by omega) bel4.size
          obtain ⟨WW, hWW⟩ : ∃ WW, WW = W4 := ⟨_, rfl⟩
          rw [← hWW] at RS hS4 ⊢
          clear hWW
          try simp only [Act.put, List.setIfInBounds_toArray, List.set_cons_zero, List.set_cons_succ]
          refine v_take (i := 7) (d := (some 51)) (v := ?_) rfl rfl (by kernel_rfl) (fun _ _ _ h => h) (by rfl) (by first | exact hS5 | exact hS4 | exact hS3 | exact hS2 | exact hS1 | exact hS0) (fun w' hb' => ?_) ?_
          rotate_left
          · (try go_simp); (try with_reducible rfl)
          try simp only [Act.put, List.setIfInBounds_toArray, List.set_cons_zero, List.set_cons_succ]
          refine v_last (i := 8) rfl (by kernel_rfl) (by kernel_rfl) (by kernel_rfl) (by rfl) (fun K hK => ?_)
          have hc := block_cell hS4.1 2
          have hf := block_frozen hS4.1 2
          simp at hc
          go_simp
          refine hK _ _ ?_
          clear hK K
          obtain ⟨r1, r2, r3⟩ := RS
          have r6 := (set_old (w := WW) (i := 2) (u := .slice b50 m50 c50) (by omega : w.heap.size + 2 ≠ w.heap.size)).trans hS4.2.2
          generalize WW.setCell ⟨w.heap.size, 2, none⟩ (.slice b50 m50 c50) = WF at *
          obtain ⟨g1, g2, g3⟩ := cells3 r1
          obtain ⟨g4, g5, g6⟩ := cells3 r6
          have g7 := block_frozen r6
          have R3 := Lib.hid r3
          clear r3
          go_wp2_with fail
          have fin := say_fin2 (n := n) (x := .slice a1 xs.length c1) R3.out r2 r6 zb
          obtain ⟨u1, u2, u3⟩ := cells3 fin.1
          exact bodyPost_ret (v := .tuple #[.agg #[.int .i64 n, .slice a1 xs.length c1, .slice b50 m50 c50], .int .i64 0]) (by simp [results, Try.results11, go_sem, u1, u2, u3]) rfl ⟨fin.2.1, _, rfl, fin.2.2⟩
      · skip
        go_simp
        have hS := hS0
        have bel := bel0
        have z0 : W0.heap.size ≤ W0.heap.size := z0
        have oL := oL0
        have o49 : (W0.alloc (.cells #[.int .i64 s.a, .int .i64 s.b, .int .i64 s.c, .int .i64 s.d, .int .i64 s.e] 39)).ownsRow W0.heap.size 39 5 (.slice (some ⟨W0.heap.size, 0, none⟩) 1 1) ([s] : List St).length (([s] : List St).flatMap St.cs) := by simpa [St.cs] using World.ownsRow_lit (base := W0.heap.size) (size := 5) (w := W0) (e := 39) #[.int .i64 s.a, .int .i64 s.b, .int .i64 s.c, .int .i64 s.d, .int .i64 s.e] 1 z0 (by decide) rfl
        have oL := oL.alloc (.cells #[.int .i64 s.a, .int .i64 s.b, .int .i64 s.c, .int .i64 s.d, .int .i64 s.e] 39)
        have bel := bel.alloc bel.size (.cells #[.int .i64 s.a, .int .i64 s.b, .int .i64 s.c, .int .i64 s.d, .int .i64 s.e] 39)
        have hS : (W0.alloc (.cells #[.int .i64 s.a, .int .i64 s.b, .int .i64 s.c, .int .i64 s.d, .int .i64 s.e] 39)).heap[w.heap.size]? = some (.cells #[.int .i64 n, .slice a1 xs.length c1, .slice ao T.length cap] 27 (0, 0)) ∧ (W0.alloc (.cells #[.int .i64 s.a, .int .i64 s.b, .int .i64 s.c, .int .i64 s.d, .int .i64 s.e] 39)).heap[w.heap.size + 1]? = some (.cells #[.int .i64 s.a, .int .i64 s.b, .int .i64 s.c, .int .i64 s.d, .int .i64 s.e] 39 (0, 0)) ∧ (W0.alloc (.cells #[.int .i64 s.a, .int .i64 s.b, .int .i64 s.c, .int .i64 s.d, .int .i64 s.e] 39)).heap[w.heap.size + 2]? = some (.cells #[.int .i64 0, .slice none 0 0, .slice none 0 0] 27 (0, 0)) := ⟨(heap_alloc_old _ _ (lt_of_block hS.1)).trans hS.1, (heap_alloc_old _ _ (lt_of_block hS.2.1)).trans hS.2.1, (heap_alloc_old _ _ (lt_of_block hS.2.2)).trans hS.2.2⟩
        have z1 : W0.heap.size ≤ (W0.alloc (.cells #[.int .i64 s.a, .int .i64 s.b, .int .i64 s.c, .int .i64 s.d, .int .i64 s.e] 39)).heap.size := by rw [World.size_alloc]; omega
        have zz : W0.heap.size < (W0.alloc (.cells #[.int .i64 s.a, .int .i64 s.b, .int .i64 s.c, .int .i64 s.d, .int .i64 s.e] 39)).heap.size := by simp
        refine hK _ _ ⟨hS, ?_⟩
        clear hK K
        generalize W0.alloc (.cells #[.int .i64 s.a, .int .i64 s.b, .int .i64 s.c, .int .i64 s.d, .int .i64 s.e] 39) = W1 at *
        have hS1 := hS
        have bel1 := bel
        have z1 := z1
        have oL1 := oL
        clear hS bel z1 oL z0
        try simp only [Act.put, List.setIfInBounds_toArray, List.set_cons_zero, List.set_cons_succ]
        refine v_run (i := 0) rfl (by kernel_rfl) (by kernel_rfl) (by rfl) (fun K hK => ?_)
        go_simp
        have hS := hS1
        have bel := bel1
        have z0 : W0.heap.size ≤ W1.heap.size := z1
        have oL := oL1
        have o44 : (W1.alloc (.cells #[] 39)).ownsRow W0.heap.size 39 5 (.slice (some ⟨W1.heap.size, 0, none⟩) 0 0) 0 [] := World.ownsRow_lit _ #[] 0 z0 (by decide) rfl
        have o49 := o49.alloc (.cells #[] 39)
        have oL := oL.alloc (.cells #[] 39)
        have bel := bel.alloc bel.size (.cells #[] 39)
        have hS : (W1.alloc (.cells #[] 39)).heap[w.heap.size]? = some (.cells #[.int .i64 n, .slice a1 xs.length c1, .slice ao T.length cap] 27 (0, 0)) ∧ (W1.alloc (.cells #[] 39)).heap[w.heap.size + 1]? = some (.cells #[.int .i64 s.a, .int .i64 s.b, .int .i64 s.c, .int .i64 s.d, .int .i64 s.e] 39 (0, 0)) ∧ (W1.alloc (.cells #[] 39)).heap[w.heap.size + 2]? = some (.cells #[.int .i64 0, .slice none 0 0, .slice none 0 0] 27 (0, 0)) := ⟨(heap_alloc_old _ _ (lt_of_block hS.1)).trans hS.1, (heap_alloc_old _ _ (lt_of_block hS.2.1)).trans hS.2.1, (heap_alloc_old _ _ (lt_of_block hS.2.2)).trans hS.2.2⟩
        have z1 : W0.heap.size ≤ (W1.alloc (.cells #[] 39)).heap.size := by rw [World.size_alloc]; omega
        have zz : W1.heap.size < (W1.alloc (.cells #[] 39)).heap.size := by simp
        refine hK _ _ ⟨hS, ?_⟩
        clear hK K
        generalize W1.alloc (.cells #[] 39) = W2 at *
        have hS2 := hS
        have bel2 := bel
        have z2 := z1
        have oL2 := oL
        clear hS bel z1 oL z0
        try simp only [Act.put, List.setIfInBounds_toArray, List.set_cons_zero, List.set_cons_succ]
        refine v_run (i := 3) rfl (by kernel_rfl) (by kernel_rfl) (by rfl) (fun K hK => ?_)
        refine op_app_st (.tmp 44) (.tmp 46) rfl W0.heap.size _ 0 [] rfl o44 _ T b0 rfl oL2 i0 hi0 hz0 hz1 hz2 (by omega) z2 ?_
        intro v47 W3 o47 g47 hl47
        rw [Nat.zero_add, List.nil_append] at o47
        have hS3 : W3.heap[w.heap.size]? = some (.cells #[.int .i64 n, .slice a1 xs.length c1, .slice ao T.length cap] 27 (0, 0)) ∧ W3.heap[w.heap.size + 1]? = some (.cells #[.int .i64 s.a, .int .i64 s.b, .int .i64 s.c, .int .i64 s.d, .int .i64 s.e] 39 (0, 0)) ∧ W3.heap[w.heap.size + 2]? = some (.cells #[.int .i64 0, .slice none 0 0, .slice none 0 0] 27 (0, 0)) := ⟨(g47.block _ (lt_of_block hS2.1) (own_ne o44 (by omega))).trans hS2.1, (g47.block _ (lt_of_block hS2.2.1) (own_ne o44 (by omega))).trans hS2.2.1, (g47.block _ (lt_of_block hS2.2.2) (own_ne o44 (by omega))).trans hS2.2.2⟩
        have bel3 : Below w.heap.size w W3 := bel2.grown g47 bel2.size (fun k hk => by have := (o44.lt k hk).1; omega)
        have z3 : W0.heap.size ≤ W3.heap.size := Nat.le_trans z2 g47.size
        have o49 := o49.kept g47 (.inr (own_apart (by omega)))
        obtain ⟨b47, m47, c47, rfl⟩ := own_slice o47
        refine hK _ _ ⟨hS3, ?_⟩
        clear hK K
        have oL3 := o47
        try simp only [Act.put, List.setIfInBounds_toArray, List.set_cons_zero, List.set_cons_succ]
        refine v_run (i := 6) rfl (by kernel_rfl) (by kernel_rfl) (by rfl) (fun K hK => ?_)
        refine op_app_st (.tmp 47) (.tmp 49) rfl W0.heap.size (.slice b47 m47 c47) T.length (T.flatMap St.cs) (by rfl) o47 (.slice (some ⟨W0.heap.size, 0, none⟩) 1 1) [s] W0.heap.size (by rfl) o49 i0 hi0 hz0 hz1 hz2 (by simp; omega) z3 ?_
        intro v50 W4 o50 g50 hl50
        have hS4 : W4.heap[w.heap.size]? = some (.cells #[.int .i64 n, .slice a1 xs.length c1, .slice ao T.length cap] 27 (0, 0)) ∧ W4.heap[w.heap.size + 1]? = some (.cells #[.int .i64 s.a, .int .i64 s.b, .int .i64 s.c, .int .i64 s.d, .int .i64 s.e] 39 (0, 0)) ∧ W4.heap[w.heap.size + 2]? = some (.cells #[.int .i64 0, .slice none 0 0, .slice none 0 0] 27 (0, 0)) := ⟨(g50.block _ (lt_of_block hS3.1) (own_ne o47 (by omega))).trans hS3.1, (g50.block _ (lt_of_block hS3.2.1) (own_ne o47 (by omega))).trans hS3.2.1, (g50.block _ (lt_of_block hS3.2.2) (own_ne o47 (by omega))).trans hS3.2.2⟩
        have bel4 : Below w.heap.size w W4 := bel3.grown g50 bel3.size (fun k hk => by have := (o47.lt k hk).1; omega)
        obtain ⟨b50, m50, c50, rfl⟩ := own_slice o50
        refine hK _ _ ⟨hS4, ?_⟩
        clear hK K
        have RS := say_fin hS4.1 o50 bel4 (by omega) bel4.size
        obtain ⟨WW, hWW⟩ : ∃ WW, WW = W4 := ⟨_, rfl⟩
        rw [← hWW] at RS hS4 ⊢
        clear hWW
        try simp only [Act.put, List.setIfInBounds_toArray, List.set_cons_zero, List.set_cons_succ]
        refine v_take (i := 7) (d := (some 51)) (v := ?_) rfl rfl (by kernel_rfl) (fun _ _ _ h => h) (by rfl) (by first | exact hS5 | exact hS4 | exact hS3 | exact hS2 | exact hS1 | exact hS0) (fun w' hb' => ?_) ?_
        rotate_left
        · (try go_simp); (try with_reducible rfl)
        try simp only [Act.put, List.setIfInBounds_toArray, List.set_cons_zero, List.set_cons_succ]
        refine v_last (i := 8) rfl (by kernel_rfl) (by kernel_rfl) (by kernel_rfl) (by rfl) (fun K hK => ?_)
        have hc := block_cell hS4.1 2
        have hf := block_frozen hS4.1 2
        simp at hc
        go_simp
        refine hK _ _ ?_
        clear hK K
        obtain ⟨r1, r2, r3⟩ := RS
        have r6 := (set_old (w := WW) (i := 2) (u := .slice b50 m50 c50) (by omega : w.heap.size + 2 ≠ w.heap.size)).trans hS4.2.2
        generalize WW.setCell ⟨w.heap.size, 2, none⟩ (.slice b50 m50 c50) = WF at *
        obtain ⟨g1, g2, g3⟩ := cells3 r1
        obtain ⟨g4, g5, g6⟩ := cells3 r6
        have g7 := block_frozen r6
        have R3 := Lib.hid r3
        clear r3
        go_wp2_with fail
        have fin := say_fin2 (n := n) (x := .slice a1 xs.length c1) R3.out r2 r6 zb
        obtain ⟨u1, u2, u3⟩ := cells3 fin.1
        exact bodyPost_ret (v := .tuple #[.agg #[.int .i64 n, .slice a1 xs.length c1, .slice b50 m50 c50], .int .i64 0]) (by simp [results, Try.results11, go_sem, u1, u2, u3]) rfl ⟨fin.2.1, _, rfl, fin.2.2⟩
end Go.Proofs.Ytojjpnkdblaidaa
