/- The document's number and Digits whole; Clone. Written by wip/tools/gen2h.py. -/
import Derived.Test.YtblhgliegoickaaDoorT2G
import Derived.Test.YtblhgliegoickaaDoorReg
import Derived.Test.YtblhgliegoickaaDoorShelf
import Derived.Shelf.SlMaps.Clone
namespace Go.Proofs.YtblhgliegoickaaDoor
open Go Go.RowKit Go.Maps
set_option linter.unusedVariables false
set_option linter.unusedSimpArgs false
set_option maxRecDepth 100000 in
theorem number_zero (w : World) :
    Calls Tryd.prog 19 #[.int .i64 0] w fun e w' => e = .returned (.string (str [48])) ∧ w = w' := by
  go_enter Tryd.func19, Tryd.ntmps19
  go_wp2_with fail
  go_ret
  exact ⟨rfl, rfl⟩
theorem number_any (n : Int) (h : fitsI n) (w : World) :
    Calls Tryd.prog 19 #[.int .i64 n] w fun e w' => e = .returned (.string (str (Lib.itoa n))) ∧ w = w' := by
  obtain ⟨h1, h2⟩ := h
  rcases Int.lt_trichotomy n 0 with hn | hn | hn
  · obtain ⟨N, rfl⟩ : ∃ N : Nat, n = -(N : Int) := ⟨n.natAbs, by omega⟩
    rw [Lib.itoa_neg N (by omega)]
    exact number_neg N (by omega) (by omega) w
  · subst hn
    have e : Lib.itoa 0 = [48] := by
      have e := Lib.itoa_nonneg 0
      rw [show ((0 : Nat) : Int) = 0 from rfl] at e
      rw [e, Lib.decDigits_one (by omega)]; rfl
    rw [e]
    exact number_zero w
  · obtain ⟨N, rfl⟩ : ∃ N : Nat, n = (N : Int) := ⟨n.natAbs, by omega⟩
    rw [Lib.itoa_nonneg]
    exact number_pos N (by omega) (by omega) w
theorem digN_snoc (xs : List Int) (x : Int) : digN (xs ++ [x]) = digN xs ++ (Lib.itoa x ++ [44]) := by simp [digN]
set_option maxRecDepth 100000 in
set_option maxHeartbeats 1000000 in
theorem refDigits_any (v : Value) (xs : List Int) (hx : xs.length ≤ 1000) (hf : ∀ x ∈ xs, fitsI x) (w : World) (h : RdV w v (xs.map iv)) :
    Calls Tryd.prog 14 #[v] w fun e w' => e = .returned (.string (str (digN xs))) ∧ w = w' := by
  obtain ⟨ao, cap, rfl, hc, hm, HA⟩ := rdv_open h
  have HF := Lib.hid hf
  clear h hf
  go_enter Tryd.func14, Tryd.ntmps14
  go_wp2_with fail
  go_loop [3, 4] (fun s i => ∃ (j : Nat) (l : Txt), j ≤ xs.length ∧ i = .int .i64 (j : Int) ∧ s = .string (str l) ∧ Hid (l = digN (xs.take j))) (fun _ i => 2000 - (intOf i).toNat)
  case atStart => exact ⟨0, [], Nat.zero_le _, rfl, rfl, Lib.hid (by simp [digN])⟩
  case round =>
    obtain ⟨j, l, hj, rfl, rfl, hl⟩ := hrel
    have hll : l.length ≤ 22000 := by
      have := digN_len (xs.take j) (fun x hx => HF.out x (List.mem_of_mem_take hx))
      rw [hl.out]
      have e : (xs.take j).length = j := by rw [List.length_take]; omega
      rw [e] at this; omega
    by_cases hjx : j < xs.length
    · obtain ⟨b, off, rfl, hb, hcells⟩ := HA.out (by omega)
      have hc0 := hcells j hjx
      have hfx := HF.out xs[j] (List.getElem_mem hjx)
      have ht : digN (xs.take (j + 1)) = digN (xs.take j) ++ (Lib.itoa xs[j] ++ [44]) := by rw [List.take_succ_eq_append_getElem hjx, digN_snoc]
      obtain ⟨x, ex⟩ : ∃ x, x = xs[j] := ⟨_, rfl⟩
      rw [← ex] at hc0 ht hfx
      have HTT := Lib.hid ht
      have NB := number_any x hfx w
      have hil : (Lib.itoa x).length ≤ 21 := Lib.itoa_length_le x hfx.1 hfx.2
      obtain ⟨T, hT⟩ : ∃ T, T = Lib.itoa x := ⟨_, rfl⟩
      rw [← hT] at NB hil HTT
      have s1 := str_size T
      have s2 := str_size l
      clear ht ex hcells hT hfx
      go_wp2_with fail
      refine NB.mono ?_
      rintro e w1 ⟨rfl, rfl⟩
      have s3 : (str (T ++ [44])).size = T.length + 1 := by rw [str_size]; simp
      have hcat : ∀ w : World, (Op.stringOp .add (str T) (ByteArray.mk #[44])).run Tryd.prog w = .ok (.string (str (T ++ [44]))) w := fun w => by rw [show ByteArray.mk #[44] = str [44] from rfl, run_string_add_sum w _ _ (by rw [str_size, str_size]; simp; omega), ← str_app]
      have hcat2 : ∀ (w : World), (binOp .add 9 (.string (str T)) (.string (ByteArray.mk #[44]))).run Tryd.prog w = .ok (.string (str (T ++ [44]))) w := fun w => by rw [binOp_string_add]; exact hcat w
      have hcat3 : ∀ w : World, (Op.stringOp .add (str l) (str (T ++ [44]))).run Tryd.prog w = .ok (.string (str (l ++ (T ++ [44])))) w := fun w => by rw [run_string_add_sum w _ _ (by omega), ← str_app]
      have hcat4 : ∀ (w : World), (binOp .add 9 (.string (str l)) (.string (str (T ++ [44])))).run Tryd.prog w = .ok (.string (str (l ++ (T ++ [44])))) w := fun w => by rw [binOp_string_add]; exact hcat3 w
      go_wp2_with fail
      go_round
      case rel => exact ⟨j + 1, _, by omega, by go_num, rfl, Lib.hid (by rw [HTT.out, hl.out])⟩
      case measure => simp [intOf]; omega
    · go_wp2_with fail
      go_ret
      have e := hl.out
      rw [List.take_of_length_le (by omega)] at e
      subst e
      exact ⟨rfl, rfl⟩
theorem own_on {w w' : World} {b b0 : Nat} {e : TypeId} {size : Nat} {v : Value} {n : Nat} {xs : List Value} (h : w.ownsRow b e size v n xs) (hb : Below w.heap.size w w') (h0 : b0 ≤ b) : w'.ownsRow b0 e size v n xs := by
  refine ⟨h.1, ?_⟩
  rcases h.2 with h1 | ⟨g, cap, cur, rfl, h2, h3, h4⟩
  · exact .inl h1
  · exact .inr ⟨g, cap, cur, rfl, Nat.le_trans h0 h2, (hb.block g (lt_of_block h3)).trans h3, h4⟩
theorem omap_on {w w' : World} {b n : Nat} {D : DataW Unit} (h : w.ownsMap Tryd.prog 9 (plainElem Tryd.prog 3) b n D) (hb : Below w.heap.size w w') : w'.ownsMap Tryd.prog 9 (plainElem Tryd.prog 3) b n D := by
  obtain ⟨es, clock, h3, h4⟩ := h
  exact ⟨es, clock, (hb.block b (lt_of_block h3)).trans h3, h4⟩
set_option maxRecDepth 100000 in
theorem mclone_any (b n : Nat) (D : DataW Unit) (w : World) (hown : w.ownsMap Tryd.prog 9 (plainElem Tryd.prog 3) b n D) :
    Calls Tryd.prog 20 #[.map (some b)] w fun e w' => e = .returned (.map (some w.heap.size)) ∧ w'.ownsMap Tryd.prog 9 (plainElem Tryd.prog 3) w.heap.size n D ∧ Below w.heap.size w w' := by
  obtain ⟨es, clock, hb, F, hs, hD⟩ := hown
  have fin : (w.alloc (.map es clock)).ownsMap Tryd.prog 9 (plainElem Tryd.prog 3) w.heap.size n D := ⟨es, clock, (MapKept.heap_alloc w _).1, F, hs, hD⟩
  have hq := fun w => run_eql_map_nil_sl (P := Tryd.prog) w 47 _ _ (some b) Tryd.underlying47
  clear F hs hD
  go_enter Tryd.func20, Tryd.ntmps20
  go_wp2
  rw [run_callFunc_extern Tryd.func23 (by kernel_rfl) (by kernel_rfl) (by kernel_rfl) (e := Extern.MapsClone.clone) (by kernel_rfl), run_maps_clone_sl w 47 hb]
  simp only [Result.andThen]
  rw [Oper.upon_value]
  go_wp2
  rw [run_typeAssert_map_sl _ 47 _ _ _ _ Tryd.underlying47]
  simp only [Result.andThen]
  rw [Oper.upon_value]
  go_wp2
  go_ret
  exact ⟨rfl, fin, (Below.refl _ _).alloc (Nat.le_refl _) _⟩
theorem sclone_any (v : Value) (L : List Txt) (w : World) (h : RdV w v (L.map sv)) (hL : L.length ≤ 2000) :
    Calls Tryd.prog 21 #[v] w fun e w' => ∃ v', e = .returned v' ∧ w'.ownsRow w.heap.size 9 1 v' L.length (L.map sv) ∧ Below w.heap.size w w' := by
  obtain ⟨ao, cap, rfl, hc, HA⟩ := rdt_open h
  by_cases h0 : 0 < L.length
  · obtain ⟨b, off, rfl, hb, hcells⟩ := HA.out h0
    refine (Tryd.slices_Clone_string b off L.length cap (L.map str) w (by simp) (by omega) ?_).mono ?_
    · intro j hj
      rw [List.length_map] at hj
      rw [hcells j hj]
      simp [sv, List.getD, hj]
    · rintro e w' ⟨v', rfl, r, _, g⟩
      refine ⟨v', rfl, ?_, g⟩
      have e : ((L.map str).take L.length).map Value.string = L.map sv := by
        rw [List.take_of_length_le (by simp), List.map_map]; rfl
      rw [e] at r; exact r
  · obtain rfl : L = [] := List.eq_nil_of_length_eq_zero (by omega)
    rcases ao with _ | a
    · refine (Tryd.slices_Clone_string_nil 0 cap w).mono ?_
      rintro e w' ⟨rfl, rfl⟩
      exact ⟨_, rfl, World.ownsRow_nil _ _ _ _, Below.refl _ _⟩
    · refine (Tryd.slices_Clone_string_zero a cap w).mono ?_
      rintro e w' ⟨v', rfl, r, _, g⟩
      exact ⟨v', rfl, r, g⟩
set_option maxRecDepth 100000 in
set_option maxHeartbeats 1000000 in
theorem clone_any (base B M : Nat) (v : Value) (L : List Txt) (w : World) (h : TB w base B M v L) (hL : L.length ≤ 1000) :
    Calls Tryd.prog 15 #[.pointer (some ⟨B, 0, none⟩)] w fun e w' => ∃ B' M' v', e = .returned (.pointer (some ⟨B', 0, none⟩)) ∧ Below w.heap.size w w' ∧ TB w' w.heap.size B' M' v' L := by
  have q0 : w.drew.heap[B]? = some (.cells #[.map (some M), v] 49 (0, 0)) := h.blk
  have m0 := h.map.drew
  have RD := Lib.hid (fun w' (g : Below w.drew.heap.size w.drew w') => own_rdv (own_on h.row.drew g (Nat.le_refl _)))
  have fin : ∀ w1 w2 v2, w1.ownsMap Tryd.prog 9 (plainElem Tryd.prog 3) w.heap.size L.length (numD L) → Below w.drew.heap.size w.drew w1 → w2.ownsRow w1.heap.size 9 1 v2 L.length (L.map sv) → Below w1.heap.size w1 w2 → TB (w2.alloc (.cells #[.map (some w.heap.size), v2] 49)) w.heap.size w2.heap.size w.heap.size v2 L := by
    intro w1 w2 v2 m1 b1 r2 b2
    have g : Below w2.heap.size w2 (w2.alloc (.cells #[.map (some w.heap.size), v2] 49)) := (Below.refl _ _).alloc (Nat.le_refl _) _
    have s1 : w.heap.size ≤ w1.heap.size := by simpa using b1.size
    have s2 := b2.size
    refine ⟨h.nd, h.wf, h.len, by omega, by omega, (MapKept.heap_alloc w2 _).1, omap_on (omap_on m1 b2) g, ?_⟩
    exact own_on r2 g s1
  have FIN := Lib.hid fin
  clear fin h
  go_enter Tryd.func15, Tryd.ntmps15
  go_wp2
  refine g_start (by kernel_rfl) ?_
  refine g_take (i := 0) (d := (some 3)) (v := ?_) rfl rfl (by kernel_rfl) (fun _ _ _ h => h) (by rfl) (fun w' hb' => ?_) ?_
  rotate_left
  · (try go_simp); (try with_reducible rfl)
  try simp only [Act.put, List.setIfInBounds_toArray, List.set_cons_zero, List.set_cons_succ]
  refine g_take (i := 1) (d := (some 4)) (v := ?_) rfl rfl (by kernel_rfl) (fun _ _ _ h => h) (by rfl) (fun w' hb' => ?_) ?_
  rotate_left
  · (try go_simp); (try with_reducible rfl)
  try simp only [Act.put, List.setIfInBounds_toArray, List.set_cons_zero, List.set_cons_succ]
  refine g_take (i := 2) (d := (some 5)) (v := ?_) rfl rfl (by kernel_rfl) (fun _ _ _ h => h) (by rfl) (fun w' hb' => ?_) ?_
  rotate_left
  · (try go_simp); (try with_reducible rfl)
  try simp only [Act.put, List.setIfInBounds_toArray, List.set_cons_zero, List.set_cons_succ]
  refine g_take (i := 3) (d := (some 6)) (v := ?_) rfl rfl (by kernel_rfl) (fun _ _ _ h => h) (by rfl) (fun w' hb' => ?_) ?_
  rotate_left
  · have hc := (cells2 ((hb'.block _ (lt_of_block q0)).trans q0)).1; (try go_simp); (try with_reducible rfl)
  try simp only [Act.put, List.setIfInBounds_toArray, List.set_cons_zero, List.set_cons_succ]
  refine g_take (i := 5) (d := (some 8)) (v := ?_) rfl rfl (by kernel_rfl) (fun _ _ _ h => h) (by rfl) (fun w' hb' => ?_) ?_
  rotate_left
  · (try go_simp); (try with_reducible rfl)
  try simp only [Act.put, List.setIfInBounds_toArray, List.set_cons_zero, List.set_cons_succ]
  refine g_take (i := 6) (d := (some 9)) (v := ?_) rfl rfl (by kernel_rfl) (fun _ _ _ h => h) (by rfl) (fun w' hb' => ?_) ?_
  rotate_left
  · (try go_simp); (try with_reducible rfl)
  try simp only [Act.put, List.setIfInBounds_toArray, List.set_cons_zero, List.set_cons_succ]
  refine g_take (i := 7) (d := (some 10)) (v := ?_) rfl rfl (by kernel_rfl) (fun _ _ _ h => h) (by rfl) (fun w' hb' => ?_) ?_
  rotate_left
  · (try go_simp); (try with_reducible rfl)
  try simp only [Act.put, List.setIfInBounds_toArray, List.set_cons_zero, List.set_cons_succ]
  refine g_take (i := 8) (d := (some 11)) (v := ?_) rfl rfl (by kernel_rfl) (fun _ _ _ h => h) (by rfl) (fun w' hb' => ?_) ?_
  rotate_left
  · have hc := (cells2 ((hb'.block _ (lt_of_block q0)).trans q0)).2; (try go_simp); (try with_reducible rfl)
  try simp only [Act.put, List.setIfInBounds_toArray, List.set_cons_zero, List.set_cons_succ]
  refine g_run (i := 4) rfl (by kernel_rfl) (by rfl) (fun K hK => ?_)
  go_simp; refine (mclone_any M _ _ _ m0).mono ?_; rintro e w1 ⟨rfl, m1, B1⟩; refine hK _ _ ⟨B1, ?_⟩; clear hK K
  try simp only [Act.put, List.setIfInBounds_toArray, List.set_cons_zero, List.set_cons_succ]
  refine g_run (i := 9) rfl (by kernel_rfl) (by rfl) (fun K hK => ?_)
  go_simp; refine (sclone_any v L _ (RD.out _ B1) (by omega)).mono ?_; rintro e w2 ⟨v2, rfl, r2, B2⟩; obtain ⟨ao2, c2, rfl⟩ := own_slice' r2; refine hK _ _ ⟨B2, ?_⟩; clear hK K
  try simp only [Act.put, List.setIfInBounds_toArray, List.set_cons_zero, List.set_cons_succ]
  refine g_run (i := 10) rfl (by kernel_rfl) (by rfl) (fun K hK => ?_)
  go_simp; refine hK _ _ ⟨Below.refl _ _, ?_⟩; clear hK K
  try simp only [Act.put, List.setIfInBounds_toArray, List.set_cons_zero, List.set_cons_succ]
  refine g_run (i := 11) rfl (by kernel_rfl) (by rfl) (fun K hK => ?_)
  go_simp; refine hK _ _ ⟨(Below.refl _ _).alloc (Nat.le_refl _) _, ?_⟩; clear hK K
  try simp only [Act.put, List.setIfInBounds_toArray, List.set_cons_zero, List.set_cons_succ]
  refine g_take (i := 12) (d := (some 2)) (v := ?_) rfl rfl (by kernel_rfl) (fun _ _ _ h => h) (by rfl) (fun w' hb' => ?_) ?_
  rotate_left
  · (try go_simp); (try with_reducible rfl)
  try simp only [Act.put, List.setIfInBounds_toArray, List.set_cons_zero, List.set_cons_succ]
  refine g_done (by kernel_rfl) ?_
  go_wp2
  go_ret
  exact ⟨_, _, _, rfl, (chain (chain ((Below.refl _ w).drew) B1) B2).alloc (by have := B1.size; have := B2.size; have e : w.drew.heap.size = w.heap.size := rfl; omega) _, FIN.out _ _ _ m1 B1 r2 B2⟩
end Go.Proofs.YtblhgliegoickaaDoor
