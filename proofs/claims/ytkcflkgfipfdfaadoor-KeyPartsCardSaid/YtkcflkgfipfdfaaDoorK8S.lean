/- Keys: the law KeyParts. Written by wip/tools/gen8p.py. -/
import Derived.Test.YtkcflkgfipfdfaaDoorK8R
import Derived.Test.YtkcflkgfipfdfaaDoorK8U
import Derived.Test.YtkcflkgfipfdfaaDoorK8K
namespace Go.Proofs.YtkcflkgfipfdfaaDoor
open Go Go.RowKit
set_option linter.unusedVariables false
set_option linter.unusedSimpArgs false
set_option maxRecDepth 100000 in
set_option maxHeartbeats 1000000 in
theorem parts_way (K0 k : List UInt8) (L F : List (List UInt8)) (n : Nat) (v : Value) (w : World) (tab0 : TabAt w) (hLn : n = L.length) (hn : n ≤ 30) (hFL : F.length = L.length) (hFy : ∀ j, j < n → F.getD j [] = (L.getD j []).take 60) (hLm : ∀ j, j < n → (L.getD j []).length ≤ maxLen)
    (h0 : RdV w v (L.map sv)) (hk : k.length ≤ maxLen) (FK : ∀ w, Calls Tryd.prog 8 #[.string (str K0)] w fun e w' => e = .returned (.string (str k)) ∧ w = w') :
    Calls Tryd.prog 4 #[.string (str K0), v] w fun e w' => e = .returned (.bool true) ∧ Below w.heap.size w w' := by
  obtain ⟨i0, hi, hz0, hz1, hz2⟩ := info_parts strinfo
  have h0' := h0
  obtain ⟨ao, cap, rfl, hcap, hcm, -, -⟩ := h0'
  rw [List.length_map, ← hLn] at hcap h0 ⊢
  have H0 := Lib.hid h0
  have HFY := Lib.hid hFy
  have HLM := Lib.hid hLm
  have HLN := Lib.hid hLn
  have HFL := Lib.hid hFL
  clear h0 hFy hLm hLn hFL
  unfold maxLen at hcm
  go_enter Tryd.func4, Tryd.ntmps4
  go_wp2_with (go_at_call 8; refine (FK _).mono ?_; rintro e w' ⟨rfl, rfl⟩)
  go_loopw [1, 5, 6] (fun lv al i wr => ∃ (j : Nat) (A : List UInt8), j ≤ n ∧ i = .int .i64 (j : Int) ∧ al = .string (str A) ∧ Hid (A = joinL (F.take j)) ∧ A.length ≤ 61 * j ∧ RdV wr lv ((mixL F L j).map sv) ∧ Below w.heap.size w wr) (fun _ _ i _ => n - (intOf i).toNat)
  case atStart => exact ⟨0, [], Nat.zero_le _, rfl, rfl, rfl, by simp, by simpa [mixL] using H0.out, Below.refl _ _⟩
  case round =>
    obtain ⟨j, A, hjn, rfl, rfl, hA, hAl, rdv, bel⟩ := hrel
    have tab := tab0.below bel
    have hLn := HLN.out
    have hFL := HFL.out
    by_cases hj : j < n
    · have hmid := mix_at hFL (hLn ▸ hj : j < L.length)
      have hml := mix_len hFL (hLn ▸ hjn : j ≤ L.length)
      have hst := mix_step hFL (hLn ▸ hj : j < L.length)
      have hjo := join_step (F := F) (j := j) (by omega)
      have hfy : F.getD j [] = (L.getD j []).take 60 := HFY.out j hj
      have hxm : (L.getD j []).length ≤ maxLen := HLM.out j hj
      obtain ⟨x, ex⟩ : ∃ x, x = L.getD j [] := ⟨_, rfl⟩
      obtain ⟨y, ey⟩ : ∃ y, y = F.getD j [] := ⟨_, rfl⟩
      have FW0 := fun w => few_same x (by rw [ex]; exact hxm) w
      rw [← ex] at hfy hmid
      rw [← ey] at hfy hst hjo
      rw [← hfy] at FW0
      have FW : ∀ w, Calls Tryd.prog 8 #[.string (str x)] w fun e w' => e = .returned (.string (str y)) ∧ w = w' := fun w => (FW0 w).mono fun e w' h => ⟨h.1, h.2.symm⟩
      have hy60 : y.length ≤ 60 := by rw [hfy]; exact List.length_take_le _ _
      obtain ⟨ao, cap, elv, hcap, hcm, hnone, hcells⟩ := rdv
      rw [List.length_map, hml, ← hLn] at elv hcap hcells
      subst elv
      obtain ⟨b, off, rfl, hb, hcs⟩ := hcells (by omega)
      have hcell : wr.cell? ⟨b, off + j, none⟩ = some (.string (str x)) := by rw [hcs j hj, List.getElem?_map, hmid]; rfl
      have rdw : RdV wr (.slice (some ⟨b, off, none⟩) n cap) ((mixL F L j).map sv) := ⟨_, cap, by rw [List.length_map, hml, ← hLn], by rw [List.length_map, hml, ← hLn]; exact hcap, hcm, by simp, fun _ => ⟨b, off, rfl, hb, by rw [List.length_map, hml, ← hLn]; exact hcs⟩⟩
      have RT : Hid (∀ w', Below wr.heap.size wr w' → RdV w' (.slice (some ⟨b, off, none⟩) j cap) (((mixL F L j).map sv).take j)) := Lib.hid fun w' h => (rdw.below h (Nat.le_refl _)).short j (Nat.le_of_lt hj)
      have RF : Hid (∀ w', Below wr.heap.size wr w' → RdV w' (.slice (some (frA b off cap (j + 1))) (n - (j + 1)) (cap - (j + 1))) (((mixL F L j).map sv).drop (j + 1))) := Lib.hid fun w' h => rdv_from (rdw.below h (Nat.le_refl _)) (j + 1) (by omega)
      have ONE : ∀ l : List (List UInt8), ∀ u ∈ l.map sv, u.oneCell' = true := fun l u hu => by obtain ⟨z, _, rfl⟩ := List.mem_map.1 hu; rfl
      have ONE1 : ∀ u ∈ ((mixL F L j).map sv).take j, u.oneCell' = true := fun u hu => ONE _ u (List.mem_of_mem_take hu)
      have ONE2 : ∀ u ∈ [sv y], u.oneCell' = true := ONE [y]
      have ONE3 : ∀ u ∈ ((mixL F L j).map sv).drop (j + 1), u.oneCell' = true := fun u hu => ONE _ u (List.mem_of_mem_drop hu)
      have HST : Hid (((mixL F L j).map sv).take j ++ [sv y] ++ ((mixL F L j).map sv).drop (j + 1) = (mixL F L (j + 1)).map sv) := by
        show _ = _
        rw [← hst]; simp
      have HO1 := Lib.hid ONE1
      have HO2 := Lib.hid ONE2
      have HO3 := Lib.hid ONE3
      have hwr : wr.heap.size ≤ wr.heap.size := Nat.le_refl _
      have eij : IntKind.i64.wrap ((j : Int) + 1) = (j : Int) + 1 := by rw [IntKind.wrap_i64]; omega
      have hji : (j : Int) < (n : Int) := by omega
      have hzA : (str A).size = A.length := str_size A
      have hzy : (str y).size = y.length := str_size y
      have hap1 := str_append A [47]
      have hap2 := str_append (A ++ [47]) y
      have hap3 := str_append A y
      have hzA2 : (str (A ++ [47])).size = A.length + 1 := by rw [str_size]; simp
      have s47 : (ByteArray.mk #[47]).size = 1 := rfl
      have hap1' : str A ++ (ByteArray.mk #[47]) = str (A ++ [47]) := hap1
      clear hLn hFL ONE ONE1 ONE2 ONE3 hst hmid hml hcs hcells rdw hnone hfy hxm FW0 ex ey hap1
      by_cases hj0 : j = 0
      · rw [if_pos hj0] at hjo
        have HJ : Hid (A ++ y = joinL (F.take (j + 1))) := by
          show _ = _
          rw [hjo]
          have := hA.out
          rw [hj0] at this
          rw [this]; rfl
        have hj0' : ¬ (0 : Int) < (j : Int) := by omega
        clear hjo hj0 hA hap1' hap2
        go_wp2_with (go_at_call 8; refine (FW _).mono ?_; rintro e w' ⟨rfl, rfl⟩)
        have hS : Below wr.heap.size wr wr.drew := below_drewN (k := 1) (Below.refl _ _)
        have ONE1 := HO1.out
        have ONE2 := HO2.out
        have ONE3 := HO3.out
        refine gs_start (S := fun w' => Below wr.heap.size wr w') (by kernel_rfl) ?_
        refine gs_take (i := 1) (d := (some 39)) (v := ?_) rfl rfl (by kernel_rfl) (fun _ _ _ h => h) (by rfl) hS (fun w' hb' => ?_) ?_
        rotate_left
        · (try go_simp); (try with_reducible rfl)
        try simp only [Act.put, List.setIfInBounds_toArray, List.set_cons_zero, List.set_cons_succ]
        refine gs_take (i := 2) (d := (some 40)) (v := ?_) rfl rfl (by kernel_rfl) (fun _ _ _ h => h) (by rfl) hS (fun w' hb' => ?_) ?_
        rotate_left
        · (try go_simp); (try with_reducible rfl)
        try simp only [Act.put, List.setIfInBounds_toArray, List.set_cons_zero, List.set_cons_succ]
        refine gs_take (i := 3) (d := (some 41)) (v := ?_) rfl rfl (by kernel_rfl) (fun _ _ _ h => h) (by rfl) hS (fun w' hb' => ?_) ?_
        rotate_left
        · (refine sl_to_op _ _ (.tmp 39) (.tmp 40) b off n cap j ?_ ?_ ?_ (Nat.le_of_lt hj) hcap hcm w' <;> rfl); (try go_simp); (try with_reducible rfl)
        try simp only [Act.put, List.setIfInBounds_toArray, List.set_cons_zero, List.set_cons_succ]
        refine gs_take (i := 5) (d := (some 43)) (v := ?_) rfl rfl (by kernel_rfl) (fun _ _ _ h => h) (by rfl) hS (fun w' hb' => ?_) ?_
        rotate_left
        · (try go_simp); (try with_reducible rfl)
        try simp only [Act.put, List.setIfInBounds_toArray, List.set_cons_zero, List.set_cons_succ]
        refine gs_take (i := 6) (d := (some 44)) (v := ?_) rfl rfl (by kernel_rfl) (fun _ _ _ h => h) (by rfl) hS (fun w' hb' => ?_) ?_
        rotate_left
        · (try go_simp); (try with_reducible rfl)
        try simp only [Act.put, List.setIfInBounds_toArray, List.set_cons_zero, List.set_cons_succ]
        refine gs_take (i := 7) (d := (some 45)) (v := ?_) rfl rfl (by kernel_rfl) (fun _ _ _ h => h) (by rfl) hS (fun w' hb' => ?_) ?_
        rotate_left
        · (try go_simp); (try with_reducible rfl)
        try simp only [Act.put, List.setIfInBounds_toArray, List.set_cons_zero, List.set_cons_succ]
        refine gs_take (i := 8) (d := (some 46)) (v := ?_) rfl rfl (by kernel_rfl) (fun _ _ _ h => h) (by rfl) hS (fun w' hb' => ?_) ?_
        rotate_left
        · have zc := (hb'.cell (p := ⟨b, off + j, none⟩) hb).trans hcell; (try go_simp); (try with_reducible rfl)
        try simp only [Act.put, List.setIfInBounds_toArray, List.set_cons_zero, List.set_cons_succ]
        refine gs_take (i := 12) (d := (some 50)) (v := ?_) rfl rfl (by kernel_rfl) (fun _ _ _ h => h) (by rfl) hS (fun w' hb' => ?_) ?_
        rotate_left
        · (try go_simp); (try with_reducible rfl)
        try simp only [Act.put, List.setIfInBounds_toArray, List.set_cons_zero, List.set_cons_succ]
        refine gs_take (i := 13) (d := (some 51)) (v := ?_) rfl rfl (by kernel_rfl) (fun _ _ _ h => h) (by rfl) hS (fun w' hb' => ?_) ?_
        rotate_left
        · (try go_simp); (try with_reducible rfl)
        try simp only [Act.put, List.setIfInBounds_toArray, List.set_cons_zero, List.set_cons_succ]
        refine gs_take (i := 14) (d := (some 52)) (v := ?_) rfl rfl (by kernel_rfl) (fun _ _ _ h => h) (by rfl) hS (fun w' hb' => ?_) ?_
        rotate_left
        · (try go_simp); (try with_reducible rfl)
        try simp only [Act.put, List.setIfInBounds_toArray, List.set_cons_zero, List.set_cons_succ]
        refine gs_take (i := 15) (d := (some 53)) (v := ?_) rfl rfl (by kernel_rfl) (fun _ _ _ h => h) (by rfl) hS (fun w' hb' => ?_) ?_
        rotate_left
        · (refine sl_from_op _ _ (.tmp 50) (.tmp 52) b off n cap j ?_ ?_ ?_ hj hcap hcm w' <;> rfl); (try go_simp); (try with_reducible rfl)
        try simp only [Act.put, List.setIfInBounds_toArray, List.set_cons_zero, List.set_cons_succ]
        refine gs_run (i := 0) rfl (by kernel_rfl) (by rfl) (fun K hK => ?_)
        go_simp
        have hS : Below wr.heap.size wr (World.drew (World.alloc wr (.cells #[] 9))) := below_drewN (k := 1) ((Below.refl _ _).alloc (Nat.le_refl _) _)
        refine hK _ _ ⟨hS, ?_⟩
        clear hK K
        have own0 : World.ownsRow (World.drew (World.alloc wr (.cells #[] 9))) wr.heap.size 9 1 (.slice (some ⟨wr.heap.size, 0, none⟩) 0 0) 0 [] := (World.ownsRow_lit wr #[] 0 (Nat.le_refl _) (by decide) rfl).drew
        obtain ⟨WA, hWA⟩ : ∃ W, W = (World.drew (World.alloc wr (.cells #[] 9))) := ⟨_, rfl⟩
        rw [← hWA]
        rw [← hWA] at hS own0
        clear hWA
        try simp only [Act.put, List.setIfInBounds_toArray, List.set_cons_zero, List.set_cons_succ]
        refine gs_run (i := 4) rfl (by kernel_rfl) (by rfl) (fun K hK => ?_)
        refine wp_app_rdv wr (.tmp 38) (.tmp 41) 27 rfl wr.heap.size 9 i0 (.string ⟨#[]⟩) 16 Tryd.underlying27 hi hz0 hz1 hz2 rfl _ 0 [] rfl own0 ⟨b, off, none⟩ j cap _ rfl (RT.out _ hS) ONE1 (by unfold maxLen; omega) (by omega) (Nat.le_refl _) hS ?_
        intro v2 W2 own2 hS2
        rw [Nat.zero_add, List.nil_append] at own2
        have hS := hS2
        refine hK _ _ ⟨hS, ?_⟩
        clear hK K own0 hS2
        try simp only [Act.put, List.setIfInBounds_toArray, List.set_cons_zero, List.set_cons_succ]
        refine gs_run (i := 9) rfl (by kernel_rfl) (by rfl) (fun K hK => ?_)
        go_simp
        refine (FW _).mono ?_
        rintro e wf ⟨rfl, rfl⟩
        refine hK _ _ ⟨hS, ?_⟩
        clear hK K
        try simp only [Act.put, List.setIfInBounds_toArray, List.set_cons_zero, List.set_cons_succ]
        refine gs_run (i := 10) rfl (by kernel_rfl) (by rfl) (fun K hK => ?_)
        go_simp
        have hS3 : Below wr.heap.size wr (World.alloc W2 (.cells #[.string (str y)] 9)) := hS.alloc hS.size _
        refine hK _ _ ⟨hS3, ?_⟩
        clear hK K
        have own3 := own2.alloc (.cells #[.string (str y)] 9)
        have rd3 : RdV (World.alloc W2 (.cells #[.string (str y)] 9)) (.slice (some ⟨W2.heap.size, 0, none⟩) 1 1) [sv y] := rdv_block (cs := #[.string (str y)]) (heap_alloc_new _ _) 1 rfl (by decide)
        obtain ⟨W3, hW3⟩ : ∃ W, W = (World.alloc W2 (.cells #[.string (str y)] 9)) := ⟨_, rfl⟩
        rw [← hW3]
        rw [← hW3] at hS3 own3 rd3
        have hS := hS3
        generalize W2.heap.size = nb at rd3 ⊢
        clear hW3 hS3 own2
        try simp only [Act.put, List.setIfInBounds_toArray, List.set_cons_zero, List.set_cons_succ]
        refine gs_run (i := 11) rfl (by kernel_rfl) (by rfl) (fun K hK => ?_)
        refine wp_app_rdv wr (.tmp 42) (.tmp 48) 27 rfl wr.heap.size 9 i0 (.string ⟨#[]⟩) 16 Tryd.underlying27 hi hz0 hz1 hz2 rfl _ j _ rfl own3 ⟨nb, 0, none⟩ 1 1 _ rfl rd3 ONE2 (by unfold maxLen; omega) (by omega) (Nat.le_refl _) hS ?_
        intro v4 W4 own4 hS4
        have hS := hS4
        refine hK _ _ ⟨hS, ?_⟩
        clear hK K own3 hS4 rd3
        try simp only [Act.put, List.setIfInBounds_toArray, List.set_cons_zero, List.set_cons_succ]
        refine gs_run (i := 16) rfl (by kernel_rfl) (by rfl) (fun K hK => ?_)
        refine wp_app_rdv wr (.tmp 49) (.tmp 53) 27 rfl wr.heap.size 9 i0 (.string ⟨#[]⟩) 16 Tryd.underlying27 hi hz0 hz1 hz2 rfl _ (j + 1) _ rfl own4 (frA b off cap (j + 1)) (n - (j + 1)) (cap - (j + 1)) _ rfl (RF.out _ hS) ONE3 (by unfold maxLen; omega) (by omega) (Nat.le_refl _) hS ?_
        intro v5 W5 own5 hS5
        have hS := hS5
        refine hK _ _ ⟨hS, ?_⟩
        clear hK K own4 hS5
        try simp only [Act.put, List.setIfInBounds_toArray, List.set_cons_zero, List.set_cons_succ]
        refine gs_take (i := 17) (d := (some 1)) (v := ?_) rfl rfl (by kernel_rfl) (fun _ _ _ h => h) (by rfl) hS (fun w' hb' => ?_) ?_
        rotate_left
        · (try go_simp); (try with_reducible rfl)
        try simp only [Act.put, List.setIfInBounds_toArray, List.set_cons_zero, List.set_cons_succ]
        refine gs_done (by kernel_rfl) ?_
        have rdn := own_rdv own5
        rw [HST.out] at rdn
        clear ONE1 ONE2 ONE3 own5
        go_wp2_with fail
        exact ⟨⟨j + 1, A ++ y, by omega, by push_cast; rfl, rfl, HJ, by simp; omega, rdn, bel.trans (hS.mono bel.size)⟩, by simp [intOf]; omega⟩
      · rw [if_neg hj0] at hjo
        have HJ : Hid (A ++ [47] ++ y = joinL (F.take (j + 1))) := by
          show _ = _
          rw [hjo, hA.out]
        have hj0' : (0 : Int) < (j : Int) := by omega
        clear hjo hj0 hA hap3
        go_wp2_with (go_at_call 8; refine (FW _).mono ?_; rintro e w' ⟨rfl, rfl⟩)
        have hS : Below wr.heap.size wr wr.drew := below_drewN (k := 1) (Below.refl _ _)
        have ONE1 := HO1.out
        have ONE2 := HO2.out
        have ONE3 := HO3.out
        refine gs_start (S := fun w' => Below wr.heap.size wr w') (by kernel_rfl) ?_
        refine gs_take (i := 1) (d := (some 39)) (v := ?_) rfl rfl (by kernel_rfl) (fun _ _ _ h => h) (by rfl) hS (fun w' hb' => ?_) ?_
        rotate_left
        · (try go_simp); (try with_reducible rfl)
        try simp only [Act.put, List.setIfInBounds_toArray, List.set_cons_zero, List.set_cons_succ]
        refine gs_take (i := 2) (d := (some 40)) (v := ?_) rfl rfl (by kernel_rfl) (fun _ _ _ h => h) (by rfl) hS (fun w' hb' => ?_) ?_
        rotate_left
        · (try go_simp); (try with_reducible rfl)
        try simp only [Act.put, List.setIfInBounds_toArray, List.set_cons_zero, List.set_cons_succ]
        refine gs_take (i := 3) (d := (some 41)) (v := ?_) rfl rfl (by kernel_rfl) (fun _ _ _ h => h) (by rfl) hS (fun w' hb' => ?_) ?_
        rotate_left
        · (refine sl_to_op _ _ (.tmp 39) (.tmp 40) b off n cap j ?_ ?_ ?_ (Nat.le_of_lt hj) hcap hcm w' <;> rfl); (try go_simp); (try with_reducible rfl)
        try simp only [Act.put, List.setIfInBounds_toArray, List.set_cons_zero, List.set_cons_succ]
        refine gs_take (i := 5) (d := (some 43)) (v := ?_) rfl rfl (by kernel_rfl) (fun _ _ _ h => h) (by rfl) hS (fun w' hb' => ?_) ?_
        rotate_left
        · (try go_simp); (try with_reducible rfl)
        try simp only [Act.put, List.setIfInBounds_toArray, List.set_cons_zero, List.set_cons_succ]
        refine gs_take (i := 6) (d := (some 44)) (v := ?_) rfl rfl (by kernel_rfl) (fun _ _ _ h => h) (by rfl) hS (fun w' hb' => ?_) ?_
        rotate_left
        · (try go_simp); (try with_reducible rfl)
        try simp only [Act.put, List.setIfInBounds_toArray, List.set_cons_zero, List.set_cons_succ]
        refine gs_take (i := 7) (d := (some 45)) (v := ?_) rfl rfl (by kernel_rfl) (fun _ _ _ h => h) (by rfl) hS (fun w' hb' => ?_) ?_
        rotate_left
        · (try go_simp); (try with_reducible rfl)
        try simp only [Act.put, List.setIfInBounds_toArray, List.set_cons_zero, List.set_cons_succ]
        refine gs_take (i := 8) (d := (some 46)) (v := ?_) rfl rfl (by kernel_rfl) (fun _ _ _ h => h) (by rfl) hS (fun w' hb' => ?_) ?_
        rotate_left
        · have zc := (hb'.cell (p := ⟨b, off + j, none⟩) hb).trans hcell; (try go_simp); (try with_reducible rfl)
        try simp only [Act.put, List.setIfInBounds_toArray, List.set_cons_zero, List.set_cons_succ]
        refine gs_take (i := 12) (d := (some 50)) (v := ?_) rfl rfl (by kernel_rfl) (fun _ _ _ h => h) (by rfl) hS (fun w' hb' => ?_) ?_
        rotate_left
        · (try go_simp); (try with_reducible rfl)
        try simp only [Act.put, List.setIfInBounds_toArray, List.set_cons_zero, List.set_cons_succ]
        refine gs_take (i := 13) (d := (some 51)) (v := ?_) rfl rfl (by kernel_rfl) (fun _ _ _ h => h) (by rfl) hS (fun w' hb' => ?_) ?_
        rotate_left
        · (try go_simp); (try with_reducible rfl)
        try simp only [Act.put, List.setIfInBounds_toArray, List.set_cons_zero, List.set_cons_succ]
        refine gs_take (i := 14) (d := (some 52)) (v := ?_) rfl rfl (by kernel_rfl) (fun _ _ _ h => h) (by rfl) hS (fun w' hb' => ?_) ?_
        rotate_left
        · (try go_simp); (try with_reducible rfl)
        try simp only [Act.put, List.setIfInBounds_toArray, List.set_cons_zero, List.set_cons_succ]
        refine gs_take (i := 15) (d := (some 53)) (v := ?_) rfl rfl (by kernel_rfl) (fun _ _ _ h => h) (by rfl) hS (fun w' hb' => ?_) ?_
        rotate_left
        · (refine sl_from_op _ _ (.tmp 50) (.tmp 52) b off n cap j ?_ ?_ ?_ hj hcap hcm w' <;> rfl); (try go_simp); (try with_reducible rfl)
        try simp only [Act.put, List.setIfInBounds_toArray, List.set_cons_zero, List.set_cons_succ]
        refine gs_run (i := 0) rfl (by kernel_rfl) (by rfl) (fun K hK => ?_)
        go_simp
        have hS : Below wr.heap.size wr (World.drew (World.alloc wr (.cells #[] 9))) := below_drewN (k := 1) ((Below.refl _ _).alloc (Nat.le_refl _) _)
        refine hK _ _ ⟨hS, ?_⟩
        clear hK K
        have own0 : World.ownsRow (World.drew (World.alloc wr (.cells #[] 9))) wr.heap.size 9 1 (.slice (some ⟨wr.heap.size, 0, none⟩) 0 0) 0 [] := (World.ownsRow_lit wr #[] 0 (Nat.le_refl _) (by decide) rfl).drew
        obtain ⟨WA, hWA⟩ : ∃ W, W = (World.drew (World.alloc wr (.cells #[] 9))) := ⟨_, rfl⟩
        rw [← hWA]
        rw [← hWA] at hS own0
        clear hWA
        try simp only [Act.put, List.setIfInBounds_toArray, List.set_cons_zero, List.set_cons_succ]
        refine gs_run (i := 4) rfl (by kernel_rfl) (by rfl) (fun K hK => ?_)
        refine wp_app_rdv wr (.tmp 38) (.tmp 41) 27 rfl wr.heap.size 9 i0 (.string ⟨#[]⟩) 16 Tryd.underlying27 hi hz0 hz1 hz2 rfl _ 0 [] rfl own0 ⟨b, off, none⟩ j cap _ rfl (RT.out _ hS) ONE1 (by unfold maxLen; omega) (by omega) (Nat.le_refl _) hS ?_
        intro v2 W2 own2 hS2
        rw [Nat.zero_add, List.nil_append] at own2
        have hS := hS2
        refine hK _ _ ⟨hS, ?_⟩
        clear hK K own0 hS2
        try simp only [Act.put, List.setIfInBounds_toArray, List.set_cons_zero, List.set_cons_succ]
        refine gs_run (i := 9) rfl (by kernel_rfl) (by rfl) (fun K hK => ?_)
        go_simp
        refine (FW _).mono ?_
        rintro e wf ⟨rfl, rfl⟩
        refine hK _ _ ⟨hS, ?_⟩
        clear hK K
        try simp only [Act.put, List.setIfInBounds_toArray, List.set_cons_zero, List.set_cons_succ]
        refine gs_run (i := 10) rfl (by kernel_rfl) (by rfl) (fun K hK => ?_)
        go_simp
        have hS3 : Below wr.heap.size wr (World.alloc W2 (.cells #[.string (str y)] 9)) := hS.alloc hS.size _
        refine hK _ _ ⟨hS3, ?_⟩
        clear hK K
        have own3 := own2.alloc (.cells #[.string (str y)] 9)
        have rd3 : RdV (World.alloc W2 (.cells #[.string (str y)] 9)) (.slice (some ⟨W2.heap.size, 0, none⟩) 1 1) [sv y] := rdv_block (cs := #[.string (str y)]) (heap_alloc_new _ _) 1 rfl (by decide)
        obtain ⟨W3, hW3⟩ : ∃ W, W = (World.alloc W2 (.cells #[.string (str y)] 9)) := ⟨_, rfl⟩
        rw [← hW3]
        rw [← hW3] at hS3 own3 rd3
        have hS := hS3
        generalize W2.heap.size = nb at rd3 ⊢
        clear hW3 hS3 own2
        try simp only [Act.put, List.setIfInBounds_toArray, List.set_cons_zero, List.set_cons_succ]
        refine gs_run (i := 11) rfl (by kernel_rfl) (by rfl) (fun K hK => ?_)
        refine wp_app_rdv wr (.tmp 42) (.tmp 48) 27 rfl wr.heap.size 9 i0 (.string ⟨#[]⟩) 16 Tryd.underlying27 hi hz0 hz1 hz2 rfl _ j _ rfl own3 ⟨nb, 0, none⟩ 1 1 _ rfl rd3 ONE2 (by unfold maxLen; omega) (by omega) (Nat.le_refl _) hS ?_
        intro v4 W4 own4 hS4
        have hS := hS4
        refine hK _ _ ⟨hS, ?_⟩
        clear hK K own3 hS4 rd3
        try simp only [Act.put, List.setIfInBounds_toArray, List.set_cons_zero, List.set_cons_succ]
        refine gs_run (i := 16) rfl (by kernel_rfl) (by rfl) (fun K hK => ?_)
        refine wp_app_rdv wr (.tmp 49) (.tmp 53) 27 rfl wr.heap.size 9 i0 (.string ⟨#[]⟩) 16 Tryd.underlying27 hi hz0 hz1 hz2 rfl _ (j + 1) _ rfl own4 (frA b off cap (j + 1)) (n - (j + 1)) (cap - (j + 1)) _ rfl (RF.out _ hS) ONE3 (by unfold maxLen; omega) (by omega) (Nat.le_refl _) hS ?_
        intro v5 W5 own5 hS5
        have hS := hS5
        refine hK _ _ ⟨hS, ?_⟩
        clear hK K own4 hS5
        try simp only [Act.put, List.setIfInBounds_toArray, List.set_cons_zero, List.set_cons_succ]
        refine gs_take (i := 17) (d := (some 1)) (v := ?_) rfl rfl (by kernel_rfl) (fun _ _ _ h => h) (by rfl) hS (fun w' hb' => ?_) ?_
        rotate_left
        · (try go_simp); (try with_reducible rfl)
        try simp only [Act.put, List.setIfInBounds_toArray, List.set_cons_zero, List.set_cons_succ]
        refine gs_done (by kernel_rfl) ?_
        have rdn := own_rdv own5
        rw [HST.out] at rdn
        clear ONE1 ONE2 ONE3 own5
        go_wp2_with fail
        exact ⟨⟨j + 1, A ++ [47] ++ y, by omega, by push_cast; rfl, by simp, HJ, by simp; omega, rdn, bel.trans (hS.mono bel.size)⟩, by simp [intOf]; omega⟩
    · obtain rfl : j = n := by omega
      have hFn : F.length = j := by omega
      have hmF : mixL F L j = F := by unfold mixL; rw [List.take_of_length_le (by omega), List.drop_eq_nil_of_le (by omega), List.append_nil]
      rw [hmF] at rdv
      have hA' : A = joinL F := by have := hA.out; rwa [List.take_of_length_le (by omega)] at this
      have rdv' := rdv
      obtain ⟨ao1, cap1, elv, hcap1, hcm1, -, -⟩ := rdv'
      rw [List.length_map, hFn] at elv hcap1
      subst elv
      have JN := Lib.hid (fun w tab (h : RdV w (.slice ao1 j cap1) (F.map sv)) => join_any (.slice ao1 j cap1) F w tab h (by rw [← hA']; omega) (by omega))
      rw [← hA'] at JN
      have AI := refIs_any A (by unfold maxLen; omega)
      have KI := refIs_any k hk
      have AW := awake_any
      have LP := Lib.hid (fun w tab => list_any k hk w tab)
      have RD := Lib.hid rdv
      unfold maxLen at hcm1
      clear hmF hA' hA hFn hLn hFL rdv hk
      cases hbA : isB A with
      | true =>
        rw [hbA] at AI JN
        clear hbA
        go_wp2_with fail
        refine (JN.out _ tab RD.out).mono ?_
        rintro e w1 ⟨rfl, g⟩
        have tab := tab.below g
        have bel := chain bel g
        clear g JN RD
        go_wp2_with (first | ((with_reducible refine (AI.at _ tab).mono ?_); rintro e w' ⟨rfl, g⟩; have tab := tab.below g; have bel := chain bel g; clear g))
        refine (LP.out _ tab).mono ?_
        rintro e w2 ⟨v9, rfl, own9, g⟩
        have tab := tab.below g
        have bel := chain bel g
        have rd9 := own_rdv own9
        clear g LP own9
        cases hbk : isB k with
        | false =>
          rw [hbk] at KI
          have hp : partsB k = [] := by unfold partsB; rw [hbk]; rfl
          rw [hp] at rd9
          obtain ⟨ao9, cap9, rfl, hc9, hm9, -, -⟩ := rd9
          clear hp hbk
          go_wp2_with (first | ((with_reducible refine (KI.at _ tab).mono ?_); rintro e w' ⟨rfl, g⟩; have tab := tab.below g; have bel := chain bel g; clear g) | ((with_reducible refine (AW.at _ tab).mono ?_); rintro e w' ⟨rfl, g⟩; have tab := tab.below g; have bel := chain bel g; clear g))
          go_ret
          exact ⟨rfl, bel⟩
        | true =>
          rw [hbk] at KI
          have hk24 := isB_len hbk
          have hp : partsB k = splitL k := by unfold partsB; rw [hbk]; rfl
          rw [hp] at rd9
          have hjk : joinL (splitL k) = k := by unfold splitL; rw [join_parts]; rfl
          have hne : splitL k ≠ [] := partsGo_ne [] k
          have hpl : (splitL k).length ≤ k.length + 1 := partsGo_len k []
          have RP := Lib.hid (fun w => refParts_any k hk24 w)
          have JB := Lib.hid (fun v w tab (h : RdV w v ((splitL k).map sv)) => join_any v (splitL k) w tab h (by rw [hjk]; omega) (by omega))
          rw [hjk, hbk] at JB
          obtain ⟨P, hP⟩ : ∃ P, P = splitL k := ⟨_, rfl⟩
          obtain ⟨m, hm⟩ : ∃ m, m = P.length := ⟨_, rfl⟩
          rw [← hP] at rd9 JB RP hne hpl
          have hm0 : 0 < m := by rw [hm]; exact List.length_pos_iff.2 hne
          have hm25 : m ≤ 25 := by omega
          have HM := Lib.hid hm
          clear hp hjk hne hpl hbk hP hm hk24
          go_wp2_with (first | ((with_reducible refine (KI.at _ tab).mono ?_); rintro e w' ⟨rfl, g⟩; have rd9 := rd9.below g (Nat.le_refl _); have tab := tab.below g; have bel := chain bel g; clear g))
          refine (RP.out _).mono ?_
          rintro e w3 ⟨v10, rfl, rd10, g⟩
          have tab := tab.below g
          have bel := chain bel g
          have rd9 := rd9.below g (Nat.le_refl _)
          have RD9 := Lib.hid rd9
          obtain ⟨ao9, cap9, e9, hc9, hm9, -, hx9⟩ := rd9
          obtain ⟨ao10, cap10, e10, hc10, hm10, -, hx10⟩ := rd10
          rw [List.length_map, ← HM.out] at e9 hc9 hx9 e10 hc10 hx10
          obtain ⟨b9, off9, rfl, hb9, hcl9⟩ := hx9 hm0
          obtain ⟨b10, off10, rfl, hb10, hcl10⟩ := hx10 hm0
          subst e9
          subst e10
          have HC9 := Lib.hid hcl9
          have HC10 := Lib.hid hcl10
          unfold maxLen at hm9 hm10
          clear g RP hx9 hx10 hcl9 hcl10
          go_wp2_with fail
          go_loopw [11] (fun i wq => ∃ q : Nat, q ≤ m ∧ i = .int .i64 (q : Int) ∧ Below w3.heap.size w3 wq) (fun i _ => m - (intOf i).toNat)
          case atStart => exact ⟨0, Nat.zero_le _, rfl, Below.refl _ _⟩
          case round =>
            rename_i wq _
            obtain ⟨q, hq, rfl, belq⟩ := hrel
            by_cases hqm : q < m
            · have hqP : q < P.length := by rw [← HM.out]; exact hqm
              have c9 := (belq.cell (p := ⟨b9, off9 + q, none⟩) hb9).trans (HC9.out q hqm)
              have c10 := (belq.cell (p := ⟨b10, off10 + q, none⟩) hb10).trans (HC10.out q hqm)
              rw [List.getElem?_map, List.getElem?_eq_getElem hqP] at c9 c10
              simp only [Option.map_some, sv] at c9 c10
              generalize P[q] = pq at c9 c10
              clear hqP
              go_wp2_with fail
              go_quiet (fail)
              have belq := below_drewN (k := nq) belq
              go_wp2_with fail
              exact ⟨⟨q + 1, by omega, by push_cast; rfl, belq⟩, by simp [intOf]; omega⟩
            · obtain rfl : q = m := by omega
              have tab := tab.below belq
              have bel := chain bel belq
              have RDQ := Lib.hid (RD9.out.below belq (Nat.le_refl _))
              clear belq
              go_wp2_with fail
              refine (JB.out _ _ tab RDQ.out).mono ?_
              rintro e w5 ⟨rfl, g⟩
              have tab := tab.below g
              have bel := chain bel g
              clear g
              go_wp2_with (first | ((with_reducible refine (AW.at _ tab).mono ?_); rintro e w' ⟨rfl, g⟩; have tab := tab.below g; have bel := chain bel g; clear g))
              go_ret
              exact ⟨rfl, bel⟩
      | false =>
        rw [hbA] at AI JN
        clear hbA
        go_wp2_with fail
        refine (JN.out _ tab RD.out).mono ?_
        rintro e w1 ⟨rfl, g⟩
        have tab := tab.below g
        have bel := chain bel g
        clear g JN RD
        go_wp2_with (first | ((with_reducible refine (AI.at _ tab).mono ?_); rintro e w' ⟨rfl, g⟩; have tab := tab.below g; have bel := chain bel g; clear g))
        refine (LP.out _ tab).mono ?_
        rintro e w2 ⟨v9, rfl, own9, g⟩
        have tab := tab.below g
        have bel := chain bel g
        have rd9 := own_rdv own9
        clear g LP own9
        cases hbk : isB k with
        | false =>
          rw [hbk] at KI
          have hp : partsB k = [] := by unfold partsB; rw [hbk]; rfl
          rw [hp] at rd9
          obtain ⟨ao9, cap9, rfl, hc9, hm9, -, -⟩ := rd9
          clear hp hbk
          go_wp2_with (first | ((with_reducible refine (KI.at _ tab).mono ?_); rintro e w' ⟨rfl, g⟩; have tab := tab.below g; have bel := chain bel g; clear g) | ((with_reducible refine (AW.at _ tab).mono ?_); rintro e w' ⟨rfl, g⟩; have tab := tab.below g; have bel := chain bel g; clear g))
          go_ret
          exact ⟨rfl, bel⟩
        | true =>
          rw [hbk] at KI
          have hk24 := isB_len hbk
          have hp : partsB k = splitL k := by unfold partsB; rw [hbk]; rfl
          rw [hp] at rd9
          have hjk : joinL (splitL k) = k := by unfold splitL; rw [join_parts]; rfl
          have hne : splitL k ≠ [] := partsGo_ne [] k
          have hpl : (splitL k).length ≤ k.length + 1 := partsGo_len k []
          have RP := Lib.hid (fun w => refParts_any k hk24 w)
          have JB := Lib.hid (fun v w tab (h : RdV w v ((splitL k).map sv)) => join_any v (splitL k) w tab h (by rw [hjk]; omega) (by omega))
          rw [hjk, hbk] at JB
          obtain ⟨P, hP⟩ : ∃ P, P = splitL k := ⟨_, rfl⟩
          obtain ⟨m, hm⟩ : ∃ m, m = P.length := ⟨_, rfl⟩
          rw [← hP] at rd9 JB RP hne hpl
          have hm0 : 0 < m := by rw [hm]; exact List.length_pos_iff.2 hne
          have hm25 : m ≤ 25 := by omega
          have HM := Lib.hid hm
          clear hp hjk hne hpl hbk hP hm hk24
          go_wp2_with (first | ((with_reducible refine (KI.at _ tab).mono ?_); rintro e w' ⟨rfl, g⟩; have rd9 := rd9.below g (Nat.le_refl _); have tab := tab.below g; have bel := chain bel g; clear g))
          refine (RP.out _).mono ?_
          rintro e w3 ⟨v10, rfl, rd10, g⟩
          have tab := tab.below g
          have bel := chain bel g
          have rd9 := rd9.below g (Nat.le_refl _)
          have RD9 := Lib.hid rd9
          obtain ⟨ao9, cap9, e9, hc9, hm9, -, hx9⟩ := rd9
          obtain ⟨ao10, cap10, e10, hc10, hm10, -, hx10⟩ := rd10
          rw [List.length_map, ← HM.out] at e9 hc9 hx9 e10 hc10 hx10
          obtain ⟨b9, off9, rfl, hb9, hcl9⟩ := hx9 hm0
          obtain ⟨b10, off10, rfl, hb10, hcl10⟩ := hx10 hm0
          subst e9
          subst e10
          have HC9 := Lib.hid hcl9
          have HC10 := Lib.hid hcl10
          unfold maxLen at hm9 hm10
          clear g RP hx9 hx10 hcl9 hcl10
          go_wp2_with fail
          go_loopw [11] (fun i wq => ∃ q : Nat, q ≤ m ∧ i = .int .i64 (q : Int) ∧ Below w3.heap.size w3 wq) (fun i _ => m - (intOf i).toNat)
          case atStart => exact ⟨0, Nat.zero_le _, rfl, Below.refl _ _⟩
          case round =>
            rename_i wq _
            obtain ⟨q, hq, rfl, belq⟩ := hrel
            by_cases hqm : q < m
            · have hqP : q < P.length := by rw [← HM.out]; exact hqm
              have c9 := (belq.cell (p := ⟨b9, off9 + q, none⟩) hb9).trans (HC9.out q hqm)
              have c10 := (belq.cell (p := ⟨b10, off10 + q, none⟩) hb10).trans (HC10.out q hqm)
              rw [List.getElem?_map, List.getElem?_eq_getElem hqP] at c9 c10
              simp only [Option.map_some, sv] at c9 c10
              generalize P[q] = pq at c9 c10
              clear hqP
              go_wp2_with fail
              go_quiet (fail)
              have belq := below_drewN (k := nq) belq
              go_wp2_with fail
              exact ⟨⟨q + 1, by omega, by push_cast; rfl, belq⟩, by simp [intOf]; omega⟩
            · obtain rfl : q = m := by omega
              have tab := tab.below belq
              have bel := chain bel belq
              have RDQ := Lib.hid (RD9.out.below belq (Nat.le_refl _))
              clear belq
              go_wp2_with fail
              refine (JB.out _ _ tab RDQ.out).mono ?_
              rintro e w5 ⟨rfl, g⟩
              have tab := tab.below g
              have bel := chain bel g
              clear g
              go_wp2_with (first | ((with_reducible refine (AW.at _ tab).mono ?_); rintro e w' ⟨rfl, g⟩; have tab := tab.below g; have bel := chain bel g; clear g))
              go_ret
              exact ⟨rfl, bel⟩
set_option maxRecDepth 100000 in
set_option maxHeartbeats 1000000 in
theorem parts_cut (K0 k : List UInt8) (L F : List (List UInt8)) (L0 : List (List UInt8)) (n : Nat) (v : Value) (w : World) (tab0 : TabAt w) (hLn : n = L.length) (hn : n ≤ 30) (hFL : F.length = L.length) (hFy : ∀ j, j < n → F.getD j [] = (L.getD j []).take 60) (hLm : ∀ j, j < n → (L.getD j []).length ≤ maxLen)
    (hL0 : L = L0.take 30) (hbig : 30 < L0.length) (h0 : RdV w v (L0.map sv)) (hk : k.length ≤ maxLen) (FK : ∀ w, Calls Tryd.prog 8 #[.string (str K0)] w fun e w' => e = .returned (.string (str k)) ∧ w = w') :
    Calls Tryd.prog 4 #[.string (str K0), v] w fun e w' => e = .returned (.bool true) ∧ Below w.heap.size w w' := by
  obtain ⟨i0, hi, hz0, hz1, hz2⟩ := info_parts strinfo
  have h0' := h0
  obtain ⟨ao, cap, rfl, hcap, hcm, -, -⟩ := h0'
  rw [List.length_map] at hcap h0 ⊢
  obtain ⟨n0, hn0⟩ : ∃ n0, n0 = L0.length := ⟨_, rfl⟩
  rw [← hn0] at hcap h0 hbig ⊢
  have h1 := h0.short 30 (by omega)
  rw [← List.map_take, ← hL0] at h1
  have H0 := Lib.hid h1
  clear h1 hL0 hn0
  have hdec : decide ((30 : Int) < (n0 : Int)) = true := by simp; omega
  have HFY := Lib.hid hFy
  have HLM := Lib.hid hLm
  have HLN := Lib.hid hLn
  have HFL := Lib.hid hFL
  clear h0 hFy hLm hLn hFL
  unfold maxLen at hcm
  go_enter Tryd.func4, Tryd.ntmps4
  go_wp2_with (go_at_call 8; refine (FK _).mono ?_; rintro e w' ⟨rfl, rfl⟩)
  go_loopw [1, 5, 6] (fun lv al i wr => ∃ (j : Nat) (A : List UInt8), j ≤ n ∧ i = .int .i64 (j : Int) ∧ al = .string (str A) ∧ Hid (A = joinL (F.take j)) ∧ A.length ≤ 61 * j ∧ RdV wr lv ((mixL F L j).map sv) ∧ Below w.heap.size w wr) (fun _ _ i _ => n - (intOf i).toNat)
  case atStart => exact ⟨0, [], Nat.zero_le _, rfl, rfl, rfl, by simp, by simpa [mixL] using H0.out, Below.refl _ _⟩
  case round =>
    obtain ⟨j, A, hjn, rfl, rfl, hA, hAl, rdv, bel⟩ := hrel
    have tab := tab0.below bel
    have hLn := HLN.out
    have hFL := HFL.out
    by_cases hj : j < n
    · have hmid := mix_at hFL (hLn ▸ hj : j < L.length)
      have hml := mix_len hFL (hLn ▸ hjn : j ≤ L.length)
      have hst := mix_step hFL (hLn ▸ hj : j < L.length)
      have hjo := join_step (F := F) (j := j) (by omega)
      have hfy : F.getD j [] = (L.getD j []).take 60 := HFY.out j hj
      have hxm : (L.getD j []).length ≤ maxLen := HLM.out j hj
      obtain ⟨x, ex⟩ : ∃ x, x = L.getD j [] := ⟨_, rfl⟩
      obtain ⟨y, ey⟩ : ∃ y, y = F.getD j [] := ⟨_, rfl⟩
      have FW0 := fun w => few_same x (by rw [ex]; exact hxm) w
      rw [← ex] at hfy hmid
      rw [← ey] at hfy hst hjo
      rw [← hfy] at FW0
      have FW : ∀ w, Calls Tryd.prog 8 #[.string (str x)] w fun e w' => e = .returned (.string (str y)) ∧ w = w' := fun w => (FW0 w).mono fun e w' h => ⟨h.1, h.2.symm⟩
      have hy60 : y.length ≤ 60 := by rw [hfy]; exact List.length_take_le _ _
      obtain ⟨ao, cap, elv, hcap, hcm, hnone, hcells⟩ := rdv
      rw [List.length_map, hml, ← hLn] at elv hcap hcells
      subst elv
      obtain ⟨b, off, rfl, hb, hcs⟩ := hcells (by omega)
      have hcell : wr.cell? ⟨b, off + j, none⟩ = some (.string (str x)) := by rw [hcs j hj, List.getElem?_map, hmid]; rfl
      have rdw : RdV wr (.slice (some ⟨b, off, none⟩) n cap) ((mixL F L j).map sv) := ⟨_, cap, by rw [List.length_map, hml, ← hLn], by rw [List.length_map, hml, ← hLn]; exact hcap, hcm, by simp, fun _ => ⟨b, off, rfl, hb, by rw [List.length_map, hml, ← hLn]; exact hcs⟩⟩
      have RT : Hid (∀ w', Below wr.heap.size wr w' → RdV w' (.slice (some ⟨b, off, none⟩) j cap) (((mixL F L j).map sv).take j)) := Lib.hid fun w' h => (rdw.below h (Nat.le_refl _)).short j (Nat.le_of_lt hj)
      have RF : Hid (∀ w', Below wr.heap.size wr w' → RdV w' (.slice (some (frA b off cap (j + 1))) (n - (j + 1)) (cap - (j + 1))) (((mixL F L j).map sv).drop (j + 1))) := Lib.hid fun w' h => rdv_from (rdw.below h (Nat.le_refl _)) (j + 1) (by omega)
      have ONE : ∀ l : List (List UInt8), ∀ u ∈ l.map sv, u.oneCell' = true := fun l u hu => by obtain ⟨z, _, rfl⟩ := List.mem_map.1 hu; rfl
      have ONE1 : ∀ u ∈ ((mixL F L j).map sv).take j, u.oneCell' = true := fun u hu => ONE _ u (List.mem_of_mem_take hu)
      have ONE2 : ∀ u ∈ [sv y], u.oneCell' = true := ONE [y]
      have ONE3 : ∀ u ∈ ((mixL F L j).map sv).drop (j + 1), u.oneCell' = true := fun u hu => ONE _ u (List.mem_of_mem_drop hu)
      have HST : Hid (((mixL F L j).map sv).take j ++ [sv y] ++ ((mixL F L j).map sv).drop (j + 1) = (mixL F L (j + 1)).map sv) := by
        show _ = _
        rw [← hst]; simp
      have HO1 := Lib.hid ONE1
      have HO2 := Lib.hid ONE2
      have HO3 := Lib.hid ONE3
      have hwr : wr.heap.size ≤ wr.heap.size := Nat.le_refl _
      have eij : IntKind.i64.wrap ((j : Int) + 1) = (j : Int) + 1 := by rw [IntKind.wrap_i64]; omega
      have hji : (j : Int) < (n : Int) := by omega
      have hzA : (str A).size = A.length := str_size A
      have hzy : (str y).size = y.length := str_size y
      have hap1 := str_append A [47]
      have hap2 := str_append (A ++ [47]) y
      have hap3 := str_append A y
      have hzA2 : (str (A ++ [47])).size = A.length + 1 := by rw [str_size]; simp
      have s47 : (ByteArray.mk #[47]).size = 1 := rfl
      have hap1' : str A ++ (ByteArray.mk #[47]) = str (A ++ [47]) := hap1
      clear hLn hFL ONE ONE1 ONE2 ONE3 hst hmid hml hcs hcells rdw hnone hfy hxm FW0 ex ey hap1
      by_cases hj0 : j = 0
      · rw [if_pos hj0] at hjo
        have HJ : Hid (A ++ y = joinL (F.take (j + 1))) := by
          show _ = _
          rw [hjo]
          have := hA.out
          rw [hj0] at this
          rw [this]; rfl
        have hj0' : ¬ (0 : Int) < (j : Int) := by omega
        clear hjo hj0 hA hap1' hap2
        go_wp2_with (go_at_call 8; refine (FW _).mono ?_; rintro e w' ⟨rfl, rfl⟩)
        have hS : Below wr.heap.size wr wr.drew := below_drewN (k := 1) (Below.refl _ _)
        have ONE1 := HO1.out
        have ONE2 := HO2.out
        have ONE3 := HO3.out
        refine gs_start (S := fun w' => Below wr.heap.size wr w') (by kernel_rfl) ?_
        refine gs_take (i := 1) (d := (some 39)) (v := ?_) rfl rfl (by kernel_rfl) (fun _ _ _ h => h) (by rfl) hS (fun w' hb' => ?_) ?_
        rotate_left
        · (try go_simp); (try with_reducible rfl)
        try simp only [Act.put, List.setIfInBounds_toArray, List.set_cons_zero, List.set_cons_succ]
        refine gs_take (i := 2) (d := (some 40)) (v := ?_) rfl rfl (by kernel_rfl) (fun _ _ _ h => h) (by rfl) hS (fun w' hb' => ?_) ?_
        rotate_left
        · (try go_simp); (try with_reducible rfl)
        try simp only [Act.put, List.setIfInBounds_toArray, List.set_cons_zero, List.set_cons_succ]
        refine gs_take (i := 3) (d := (some 41)) (v := ?_) rfl rfl (by kernel_rfl) (fun _ _ _ h => h) (by rfl) hS (fun w' hb' => ?_) ?_
        rotate_left
        · (refine sl_to_op _ _ (.tmp 39) (.tmp 40) b off n cap j ?_ ?_ ?_ (Nat.le_of_lt hj) hcap hcm w' <;> rfl); (try go_simp); (try with_reducible rfl)
        try simp only [Act.put, List.setIfInBounds_toArray, List.set_cons_zero, List.set_cons_succ]
        refine gs_take (i := 5) (d := (some 43)) (v := ?_) rfl rfl (by kernel_rfl) (fun _ _ _ h => h) (by rfl) hS (fun w' hb' => ?_) ?_
        rotate_left
        · (try go_simp); (try with_reducible rfl)
        try simp only [Act.put, List.setIfInBounds_toArray, List.set_cons_zero, List.set_cons_succ]
        refine gs_take (i := 6) (d := (some 44)) (v := ?_) rfl rfl (by kernel_rfl) (fun _ _ _ h => h) (by rfl) hS (fun w' hb' => ?_) ?_
        rotate_left
        · (try go_simp); (try with_reducible rfl)
        try simp only [Act.put, List.setIfInBounds_toArray, List.set_cons_zero, List.set_cons_succ]
        refine gs_take (i := 7) (d := (some 45)) (v := ?_) rfl rfl (by kernel_rfl) (fun _ _ _ h => h) (by rfl) hS (fun w' hb' => ?_) ?_
        rotate_left
        · (try go_simp); (try with_reducible rfl)
        try simp only [Act.put, List.setIfInBounds_toArray, List.set_cons_zero, List.set_cons_succ]
        refine gs_take (i := 8) (d := (some 46)) (v := ?_) rfl rfl (by kernel_rfl) (fun _ _ _ h => h) (by rfl) hS (fun w' hb' => ?_) ?_
        rotate_left
        · have zc := (hb'.cell (p := ⟨b, off + j, none⟩) hb).trans hcell; (try go_simp); (try with_reducible rfl)
        try simp only [Act.put, List.setIfInBounds_toArray, List.set_cons_zero, List.set_cons_succ]
        refine gs_take (i := 12) (d := (some 50)) (v := ?_) rfl rfl (by kernel_rfl) (fun _ _ _ h => h) (by rfl) hS (fun w' hb' => ?_) ?_
        rotate_left
        · (try go_simp); (try with_reducible rfl)
        try simp only [Act.put, List.setIfInBounds_toArray, List.set_cons_zero, List.set_cons_succ]
        refine gs_take (i := 13) (d := (some 51)) (v := ?_) rfl rfl (by kernel_rfl) (fun _ _ _ h => h) (by rfl) hS (fun w' hb' => ?_) ?_
        rotate_left
        · (try go_simp); (try with_reducible rfl)
        try simp only [Act.put, List.setIfInBounds_toArray, List.set_cons_zero, List.set_cons_succ]
        refine gs_take (i := 14) (d := (some 52)) (v := ?_) rfl rfl (by kernel_rfl) (fun _ _ _ h => h) (by rfl) hS (fun w' hb' => ?_) ?_
        rotate_left
        · (try go_simp); (try with_reducible rfl)
        try simp only [Act.put, List.setIfInBounds_toArray, List.set_cons_zero, List.set_cons_succ]
        refine gs_take (i := 15) (d := (some 53)) (v := ?_) rfl rfl (by kernel_rfl) (fun _ _ _ h => h) (by rfl) hS (fun w' hb' => ?_) ?_
        rotate_left
        · (refine sl_from_op _ _ (.tmp 50) (.tmp 52) b off n cap j ?_ ?_ ?_ hj hcap hcm w' <;> rfl); (try go_simp); (try with_reducible rfl)
        try simp only [Act.put, List.setIfInBounds_toArray, List.set_cons_zero, List.set_cons_succ]
        refine gs_run (i := 0) rfl (by kernel_rfl) (by rfl) (fun K hK => ?_)
        go_simp
        have hS : Below wr.heap.size wr (World.drew (World.alloc wr (.cells #[] 9))) := below_drewN (k := 1) ((Below.refl _ _).alloc (Nat.le_refl _) _)
        refine hK _ _ ⟨hS, ?_⟩
        clear hK K
        have own0 : World.ownsRow (World.drew (World.alloc wr (.cells #[] 9))) wr.heap.size 9 1 (.slice (some ⟨wr.heap.size, 0, none⟩) 0 0) 0 [] := (World.ownsRow_lit wr #[] 0 (Nat.le_refl _) (by decide) rfl).drew
        obtain ⟨WA, hWA⟩ : ∃ W, W = (World.drew (World.alloc wr (.cells #[] 9))) := ⟨_, rfl⟩
        rw [← hWA]
        rw [← hWA] at hS own0
        clear hWA
        try simp only [Act.put, List.setIfInBounds_toArray, List.set_cons_zero, List.set_cons_succ]
        refine gs_run (i := 4) rfl (by kernel_rfl) (by rfl) (fun K hK => ?_)
        refine wp_app_rdv wr (.tmp 38) (.tmp 41) 27 rfl wr.heap.size 9 i0 (.string ⟨#[]⟩) 16 Tryd.underlying27 hi hz0 hz1 hz2 rfl _ 0 [] rfl own0 ⟨b, off, none⟩ j cap _ rfl (RT.out _ hS) ONE1 (by unfold maxLen; omega) (by omega) (Nat.le_refl _) hS ?_
        intro v2 W2 own2 hS2
        rw [Nat.zero_add, List.nil_append] at own2
        have hS := hS2
        refine hK _ _ ⟨hS, ?_⟩
        clear hK K own0 hS2
        try simp only [Act.put, List.setIfInBounds_toArray, List.set_cons_zero, List.set_cons_succ]
        refine gs_run (i := 9) rfl (by kernel_rfl) (by rfl) (fun K hK => ?_)
        go_simp
        refine (FW _).mono ?_
        rintro e wf ⟨rfl, rfl⟩
        refine hK _ _ ⟨hS, ?_⟩
        clear hK K
        try simp only [Act.put, List.setIfInBounds_toArray, List.set_cons_zero, List.set_cons_succ]
        refine gs_run (i := 10) rfl (by kernel_rfl) (by rfl) (fun K hK => ?_)
        go_simp
        have hS3 : Below wr.heap.size wr (World.alloc W2 (.cells #[.string (str y)] 9)) := hS.alloc hS.size _
        refine hK _ _ ⟨hS3, ?_⟩
        clear hK K
        have own3 := own2.alloc (.cells #[.string (str y)] 9)
        have rd3 : RdV (World.alloc W2 (.cells #[.string (str y)] 9)) (.slice (some ⟨W2.heap.size, 0, none⟩) 1 1) [sv y] := rdv_block (cs := #[.string (str y)]) (heap_alloc_new _ _) 1 rfl (by decide)
        obtain ⟨W3, hW3⟩ : ∃ W, W = (World.alloc W2 (.cells #[.string (str y)] 9)) := ⟨_, rfl⟩
        rw [← hW3]
        rw [← hW3] at hS3 own3 rd3
        have hS := hS3
        generalize W2.heap.size = nb at rd3 ⊢
        clear hW3 hS3 own2
        try simp only [Act.put, List.setIfInBounds_toArray, List.set_cons_zero, List.set_cons_succ]
        refine gs_run (i := 11) rfl (by kernel_rfl) (by rfl) (fun K hK => ?_)
        refine wp_app_rdv wr (.tmp 42) (.tmp 48) 27 rfl wr.heap.size 9 i0 (.string ⟨#[]⟩) 16 Tryd.underlying27 hi hz0 hz1 hz2 rfl _ j _ rfl own3 ⟨nb, 0, none⟩ 1 1 _ rfl rd3 ONE2 (by unfold maxLen; omega) (by omega) (Nat.le_refl _) hS ?_
        intro v4 W4 own4 hS4
        have hS := hS4
        refine hK _ _ ⟨hS, ?_⟩
        clear hK K own3 hS4 rd3
        try simp only [Act.put, List.setIfInBounds_toArray, List.set_cons_zero, List.set_cons_succ]
        refine gs_run (i := 16) rfl (by kernel_rfl) (by rfl) (fun K hK => ?_)
        refine wp_app_rdv wr (.tmp 49) (.tmp 53) 27 rfl wr.heap.size 9 i0 (.string ⟨#[]⟩) 16 Tryd.underlying27 hi hz0 hz1 hz2 rfl _ (j + 1) _ rfl own4 (frA b off cap (j + 1)) (n - (j + 1)) (cap - (j + 1)) _ rfl (RF.out _ hS) ONE3 (by unfold maxLen; omega) (by omega) (Nat.le_refl _) hS ?_
        intro v5 W5 own5 hS5
        have hS := hS5
        refine hK _ _ ⟨hS, ?_⟩
        clear hK K own4 hS5
        try simp only [Act.put, List.setIfInBounds_toArray, List.set_cons_zero, List.set_cons_succ]
        refine gs_take (i := 17) (d := (some 1)) (v := ?_) rfl rfl (by kernel_rfl) (fun _ _ _ h => h) (by rfl) hS (fun w' hb' => ?_) ?_
        rotate_left
        · (try go_simp); (try with_reducible rfl)
        try simp only [Act.put, List.setIfInBounds_toArray, List.set_cons_zero, List.set_cons_succ]
        refine gs_done (by kernel_rfl) ?_
        have rdn := own_rdv own5
        rw [HST.out] at rdn
        clear ONE1 ONE2 ONE3 own5
        go_wp2_with fail
        exact ⟨⟨j + 1, A ++ y, by omega, by push_cast; rfl, rfl, HJ, by simp; omega, rdn, bel.trans (hS.mono bel.size)⟩, by simp [intOf]; omega⟩
      · rw [if_neg hj0] at hjo
        have HJ : Hid (A ++ [47] ++ y = joinL (F.take (j + 1))) := by
          show _ = _
          rw [hjo, hA.out]
        have hj0' : (0 : Int) < (j : Int) := by omega
        clear hjo hj0 hA hap3
        go_wp2_with (go_at_call 8; refine (FW _).mono ?_; rintro e w' ⟨rfl, rfl⟩)
        have hS : Below wr.heap.size wr wr.drew := below_drewN (k := 1) (Below.refl _ _)
        have ONE1 := HO1.out
        have ONE2 := HO2.out
        have ONE3 := HO3.out
        refine gs_start (S := fun w' => Below wr.heap.size wr w') (by kernel_rfl) ?_
        refine gs_take (i := 1) (d := (some 39)) (v := ?_) rfl rfl (by kernel_rfl) (fun _ _ _ h => h) (by rfl) hS (fun w' hb' => ?_) ?_
        rotate_left
        · (try go_simp); (try with_reducible rfl)
        try simp only [Act.put, List.setIfInBounds_toArray, List.set_cons_zero, List.set_cons_succ]
        refine gs_take (i := 2) (d := (some 40)) (v := ?_) rfl rfl (by kernel_rfl) (fun _ _ _ h => h) (by rfl) hS (fun w' hb' => ?_) ?_
        rotate_left
        · (try go_simp); (try with_reducible rfl)
        try simp only [Act.put, List.setIfInBounds_toArray, List.set_cons_zero, List.set_cons_succ]
        refine gs_take (i := 3) (d := (some 41)) (v := ?_) rfl rfl (by kernel_rfl) (fun _ _ _ h => h) (by rfl) hS (fun w' hb' => ?_) ?_
        rotate_left
        · (refine sl_to_op _ _ (.tmp 39) (.tmp 40) b off n cap j ?_ ?_ ?_ (Nat.le_of_lt hj) hcap hcm w' <;> rfl); (try go_simp); (try with_reducible rfl)
        try simp only [Act.put, List.setIfInBounds_toArray, List.set_cons_zero, List.set_cons_succ]
        refine gs_take (i := 5) (d := (some 43)) (v := ?_) rfl rfl (by kernel_rfl) (fun _ _ _ h => h) (by rfl) hS (fun w' hb' => ?_) ?_
        rotate_left
        · (try go_simp); (try with_reducible rfl)
        try simp only [Act.put, List.setIfInBounds_toArray, List.set_cons_zero, List.set_cons_succ]
        refine gs_take (i := 6) (d := (some 44)) (v := ?_) rfl rfl (by kernel_rfl) (fun _ _ _ h => h) (by rfl) hS (fun w' hb' => ?_) ?_
        rotate_left
        · (try go_simp); (try with_reducible rfl)
        try simp only [Act.put, List.setIfInBounds_toArray, List.set_cons_zero, List.set_cons_succ]
        refine gs_take (i := 7) (d := (some 45)) (v := ?_) rfl rfl (by kernel_rfl) (fun _ _ _ h => h) (by rfl) hS (fun w' hb' => ?_) ?_
        rotate_left
        · (try go_simp); (try with_reducible rfl)
        try simp only [Act.put, List.setIfInBounds_toArray, List.set_cons_zero, List.set_cons_succ]
        refine gs_take (i := 8) (d := (some 46)) (v := ?_) rfl rfl (by kernel_rfl) (fun _ _ _ h => h) (by rfl) hS (fun w' hb' => ?_) ?_
        rotate_left
        · have zc := (hb'.cell (p := ⟨b, off + j, none⟩) hb).trans hcell; (try go_simp); (try with_reducible rfl)
        try simp only [Act.put, List.setIfInBounds_toArray, List.set_cons_zero, List.set_cons_succ]
        refine gs_take (i := 12) (d := (some 50)) (v := ?_) rfl rfl (by kernel_rfl) (fun _ _ _ h => h) (by rfl) hS (fun w' hb' => ?_) ?_
        rotate_left
        · (try go_simp); (try with_reducible rfl)
        try simp only [Act.put, List.setIfInBounds_toArray, List.set_cons_zero, List.set_cons_succ]
        refine gs_take (i := 13) (d := (some 51)) (v := ?_) rfl rfl (by kernel_rfl) (fun _ _ _ h => h) (by rfl) hS (fun w' hb' => ?_) ?_
        rotate_left
        · (try go_simp); (try with_reducible rfl)
        try simp only [Act.put, List.setIfInBounds_toArray, List.set_cons_zero, List.set_cons_succ]
        refine gs_take (i := 14) (d := (some 52)) (v := ?_) rfl rfl (by kernel_rfl) (fun _ _ _ h => h) (by rfl) hS (fun w' hb' => ?_) ?_
        rotate_left
        · (try go_simp); (try with_reducible rfl)
        try simp only [Act.put, List.setIfInBounds_toArray, List.set_cons_zero, List.set_cons_succ]
        refine gs_take (i := 15) (d := (some 53)) (v := ?_) rfl rfl (by kernel_rfl) (fun _ _ _ h => h) (by rfl) hS (fun w' hb' => ?_) ?_
        rotate_left
        · (refine sl_from_op _ _ (.tmp 50) (.tmp 52) b off n cap j ?_ ?_ ?_ hj hcap hcm w' <;> rfl); (try go_simp); (try with_reducible rfl)
        try simp only [Act.put, List.setIfInBounds_toArray, List.set_cons_zero, List.set_cons_succ]
        refine gs_run (i := 0) rfl (by kernel_rfl) (by rfl) (fun K hK => ?_)
        go_simp
        have hS : Below wr.heap.size wr (World.drew (World.alloc wr (.cells #[] 9))) := below_drewN (k := 1) ((Below.refl _ _).alloc (Nat.le_refl _) _)
        refine hK _ _ ⟨hS, ?_⟩
        clear hK K
        have own0 : World.ownsRow (World.drew (World.alloc wr (.cells #[] 9))) wr.heap.size 9 1 (.slice (some ⟨wr.heap.size, 0, none⟩) 0 0) 0 [] := (World.ownsRow_lit wr #[] 0 (Nat.le_refl _) (by decide) rfl).drew
        obtain ⟨WA, hWA⟩ : ∃ W, W = (World.drew (World.alloc wr (.cells #[] 9))) := ⟨_, rfl⟩
        rw [← hWA]
        rw [← hWA] at hS own0
        clear hWA
        try simp only [Act.put, List.setIfInBounds_toArray, List.set_cons_zero, List.set_cons_succ]
        refine gs_run (i := 4) rfl (by kernel_rfl) (by rfl) (fun K hK => ?_)
        refine wp_app_rdv wr (.tmp 38) (.tmp 41) 27 rfl wr.heap.size 9 i0 (.string ⟨#[]⟩) 16 Tryd.underlying27 hi hz0 hz1 hz2 rfl _ 0 [] rfl own0 ⟨b, off, none⟩ j cap _ rfl (RT.out _ hS) ONE1 (by unfold maxLen; omega) (by omega) (Nat.le_refl _) hS ?_
        intro v2 W2 own2 hS2
        rw [Nat.zero_add, List.nil_append] at own2
        have hS := hS2
        refine hK _ _ ⟨hS, ?_⟩
        clear hK K own0 hS2
        try simp only [Act.put, List.setIfInBounds_toArray, List.set_cons_zero, List.set_cons_succ]
        refine gs_run (i := 9) rfl (by kernel_rfl) (by rfl) (fun K hK => ?_)
        go_simp
        refine (FW _).mono ?_
        rintro e wf ⟨rfl, rfl⟩
        refine hK _ _ ⟨hS, ?_⟩
        clear hK K
        try simp only [Act.put, List.setIfInBounds_toArray, List.set_cons_zero, List.set_cons_succ]
        refine gs_run (i := 10) rfl (by kernel_rfl) (by rfl) (fun K hK => ?_)
        go_simp
        have hS3 : Below wr.heap.size wr (World.alloc W2 (.cells #[.string (str y)] 9)) := hS.alloc hS.size _
        refine hK _ _ ⟨hS3, ?_⟩
        clear hK K
        have own3 := own2.alloc (.cells #[.string (str y)] 9)
        have rd3 : RdV (World.alloc W2 (.cells #[.string (str y)] 9)) (.slice (some ⟨W2.heap.size, 0, none⟩) 1 1) [sv y] := rdv_block (cs := #[.string (str y)]) (heap_alloc_new _ _) 1 rfl (by decide)
        obtain ⟨W3, hW3⟩ : ∃ W, W = (World.alloc W2 (.cells #[.string (str y)] 9)) := ⟨_, rfl⟩
        rw [← hW3]
        rw [← hW3] at hS3 own3 rd3
        have hS := hS3
        generalize W2.heap.size = nb at rd3 ⊢
        clear hW3 hS3 own2
        try simp only [Act.put, List.setIfInBounds_toArray, List.set_cons_zero, List.set_cons_succ]
        refine gs_run (i := 11) rfl (by kernel_rfl) (by rfl) (fun K hK => ?_)
        refine wp_app_rdv wr (.tmp 42) (.tmp 48) 27 rfl wr.heap.size 9 i0 (.string ⟨#[]⟩) 16 Tryd.underlying27 hi hz0 hz1 hz2 rfl _ j _ rfl own3 ⟨nb, 0, none⟩ 1 1 _ rfl rd3 ONE2 (by unfold maxLen; omega) (by omega) (Nat.le_refl _) hS ?_
        intro v4 W4 own4 hS4
        have hS := hS4
        refine hK _ _ ⟨hS, ?_⟩
        clear hK K own3 hS4 rd3
        try simp only [Act.put, List.setIfInBounds_toArray, List.set_cons_zero, List.set_cons_succ]
        refine gs_run (i := 16) rfl (by kernel_rfl) (by rfl) (fun K hK => ?_)
        refine wp_app_rdv wr (.tmp 49) (.tmp 53) 27 rfl wr.heap.size 9 i0 (.string ⟨#[]⟩) 16 Tryd.underlying27 hi hz0 hz1 hz2 rfl _ (j + 1) _ rfl own4 (frA b off cap (j + 1)) (n - (j + 1)) (cap - (j + 1)) _ rfl (RF.out _ hS) ONE3 (by unfold maxLen; omega) (by omega) (Nat.le_refl _) hS ?_
        intro v5 W5 own5 hS5
        have hS := hS5
        refine hK _ _ ⟨hS, ?_⟩
        clear hK K own4 hS5
        try simp only [Act.put, List.setIfInBounds_toArray, List.set_cons_zero, List.set_cons_succ]
        refine gs_take (i := 17) (d := (some 1)) (v := ?_) rfl rfl (by kernel_rfl) (fun _ _ _ h => h) (by rfl) hS (fun w' hb' => ?_) ?_
        rotate_left
        · (try go_simp); (try with_reducible rfl)
        try simp only [Act.put, List.setIfInBounds_toArray, List.set_cons_zero, List.set_cons_succ]
        refine gs_done (by kernel_rfl) ?_
        have rdn := own_rdv own5
        rw [HST.out] at rdn
        clear ONE1 ONE2 ONE3 own5
        go_wp2_with fail
        exact ⟨⟨j + 1, A ++ [47] ++ y, by omega, by push_cast; rfl, by simp, HJ, by simp; omega, rdn, bel.trans (hS.mono bel.size)⟩, by simp [intOf]; omega⟩
    · obtain rfl : j = n := by omega
      have hFn : F.length = j := by omega
      have hmF : mixL F L j = F := by unfold mixL; rw [List.take_of_length_le (by omega), List.drop_eq_nil_of_le (by omega), List.append_nil]
      rw [hmF] at rdv
      have hA' : A = joinL F := by have := hA.out; rwa [List.take_of_length_le (by omega)] at this
      have rdv' := rdv
      obtain ⟨ao1, cap1, elv, hcap1, hcm1, -, -⟩ := rdv'
      rw [List.length_map, hFn] at elv hcap1
      subst elv
      have JN := Lib.hid (fun w tab (h : RdV w (.slice ao1 j cap1) (F.map sv)) => join_any (.slice ao1 j cap1) F w tab h (by rw [← hA']; omega) (by omega))
      rw [← hA'] at JN
      have AI := refIs_any A (by unfold maxLen; omega)
      have KI := refIs_any k hk
      have AW := awake_any
      have LP := Lib.hid (fun w tab => list_any k hk w tab)
      have RD := Lib.hid rdv
      unfold maxLen at hcm1
      clear hmF hA' hA hFn hLn hFL rdv hk
      cases hbA : isB A with
      | true =>
        rw [hbA] at AI JN
        clear hbA
        go_wp2_with fail
        refine (JN.out _ tab RD.out).mono ?_
        rintro e w1 ⟨rfl, g⟩
        have tab := tab.below g
        have bel := chain bel g
        clear g JN RD
        go_wp2_with (first | ((with_reducible refine (AI.at _ tab).mono ?_); rintro e w' ⟨rfl, g⟩; have tab := tab.below g; have bel := chain bel g; clear g))
        refine (LP.out _ tab).mono ?_
        rintro e w2 ⟨v9, rfl, own9, g⟩
        have tab := tab.below g
        have bel := chain bel g
        have rd9 := own_rdv own9
        clear g LP own9
        cases hbk : isB k with
        | false =>
          rw [hbk] at KI
          have hp : partsB k = [] := by unfold partsB; rw [hbk]; rfl
          rw [hp] at rd9
          obtain ⟨ao9, cap9, rfl, hc9, hm9, -, -⟩ := rd9
          clear hp hbk
          go_wp2_with (first | ((with_reducible refine (KI.at _ tab).mono ?_); rintro e w' ⟨rfl, g⟩; have tab := tab.below g; have bel := chain bel g; clear g) | ((with_reducible refine (AW.at _ tab).mono ?_); rintro e w' ⟨rfl, g⟩; have tab := tab.below g; have bel := chain bel g; clear g))
          go_ret
          exact ⟨rfl, bel⟩
        | true =>
          rw [hbk] at KI
          have hk24 := isB_len hbk
          have hp : partsB k = splitL k := by unfold partsB; rw [hbk]; rfl
          rw [hp] at rd9
          have hjk : joinL (splitL k) = k := by unfold splitL; rw [join_parts]; rfl
          have hne : splitL k ≠ [] := partsGo_ne [] k
          have hpl : (splitL k).length ≤ k.length + 1 := partsGo_len k []
          have RP := Lib.hid (fun w => refParts_any k hk24 w)
          have JB := Lib.hid (fun v w tab (h : RdV w v ((splitL k).map sv)) => join_any v (splitL k) w tab h (by rw [hjk]; omega) (by omega))
          rw [hjk, hbk] at JB
          obtain ⟨P, hP⟩ : ∃ P, P = splitL k := ⟨_, rfl⟩
          obtain ⟨m, hm⟩ : ∃ m, m = P.length := ⟨_, rfl⟩
          rw [← hP] at rd9 JB RP hne hpl
          have hm0 : 0 < m := by rw [hm]; exact List.length_pos_iff.2 hne
          have hm25 : m ≤ 25 := by omega
          have HM := Lib.hid hm
          clear hp hjk hne hpl hbk hP hm hk24
          go_wp2_with (first | ((with_reducible refine (KI.at _ tab).mono ?_); rintro e w' ⟨rfl, g⟩; have rd9 := rd9.below g (Nat.le_refl _); have tab := tab.below g; have bel := chain bel g; clear g))
          refine (RP.out _).mono ?_
          rintro e w3 ⟨v10, rfl, rd10, g⟩
          have tab := tab.below g
          have bel := chain bel g
          have rd9 := rd9.below g (Nat.le_refl _)
          have RD9 := Lib.hid rd9
          obtain ⟨ao9, cap9, e9, hc9, hm9, -, hx9⟩ := rd9
          obtain ⟨ao10, cap10, e10, hc10, hm10, -, hx10⟩ := rd10
          rw [List.length_map, ← HM.out] at e9 hc9 hx9 e10 hc10 hx10
          obtain ⟨b9, off9, rfl, hb9, hcl9⟩ := hx9 hm0
          obtain ⟨b10, off10, rfl, hb10, hcl10⟩ := hx10 hm0
          subst e9
          subst e10
          have HC9 := Lib.hid hcl9
          have HC10 := Lib.hid hcl10
          unfold maxLen at hm9 hm10
          clear g RP hx9 hx10 hcl9 hcl10
          go_wp2_with fail
          go_loopw [11] (fun i wq => ∃ q : Nat, q ≤ m ∧ i = .int .i64 (q : Int) ∧ Below w3.heap.size w3 wq) (fun i _ => m - (intOf i).toNat)
          case atStart => exact ⟨0, Nat.zero_le _, rfl, Below.refl _ _⟩
          case round =>
            rename_i wq _
            obtain ⟨q, hq, rfl, belq⟩ := hrel
            by_cases hqm : q < m
            · have hqP : q < P.length := by rw [← HM.out]; exact hqm
              have c9 := (belq.cell (p := ⟨b9, off9 + q, none⟩) hb9).trans (HC9.out q hqm)
              have c10 := (belq.cell (p := ⟨b10, off10 + q, none⟩) hb10).trans (HC10.out q hqm)
              rw [List.getElem?_map, List.getElem?_eq_getElem hqP] at c9 c10
              simp only [Option.map_some, sv] at c9 c10
              generalize P[q] = pq at c9 c10
              clear hqP
              go_wp2_with fail
              go_quiet (fail)
              have belq := below_drewN (k := nq) belq
              go_wp2_with fail
              exact ⟨⟨q + 1, by omega, by push_cast; rfl, belq⟩, by simp [intOf]; omega⟩
            · obtain rfl : q = m := by omega
              have tab := tab.below belq
              have bel := chain bel belq
              have RDQ := Lib.hid (RD9.out.below belq (Nat.le_refl _))
              clear belq
              go_wp2_with fail
              refine (JB.out _ _ tab RDQ.out).mono ?_
              rintro e w5 ⟨rfl, g⟩
              have tab := tab.below g
              have bel := chain bel g
              clear g
              go_wp2_with (first | ((with_reducible refine (AW.at _ tab).mono ?_); rintro e w' ⟨rfl, g⟩; have tab := tab.below g; have bel := chain bel g; clear g))
              go_ret
              exact ⟨rfl, bel⟩
      | false =>
        rw [hbA] at AI JN
        clear hbA
        go_wp2_with fail
        refine (JN.out _ tab RD.out).mono ?_
        rintro e w1 ⟨rfl, g⟩
        have tab := tab.below g
        have bel := chain bel g
        clear g JN RD
        go_wp2_with (first | ((with_reducible refine (AI.at _ tab).mono ?_); rintro e w' ⟨rfl, g⟩; have tab := tab.below g; have bel := chain bel g; clear g))
        refine (LP.out _ tab).mono ?_
        rintro e w2 ⟨v9, rfl, own9, g⟩
        have tab := tab.below g
        have bel := chain bel g
        have rd9 := own_rdv own9
        clear g LP own9
        cases hbk : isB k with
        | false =>
          rw [hbk] at KI
          have hp : partsB k = [] := by unfold partsB; rw [hbk]; rfl
          rw [hp] at rd9
          obtain ⟨ao9, cap9, rfl, hc9, hm9, -, -⟩ := rd9
          clear hp hbk
          go_wp2_with (first | ((with_reducible refine (KI.at _ tab).mono ?_); rintro e w' ⟨rfl, g⟩; have tab := tab.below g; have bel := chain bel g; clear g) | ((with_reducible refine (AW.at _ tab).mono ?_); rintro e w' ⟨rfl, g⟩; have tab := tab.below g; have bel := chain bel g; clear g))
          go_ret
          exact ⟨rfl, bel⟩
        | true =>
          rw [hbk] at KI
          have hk24 := isB_len hbk
          have hp : partsB k = splitL k := by unfold partsB; rw [hbk]; rfl
          rw [hp] at rd9
          have hjk : joinL (splitL k) = k := by unfold splitL; rw [join_parts]; rfl
          have hne : splitL k ≠ [] := partsGo_ne [] k
          have hpl : (splitL k).length ≤ k.length + 1 := partsGo_len k []
          have RP := Lib.hid (fun w => refParts_any k hk24 w)
          have JB := Lib.hid (fun v w tab (h : RdV w v ((splitL k).map sv)) => join_any v (splitL k) w tab h (by rw [hjk]; omega) (by omega))
          rw [hjk, hbk] at JB
          obtain ⟨P, hP⟩ : ∃ P, P = splitL k := ⟨_, rfl⟩
          obtain ⟨m, hm⟩ : ∃ m, m = P.length := ⟨_, rfl⟩
          rw [← hP] at rd9 JB RP hne hpl
          have hm0 : 0 < m := by rw [hm]; exact List.length_pos_iff.2 hne
          have hm25 : m ≤ 25 := by omega
          have HM := Lib.hid hm
          clear hp hjk hne hpl hbk hP hm hk24
          go_wp2_with (first | ((with_reducible refine (KI.at _ tab).mono ?_); rintro e w' ⟨rfl, g⟩; have rd9 := rd9.below g (Nat.le_refl _); have tab := tab.below g; have bel := chain bel g; clear g))
          refine (RP.out _).mono ?_
          rintro e w3 ⟨v10, rfl, rd10, g⟩
          have tab := tab.below g
          have bel := chain bel g
          have rd9 := rd9.below g (Nat.le_refl _)
          have RD9 := Lib.hid rd9
          obtain ⟨ao9, cap9, e9, hc9, hm9, -, hx9⟩ := rd9
          obtain ⟨ao10, cap10, e10, hc10, hm10, -, hx10⟩ := rd10
          rw [List.length_map, ← HM.out] at e9 hc9 hx9 e10 hc10 hx10
          obtain ⟨b9, off9, rfl, hb9, hcl9⟩ := hx9 hm0
          obtain ⟨b10, off10, rfl, hb10, hcl10⟩ := hx10 hm0
          subst e9
          subst e10
          have HC9 := Lib.hid hcl9
          have HC10 := Lib.hid hcl10
          unfold maxLen at hm9 hm10
          clear g RP hx9 hx10 hcl9 hcl10
          go_wp2_with fail
          go_loopw [11] (fun i wq => ∃ q : Nat, q ≤ m ∧ i = .int .i64 (q : Int) ∧ Below w3.heap.size w3 wq) (fun i _ => m - (intOf i).toNat)
          case atStart => exact ⟨0, Nat.zero_le _, rfl, Below.refl _ _⟩
          case round =>
            rename_i wq _
            obtain ⟨q, hq, rfl, belq⟩ := hrel
            by_cases hqm : q < m
            · have hqP : q < P.length := by rw [← HM.out]; exact hqm
              have c9 := (belq.cell (p := ⟨b9, off9 + q, none⟩) hb9).trans (HC9.out q hqm)
              have c10 := (belq.cell (p := ⟨b10, off10 + q, none⟩) hb10).trans (HC10.out q hqm)
              rw [List.getElem?_map, List.getElem?_eq_getElem hqP] at c9 c10
              simp only [Option.map_some, sv] at c9 c10
              generalize P[q] = pq at c9 c10
              clear hqP
              go_wp2_with fail
              go_quiet (fail)
              have belq := below_drewN (k := nq) belq
              go_wp2_with fail
              exact ⟨⟨q + 1, by omega, by push_cast; rfl, belq⟩, by simp [intOf]; omega⟩
            · obtain rfl : q = m := by omega
              have tab := tab.below belq
              have bel := chain bel belq
              have RDQ := Lib.hid (RD9.out.below belq (Nat.le_refl _))
              clear belq
              go_wp2_with fail
              refine (JB.out _ _ tab RDQ.out).mono ?_
              rintro e w5 ⟨rfl, g⟩
              have tab := tab.below g
              have bel := chain bel g
              clear g
              go_wp2_with (first | ((with_reducible refine (AW.at _ tab).mono ?_); rintro e w' ⟨rfl, g⟩; have tab := tab.below g; have bel := chain bel g; clear g))
              go_ret
              exact ⟨rfl, bel⟩
theorem parts_row (s1 : ByteArray) (v : Value) (L0 : List (List UInt8)) (w : World) (h1 : s1.size ≤ maxLen) (h0 : RdV w v (L0.map sv)) (hm : ∀ x ∈ L0, x.length ≤ maxLen) (t : TabAt w) :
    Calls Tryd.prog 4 #[.string s1, v] w fun e w' => e = .returned (.bool true) ∧ Below w.heap.size w w' := by
  obtain ⟨K0, rfl, e1⟩ := str_any s1
  rw [← e1] at h1
  have FK : ∀ w, Calls Tryd.prog 8 #[.string (str K0)] w fun e w' => e = .returned (.string (str (K0.take 60))) ∧ w = w' := fun w => (few_same K0 h1 w).mono fun e w' h => ⟨h.1, h.2.symm⟩
  have hk := take_max K0 h1
  have gd : ∀ (L : List (List UInt8)), (∀ x ∈ L, x.length ≤ maxLen) → ∀ j, j < L.length → (L.getD j []).length ≤ maxLen := fun L h j hj => by
    have : L.getD j [] = L[j] := by simp [List.getD, hj]
    rw [this]; exact h _ (List.getElem_mem hj)
  have gf : ∀ (L : List (List UInt8)) j, j < L.length → (L.map (·.take 60)).getD j [] = (L.getD j []).take 60 := fun L j hj => by simp [List.getD, hj]
  by_cases h : L0.length ≤ 30
  · exact parts_way K0 (K0.take 60) L0 (L0.map (·.take 60)) L0.length v w t rfl h (by simp) (gf L0) (gd L0 hm) h0 hk FK
  · have hl : (L0.take 30).length = 30 := by simp; omega
    exact parts_cut K0 (K0.take 60) (L0.take 30) ((L0.take 30).map (·.take 60)) L0 30 v w t hl.symm (by omega) (by simp) (fun j hj => gf _ j (by omega)) (fun j hj => gd _ (fun x hx => hm x (List.mem_of_mem_take hx)) j (by omega)) rfl (by omega) h0 hk FK
end Go.Proofs.YtkcflkgfipfdfaaDoor
