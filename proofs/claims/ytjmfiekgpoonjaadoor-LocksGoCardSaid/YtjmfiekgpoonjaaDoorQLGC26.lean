/- Locks: the document's answers. Written by wip/tools/gen24c.py. -/
import Derived.Test.YtjmfiekgpoonjaaDoorQLGC25
namespace Go.Proofs.YtjmfiekgpoonjaaDoor
open Go Go.RowKit
set_option linter.unusedVariables false
set_option linter.unusedSimpArgs false
/-- For whom one waits, by the document. -/
def rwL (L : List Wt) (at' : List Nat) (i : Nat) : List Nat := if at'.getD i 0 = 0 then (List.range i).filter fun k => decide (at'.getD k 0 < 2) && clN L i k else []
def rmB (L : List Wt) (at' : List Nat) (i : Nat) : Bool := at'.getD i 0 == 0 && (rwL L at' i).length == 0
theorem rdi_getD {w : World} {a : Option Addr} {n c : Nat} {l : List Nat} (h : RdI w (.slice a n c) l) (i : Nat) (hi : i < l.length) : ∃ b off, a = some ⟨b, off, none⟩ ∧ b < w.heap.size ∧ w.cell? ⟨b, off + i, none⟩ = some (.int .i64 ((l.getD i 0 : Nat) : Int)) := by
  obtain ⟨b, off, h1, h2, h3⟩ := h.cell i hi
  exact ⟨b, off, h1, h2, by rw [h3]; simp [List.getD, hi]⟩
set_option maxRecDepth 100000 in
set_option maxHeartbeats 2000000 in
theorem rwaits_any (vl : Value) (ps : List WV) (L : List Wt) (vA : Value) (at' : List Nat) (i : Nat) (hi : i < L.length) (w : World) (tab : TabAt w) (h : RdL w vl ps L) (hz : SzL L) (hall : allB L = true) (hA : RdI w vA at') (hl : at'.length = L.length) :
    Calls Tryd.prog 26 #[vl, vA, .int .i64 (i : Int)] w (GivesI w (rwL L at' i)) := by
  obtain ⟨i0, hi0, hz0, hz1, hz2⟩ := info_parts intinfo
  obtain ⟨ao, cap, rfl, hc1, hc2, hr⟩ := h.open
  obtain ⟨aA, cA, rfl, hA1, hA2, hrA⟩ := hA.open
  rw [hl] at hrA hA1 ⊢
  have h64 : L.length ≤ 64 := by unfold allB at hall; rw [Bool.and_eq_true, decide_eq_true_eq] at hall; exact hall.1
  have HRD := Lib.hid hr
  have HRA := Lib.hid hrA
  have HL := Lib.hid hl
  have PR0 := Lib.hid (fun n (hn : n < L.length) k (hk : k < L.length) W (g : Below w.heap.size w W) => rpair_any (.slice (ps.getD k wv0).a1 (ps.getD k wv0).n1 (ps.getD k wv0).c1) (.slice (ps.getD k wv0).a2 (ps.getD k wv0).n2 (ps.getD k wv0).c2) (.slice (ps.getD n wv0).a1 (ps.getD n wv0).n1 (ps.getD n wv0).c1) (.slice (ps.getD n wv0).a2 (ps.getD n wv0).n2 (ps.getD n wv0).c2) (L.getD k wt0) (L.getD n wt0) W (tab.below g) ((hr.el k hk).below g).1 ((hr.el k hk).below g).2 ((hr.el n hn).below g).1 ((hr.el n hn).below g).2 (hz k hk) (hz n hn))
  have PCL := Lib.hid (fun n (hn : n < L.length) k (hk : k < L.length) => pair_cl hall hn hk)
  obtain ⟨Z, hZ⟩ : ∃ Z, Z = GivesI w (rwL L at' i) := ⟨_, rfl⟩
  rw [← hZ]
  have HZ := Lib.hid hZ
  have HRW := Lib.hid (show rwL L at' i = if at'.getD i 0 = 0 then (List.range i).filter fun k => decide (at'.getD k 0 < 2) && clN L i k else [] from rfl)
  have hii : (i : Int) < (L.length : Int) := by omega
  obtain ⟨bA, oA, rfl, lA0, cI0⟩ := rdi_getD hrA i (by omega)
  obtain ⟨x, hx⟩ : ∃ x, x = at'.getD i 0 := ⟨_, rfl⟩
  rw [← hx] at cI0 HRW
  clear h hr hA hrA hz tab hall hZ hx hl
  by_cases h0 : x = 0
  · have d0 : ((x : Int) == 0) = true := by rw [h0]; rfl
    have HRW' := Lib.hid (show rwL L at' i = (List.range i).filter fun k => decide (at'.getD k 0 < 2) && clN L i k by rw [HRW.out, if_pos h0])
    clear h0
    go_enter Tryd.func26, Tryd.ntmps26
    go_wp2_with fail
    go_loopw [7, 8] (fun o t wr => ∃ (k : Nat) (acc : List Nat), k ≤ i ∧ t = .int .i64 (k : Int) ∧ acc.length ≤ k ∧ Hid (acc = (List.range k).filter fun k => decide (at'.getD k 0 < 2) && clN L i k) ∧ wr.ownsRow w.heap.size 3 1 o acc.length (acc.map iv) ∧ Below w.heap.size w wr) (fun _ t _ => i - (intOf t).toNat)
    case atStart => exact ⟨0, [], Nat.zero_le _, rfl, Nat.le_refl _, Lib.hid rfl, World.ownsRow_nil _ _ _ _, Below.refl _ _⟩
    case round =>
      obtain ⟨k, acc, hk, rfl, hacc, HACC, hown, bel⟩ := hrel
      have cI := (bel.cell (p := ⟨bA, oA + i, none⟩) lA0).trans cI0
      by_cases hlt : k < i
      · have hki : (k : Int) < (i : Int) := by omega
        have hkL : (k : Int) < (L.length : Int) := by omega
        have hkL2 : k < L.length := by omega
        obtain ⟨_, _, e9, -, cK0⟩ := rdi_getD HRA.out k (by rw [HL.out]; exact hkL2)
        cases e9
        have cK := (bel.cell (p := ⟨bA, oA + k, none⟩) lA0).trans cK0
        have lA := Nat.lt_of_lt_of_le lA0 bel.size
        obtain ⟨b, off, hao, hb, s0, s1⟩ := rdl_cells (HRD.out.below bel (Nat.le_refl _)).row k (by rw [HRD.out.len]; omega)
        obtain ⟨b', off', hao', -, y0, y1⟩ := rdl_cells (HRD.out.below bel (Nat.le_refl _)).row i (by rw [HRD.out.len]; omega)
        rw [hao] at hao'
        cases hao'
        subst hao
        have PRX := fun W (g : Below wr.heap.size wr W) => PR0.out i hi k hkL2 W (chain bel g)
        rw [PCL.out i hi k hkL2] at PRX
        obtain ⟨R, hR⟩ : ∃ R, R = clN L i k := ⟨_, rfl⟩
        rw [← hR] at PRX
        obtain ⟨pk, hpk⟩ : ∃ p, p = ps.getD k wv0 := ⟨_, rfl⟩
        obtain ⟨pi, hpi⟩ : ∃ p, p = ps.getD i wv0 := ⟨_, rfl⟩
        rw [← hpk] at s0 s1 PRX
        rw [← hpi] at y0 y1 PRX
        have PRI := Lib.hid PRX
        have HST := Lib.hid (filt_range (fun k => decide (at'.getD k 0 < 2) && clN L i k) k)
        obtain ⟨y, hy⟩ : ∃ y, y = at'.getD k 0 := ⟨_, rfl⟩
        rw [← hy] at cK
        rw [← HACC.out, ← hR, ← hy] at HST
        have HB := Lib.hid bel
        have HO := Lib.hid hown
        clear hR hpk hpi PRX hy cK0 bel hown
        by_cases h2 : y < 2
        · have d2 : decide ((y : Int) < 2) = true := decide_eq_true (by omega)
          have d3 : decide (y < 2) = true := decide_eq_true h2
          cases R with
          | false =>
            have HA' := Lib.hid (show acc = (List.range (k + 1)).filter fun k => decide (at'.getD k 0 < 2) && clN L i k by rw [HST.out]; simp)
            go_wp2_with fail
            refine g_start (by kernel_rfl) ?_
            refine g_take (i := 0) (d := (some 21)) (v := ?_) rfl rfl (by kernel_rfl) (fun _ _ _ h => h) (by rfl) (fun w' hb' => ?_) ?_
            rotate_left
            · (try go_simp); (try with_reducible rfl)
            try simp only [Act.put, List.setIfInBounds_toArray, List.set_cons_zero, List.set_cons_succ]
            refine g_take (i := 1) (d := (some 22)) (v := ?_) rfl rfl (by kernel_rfl) (fun _ _ _ h => h) (by rfl) (fun w' hb' => ?_) ?_
            rotate_left
            · (try go_simp); (try with_reducible rfl)
            try simp only [Act.put, List.setIfInBounds_toArray, List.set_cons_zero, List.set_cons_succ]
            refine g_take (i := 2) (d := (some 23)) (v := ?_) rfl rfl (by kernel_rfl) (fun _ _ _ h => h) (by rfl) (fun w' hb' => ?_) ?_
            rotate_left
            · (try go_simp); (try with_reducible rfl)
            try simp only [Act.put, List.setIfInBounds_toArray, List.set_cons_zero, List.set_cons_succ]
            refine g_take (i := 3) (d := (some 24)) (v := ?_) rfl rfl (by kernel_rfl) (fun _ _ _ h => h) (by rfl) (fun w' hb' => ?_) ?_
            rotate_left
            · have z := (hb'.cell (p := ⟨bA, oA + k, none⟩) lA).trans cK; (try go_simp); (try with_reducible rfl)
            try simp only [Act.put, List.setIfInBounds_toArray, List.set_cons_zero, List.set_cons_succ]
            refine g_take (i := 4) (d := (some 25)) (v := ?_) rfl rfl (by kernel_rfl) (fun _ _ _ h => h) (by rfl) (fun w' hb' => ?_) ?_
            rotate_left
            · (try go_simp); (try with_reducible rfl)
            try simp only [Act.put, List.setIfInBounds_toArray, List.set_cons_zero, List.set_cons_succ]
            refine g_take (i := 5) (d := (some 26)) (v := ?_) rfl rfl (by kernel_rfl) (fun _ _ _ h => h) (by rfl) (fun w' hb' => ?_) ?_
            rotate_left
            · (try go_simp); (try with_reducible rfl)
            try simp only [Act.put, List.setIfInBounds_toArray, List.set_cons_zero, List.set_cons_succ]
            refine g_take (i := 6) (d := (some 27)) (v := ?_) rfl rfl (by kernel_rfl) (fun _ _ _ h => h) (by rfl) (fun w' hb' => ?_) ?_
            rotate_left
            · (try go_simp); (try with_reducible rfl)
            try simp only [Act.put, List.setIfInBounds_toArray, List.set_cons_zero, List.set_cons_succ]
            refine g_take (i := 7) (d := (some 28)) (v := ?_) rfl rfl (by kernel_rfl) (fun _ _ _ h => h) (by rfl) (fun w' hb' => ?_) ?_
            rotate_left
            · (try go_simp); (try with_reducible rfl)
            try simp only [Act.put, List.setIfInBounds_toArray, List.set_cons_zero, List.set_cons_succ]
            refine g_take (i := 8) (d := (some 29)) (v := ?_) rfl rfl (by kernel_rfl) (fun _ _ _ h => h) (by rfl) (fun w' hb' => ?_) ?_
            rotate_left
            · (try go_simp); (try with_reducible rfl)
            try simp only [Act.put, List.setIfInBounds_toArray, List.set_cons_zero, List.set_cons_succ]
            refine g_take (i := 9) (d := (some 30)) (v := ?_) rfl rfl (by kernel_rfl) (fun _ _ _ h => h) (by rfl) (fun w' hb' => ?_) ?_
            rotate_left
            · have z0 := (hb'.cell (p := ⟨b, off + k * 2, none⟩) hb).trans s0; have z1 := (hb'.cell (p := ⟨b, off + k * 2 + 1, none⟩) hb).trans s1; (try go_simp); (try with_reducible rfl)
            try simp only [Act.put, List.setIfInBounds_toArray, List.set_cons_zero, List.set_cons_succ]
            refine g_take (i := 10) (d := (some 31)) (v := ?_) rfl rfl (by kernel_rfl) (fun _ _ _ h => h) (by rfl) (fun w' hb' => ?_) ?_
            rotate_left
            · (try go_simp); (try with_reducible rfl)
            try simp only [Act.put, List.setIfInBounds_toArray, List.set_cons_zero, List.set_cons_succ]
            refine g_take (i := 11) (d := (some 32)) (v := ?_) rfl rfl (by kernel_rfl) (fun _ _ _ h => h) (by rfl) (fun w' hb' => ?_) ?_
            rotate_left
            · (try go_simp); (try with_reducible rfl)
            try simp only [Act.put, List.setIfInBounds_toArray, List.set_cons_zero, List.set_cons_succ]
            refine g_take (i := 12) (d := (some 33)) (v := ?_) rfl rfl (by kernel_rfl) (fun _ _ _ h => h) (by rfl) (fun w' hb' => ?_) ?_
            rotate_left
            · (try go_simp); (try with_reducible rfl)
            try simp only [Act.put, List.setIfInBounds_toArray, List.set_cons_zero, List.set_cons_succ]
            refine g_take (i := 13) (d := (some 34)) (v := ?_) rfl rfl (by kernel_rfl) (fun _ _ _ h => h) (by rfl) (fun w' hb' => ?_) ?_
            rotate_left
            · have z0 := (hb'.cell (p := ⟨b, off + i * 2, none⟩) hb).trans y0; have z1 := (hb'.cell (p := ⟨b, off + i * 2 + 1, none⟩) hb).trans y1; (try go_simp); (try with_reducible rfl)
            try simp only [Act.put, List.setIfInBounds_toArray, List.set_cons_zero, List.set_cons_succ]
            refine g_run (i := 14) rfl (by kernel_rfl) (by rfl) (fun K hK => ?_)
            go_simp; refine (PRI.out _ (Below.drew (Below.refl _ _))).mono ?_; rintro e w2 ⟨rfl, g⟩; have gg := Below.trans (Below.drew (Below.refl wr.heap.size wr)) g; refine hK _ _ ⟨g, ?_⟩; clear hK K g
            try simp only [Act.put, List.setIfInBounds_toArray, List.set_cons_zero, List.set_cons_succ]
            refine g_take (i := 15) (d := (some 36)) (v := ?_) rfl rfl (by kernel_rfl) (fun _ _ _ h => h) (by rfl) (fun w' hb' => ?_) ?_
            rotate_left
            · (try go_simp); (try with_reducible rfl)
            try simp only [Act.put, List.setIfInBounds_toArray, List.set_cons_zero, List.set_cons_succ]
            refine g_done (by kernel_rfl) ?_
            go_wp2_with fail
            exact ⟨⟨k + 1, acc, by omega, by push_cast; rfl, by omega, HA', own_keep HO.out gg, chain HB.out gg⟩, by simp [intOf]; omega⟩
          | true =>
            have HA' := Lib.hid (show acc ++ [k] = (List.range (k + 1)).filter fun k => decide (at'.getD k 0 < 2) && clN L i k by rw [HST.out]; simp [h2])
            go_wp2_with fail
            refine g_start (by kernel_rfl) ?_
            refine g_take (i := 0) (d := (some 21)) (v := ?_) rfl rfl (by kernel_rfl) (fun _ _ _ h => h) (by rfl) (fun w' hb' => ?_) ?_
            rotate_left
            · (try go_simp); (try with_reducible rfl)
            try simp only [Act.put, List.setIfInBounds_toArray, List.set_cons_zero, List.set_cons_succ]
            refine g_take (i := 1) (d := (some 22)) (v := ?_) rfl rfl (by kernel_rfl) (fun _ _ _ h => h) (by rfl) (fun w' hb' => ?_) ?_
            rotate_left
            · (try go_simp); (try with_reducible rfl)
            try simp only [Act.put, List.setIfInBounds_toArray, List.set_cons_zero, List.set_cons_succ]
            refine g_take (i := 2) (d := (some 23)) (v := ?_) rfl rfl (by kernel_rfl) (fun _ _ _ h => h) (by rfl) (fun w' hb' => ?_) ?_
            rotate_left
            · (try go_simp); (try with_reducible rfl)
            try simp only [Act.put, List.setIfInBounds_toArray, List.set_cons_zero, List.set_cons_succ]
            refine g_take (i := 3) (d := (some 24)) (v := ?_) rfl rfl (by kernel_rfl) (fun _ _ _ h => h) (by rfl) (fun w' hb' => ?_) ?_
            rotate_left
            · have z := (hb'.cell (p := ⟨bA, oA + k, none⟩) lA).trans cK; (try go_simp); (try with_reducible rfl)
            try simp only [Act.put, List.setIfInBounds_toArray, List.set_cons_zero, List.set_cons_succ]
            refine g_take (i := 4) (d := (some 25)) (v := ?_) rfl rfl (by kernel_rfl) (fun _ _ _ h => h) (by rfl) (fun w' hb' => ?_) ?_
            rotate_left
            · (try go_simp); (try with_reducible rfl)
            try simp only [Act.put, List.setIfInBounds_toArray, List.set_cons_zero, List.set_cons_succ]
            refine g_take (i := 5) (d := (some 26)) (v := ?_) rfl rfl (by kernel_rfl) (fun _ _ _ h => h) (by rfl) (fun w' hb' => ?_) ?_
            rotate_left
            · (try go_simp); (try with_reducible rfl)
            try simp only [Act.put, List.setIfInBounds_toArray, List.set_cons_zero, List.set_cons_succ]
            refine g_take (i := 6) (d := (some 27)) (v := ?_) rfl rfl (by kernel_rfl) (fun _ _ _ h => h) (by rfl) (fun w' hb' => ?_) ?_
            rotate_left
            · (try go_simp); (try with_reducible rfl)
            try simp only [Act.put, List.setIfInBounds_toArray, List.set_cons_zero, List.set_cons_succ]
            refine g_take (i := 7) (d := (some 28)) (v := ?_) rfl rfl (by kernel_rfl) (fun _ _ _ h => h) (by rfl) (fun w' hb' => ?_) ?_
            rotate_left
            · (try go_simp); (try with_reducible rfl)
            try simp only [Act.put, List.setIfInBounds_toArray, List.set_cons_zero, List.set_cons_succ]
            refine g_take (i := 8) (d := (some 29)) (v := ?_) rfl rfl (by kernel_rfl) (fun _ _ _ h => h) (by rfl) (fun w' hb' => ?_) ?_
            rotate_left
            · (try go_simp); (try with_reducible rfl)
            try simp only [Act.put, List.setIfInBounds_toArray, List.set_cons_zero, List.set_cons_succ]
            refine g_take (i := 9) (d := (some 30)) (v := ?_) rfl rfl (by kernel_rfl) (fun _ _ _ h => h) (by rfl) (fun w' hb' => ?_) ?_
            rotate_left
            · have z0 := (hb'.cell (p := ⟨b, off + k * 2, none⟩) hb).trans s0; have z1 := (hb'.cell (p := ⟨b, off + k * 2 + 1, none⟩) hb).trans s1; (try go_simp); (try with_reducible rfl)
            try simp only [Act.put, List.setIfInBounds_toArray, List.set_cons_zero, List.set_cons_succ]
            refine g_take (i := 10) (d := (some 31)) (v := ?_) rfl rfl (by kernel_rfl) (fun _ _ _ h => h) (by rfl) (fun w' hb' => ?_) ?_
            rotate_left
            · (try go_simp); (try with_reducible rfl)
            try simp only [Act.put, List.setIfInBounds_toArray, List.set_cons_zero, List.set_cons_succ]
            refine g_take (i := 11) (d := (some 32)) (v := ?_) rfl rfl (by kernel_rfl) (fun _ _ _ h => h) (by rfl) (fun w' hb' => ?_) ?_
            rotate_left
            · (try go_simp); (try with_reducible rfl)
            try simp only [Act.put, List.setIfInBounds_toArray, List.set_cons_zero, List.set_cons_succ]
            refine g_take (i := 12) (d := (some 33)) (v := ?_) rfl rfl (by kernel_rfl) (fun _ _ _ h => h) (by rfl) (fun w' hb' => ?_) ?_
            rotate_left
            · (try go_simp); (try with_reducible rfl)
            try simp only [Act.put, List.setIfInBounds_toArray, List.set_cons_zero, List.set_cons_succ]
            refine g_take (i := 13) (d := (some 34)) (v := ?_) rfl rfl (by kernel_rfl) (fun _ _ _ h => h) (by rfl) (fun w' hb' => ?_) ?_
            rotate_left
            · have z0 := (hb'.cell (p := ⟨b, off + i * 2, none⟩) hb).trans y0; have z1 := (hb'.cell (p := ⟨b, off + i * 2 + 1, none⟩) hb).trans y1; (try go_simp); (try with_reducible rfl)
            try simp only [Act.put, List.setIfInBounds_toArray, List.set_cons_zero, List.set_cons_succ]
            refine g_run (i := 14) rfl (by kernel_rfl) (by rfl) (fun K hK => ?_)
            go_simp; refine (PRI.out _ (Below.drew (Below.refl _ _))).mono ?_; rintro e w2 ⟨rfl, g⟩; have gg := Below.trans (Below.drew (Below.refl wr.heap.size wr)) g; refine hK _ _ ⟨g, ?_⟩; clear hK K g
            try simp only [Act.put, List.setIfInBounds_toArray, List.set_cons_zero, List.set_cons_succ]
            refine g_take (i := 15) (d := (some 36)) (v := ?_) rfl rfl (by kernel_rfl) (fun _ _ _ h => h) (by rfl) (fun w' hb' => ?_) ?_
            rotate_left
            · (try go_simp); (try with_reducible rfl)
            try simp only [Act.put, List.setIfInBounds_toArray, List.set_cons_zero, List.set_cons_succ]
            refine g_done (by kernel_rfl) ?_
            have hown := own_keep HO.out gg
            have bel := chain HB.out gg
            go_wp2_with (at_builtin; refine wpList_app1 w rfl (.tmp 37) (.tmp 39) 34 rfl w.heap.size 3 i0 (.int .i64 0) 8 Tryd.underlying34 hi0 hz0 hz1 hz2 rfl _ _ _ rfl hown _ (iv k) rfl rfl (by unfold maxLen; omega) (by omega) (Nat.le_refl _) bel ?_; intro v' w9 hown' hb')
            exact ⟨⟨k + 1, acc ++ [k], by omega, by push_cast; rfl, by simp; omega, HA', by simpa using hown', hb'⟩, by simp [intOf]; omega⟩
        · have d2 : decide ((y : Int) < 2) = false := decide_eq_false (by omega)
          have d3 : decide (y < 2) = false := decide_eq_false h2
          have HA' := Lib.hid (show acc = (List.range (k + 1)).filter fun k => decide (at'.getD k 0 < 2) && clN L i k by rw [HST.out]; simp [h2])
          go_wp2_with fail
          refine g_start (by kernel_rfl) ?_
          refine g_take (i := 0) (d := (some 21)) (v := ?_) rfl rfl (by kernel_rfl) (fun _ _ _ h => h) (by rfl) (fun w' hb' => ?_) ?_
          rotate_left
          · (try go_simp); (try with_reducible rfl)
          try simp only [Act.put, List.setIfInBounds_toArray, List.set_cons_zero, List.set_cons_succ]
          refine g_take (i := 1) (d := (some 22)) (v := ?_) rfl rfl (by kernel_rfl) (fun _ _ _ h => h) (by rfl) (fun w' hb' => ?_) ?_
          rotate_left
          · (try go_simp); (try with_reducible rfl)
          try simp only [Act.put, List.setIfInBounds_toArray, List.set_cons_zero, List.set_cons_succ]
          refine g_take (i := 2) (d := (some 23)) (v := ?_) rfl rfl (by kernel_rfl) (fun _ _ _ h => h) (by rfl) (fun w' hb' => ?_) ?_
          rotate_left
          · (try go_simp); (try with_reducible rfl)
          try simp only [Act.put, List.setIfInBounds_toArray, List.set_cons_zero, List.set_cons_succ]
          refine g_take (i := 3) (d := (some 24)) (v := ?_) rfl rfl (by kernel_rfl) (fun _ _ _ h => h) (by rfl) (fun w' hb' => ?_) ?_
          rotate_left
          · have z := (hb'.cell (p := ⟨bA, oA + k, none⟩) lA).trans cK; (try go_simp); (try with_reducible rfl)
          try simp only [Act.put, List.setIfInBounds_toArray, List.set_cons_zero, List.set_cons_succ]
          refine g_take (i := 4) (d := (some 25)) (v := ?_) rfl rfl (by kernel_rfl) (fun _ _ _ h => h) (by rfl) (fun w' hb' => ?_) ?_
          rotate_left
          · (try go_simp); (try with_reducible rfl)
          try simp only [Act.put, List.setIfInBounds_toArray, List.set_cons_zero, List.set_cons_succ]
          refine g_take (i := 5) (d := (some 26)) (v := ?_) rfl rfl (by kernel_rfl) (fun _ _ _ h => h) (by rfl) (fun w' hb' => ?_) ?_
          rotate_left
          · (try go_simp); (try with_reducible rfl)
          try simp only [Act.put, List.setIfInBounds_toArray, List.set_cons_zero, List.set_cons_succ]
          refine g_skip (i := 6) (d := (some 27)) rfl rfl (by kernel_rfl) (fun _ _ _ h => h) (by rfl) ?_
          try simp only [Act.put, List.setIfInBounds_toArray, List.set_cons_zero, List.set_cons_succ]
          refine g_skip (i := 7) (d := (some 28)) rfl rfl (by kernel_rfl) (fun _ _ _ h => h) (by rfl) ?_
          try simp only [Act.put, List.setIfInBounds_toArray, List.set_cons_zero, List.set_cons_succ]
          refine g_skip (i := 8) (d := (some 29)) rfl rfl (by kernel_rfl) (fun _ _ _ h => h) (by rfl) ?_
          try simp only [Act.put, List.setIfInBounds_toArray, List.set_cons_zero, List.set_cons_succ]
          refine g_skip (i := 9) (d := (some 30)) rfl rfl (by kernel_rfl) (fun _ _ _ h => h) (by rfl) ?_
          try simp only [Act.put, List.setIfInBounds_toArray, List.set_cons_zero, List.set_cons_succ]
          refine g_skip (i := 10) (d := (some 31)) rfl rfl (by kernel_rfl) (fun _ _ _ h => h) (by rfl) ?_
          try simp only [Act.put, List.setIfInBounds_toArray, List.set_cons_zero, List.set_cons_succ]
          refine g_skip (i := 11) (d := (some 32)) rfl rfl (by kernel_rfl) (fun _ _ _ h => h) (by rfl) ?_
          try simp only [Act.put, List.setIfInBounds_toArray, List.set_cons_zero, List.set_cons_succ]
          refine g_skip (i := 12) (d := (some 33)) rfl rfl (by kernel_rfl) (fun _ _ _ h => h) (by rfl) ?_
          try simp only [Act.put, List.setIfInBounds_toArray, List.set_cons_zero, List.set_cons_succ]
          refine g_skip (i := 13) (d := (some 34)) rfl rfl (by kernel_rfl) (fun _ _ _ h => h) (by rfl) ?_
          try simp only [Act.put, List.setIfInBounds_toArray, List.set_cons_zero, List.set_cons_succ]
          refine g_skip (i := 14) (d := (some 35)) rfl rfl (by kernel_rfl) (fun _ _ _ h => h) (by rfl) ?_
          try simp only [Act.put, List.setIfInBounds_toArray, List.set_cons_zero, List.set_cons_succ]
          refine g_take (i := 15) (d := (some 36)) (v := ?_) rfl rfl (by kernel_rfl) (fun _ _ _ h => h) (by rfl) (fun w' hb' => ?_) ?_
          rotate_left
          · (try go_simp); (try with_reducible rfl)
          try simp only [Act.put, List.setIfInBounds_toArray, List.set_cons_zero, List.set_cons_succ]
          refine g_done (by kernel_rfl) ?_
          go_wp2_with fail
          exact ⟨⟨k + 1, acc, by omega, by push_cast; rfl, by omega, HA', HO.out, HB.out.drew⟩, by simp [intOf]; omega⟩
      · obtain rfl : k = i := by omega
        have E := Lib.hid (show acc = rwL L at' k by rw [HACC.out, HRW'.out])
        go_wp2_with fail
        show Z (.returned _) _
        rw [HZ.out, ← E.out]
        obtain ⟨a9, n9, c9, e9⟩ := own_val hown
        subst e9
        exact ⟨_, _, _, rfl, hown, bel⟩
  · have d0 : ((x : Int) == 0) = false := by rw [beq_eq_false_iff_ne]; omega
    have HRW' := Lib.hid (show rwL L at' i = [] by rw [HRW.out, if_neg h0])
    clear h0
    go_enter Tryd.func26, Tryd.ntmps26
    go_wp2_with fail
    go_loopw [7, 8] (fun o t wr => o = .slice none 0 0 ∧ t = .int .i64 0 ∧ w = wr) (fun _ t _ => 0)
    case atStart => exact ⟨rfl, rfl, rfl⟩
    case round =>
      obtain ⟨rfl, rfl, rfl⟩ := hrel
      by_cases hz : 0 < i
      · have hz2 : (0 : Int) < (i : Int) := by omega
        go_wp2_with fail
        show Z (.returned _) _
        rw [HZ.out, HRW'.out]
        exact ⟨_, _, _, rfl, World.ownsRow_nil _ _ _ _, Below.refl _ _⟩
      · have hz2 : ¬ (0 : Int) < (i : Int) := by omega
        go_wp2_with fail
        show Z (.returned _) _
        rw [HZ.out, HRW'.out]
        exact ⟨_, _, _, rfl, World.ownsRow_nil _ _ _ _, Below.refl _ _⟩
set_option maxRecDepth 100000 in
theorem rmay_any24 (vl : Value) (ps : List WV) (L : List Wt) (vA : Value) (at' : List Nat) (i : Nat) (hi : i < L.length) (w : World) (tab : TabAt w) (h : RdL w vl ps L) (hz : SzL L) (hall : allB L = true) (hA : RdI w vA at') (hl : at'.length = L.length) :
    Calls Tryd.prog 48 #[vl, vA, .int .i64 (i : Int)] w fun e w' => e = .returned (.bool (rmB L at' i)) ∧ Below w.heap.size w w' := by
  obtain ⟨aA, cA, rfl, hA1, hA2, hrA⟩ := hA.open
  have WA := Lib.hid (rwaits_any vl ps L (.slice aA at'.length cA) at' i hi w tab h hz hall hrA hl)
  obtain ⟨bA, oA, rfl, lA0, cI0⟩ := rdi_getD hrA i (by omega)
  have hii : (i : Int) < (at'.length : Int) := by omega
  have hi2 : i < at'.length := by omega
  unfold rmB
  obtain ⟨x, hx⟩ : ∃ x, x = at'.getD i 0 := ⟨_, rfl⟩
  rw [← hx] at cI0 ⊢
  obtain ⟨l, hl9⟩ : ∃ l, l = rwL L at' i := ⟨_, rfl⟩
  rw [← hl9] at WA ⊢
  clear h hA hrA hz tab hall hx hl9 hl
  by_cases h0 : x = 0
  · have d0 : ((x : Int) == 0) = true := by rw [h0]; rfl
    have e0 : (x == 0) = true := by rw [h0]; rfl
    obtain ⟨R, hR⟩ : ∃ R, R = ((l.length : Int) == 0) := ⟨_, rfl⟩
    have HR := Lib.hid (show (l.length == 0) = R by rw [hR, Bool.eq_iff_iff]; simp)
    rw [e0]
    clear h0 e0
    go_enter Tryd.func48, Tryd.ntmps48
    go_wp2_with ((with_reducible refine (WA.out).mono ?_); rintro e w2 ⟨a, n, c, rfl, own, g⟩; (obtain ⟨-, hn⟩ := own_len own); subst hn; clear own)
    go_ret
    exact ⟨by rw [HR.out, hR]; first | done | rfl, g⟩
  · have d0 : ((x : Int) == 0) = false := by rw [beq_eq_false_iff_ne]; omega
    have e0 : (x == 0) = false := by rw [beq_eq_false_iff_ne]; exact h0
    rw [e0]
    clear h0 e0
    go_enter Tryd.func48, Tryd.ntmps48
    go_wp2_with fail
    go_ret
    exact ⟨rfl, Below.refl _ _⟩
set_option maxRecDepth 100000 in
set_option maxHeartbeats 1000000 in
theorem rready_any (vl : Value) (ps : List WV) (L : List Wt) (vA : Value) (at' : List Nat) (w : World) (tab : TabAt w) (h : RdL w vl ps L) (hz : SzL L) (hall : allB L = true) (hA : RdI w vA at') (hl : at'.length = L.length) :
    Calls Tryd.prog 29 #[vl, vA] w (GivesI w ((List.range L.length).filter (rmB L at'))) := by
  obtain ⟨i0, hi0, hz0, hz1, hz2⟩ := info_parts intinfo
  obtain ⟨ao, cap, rfl, hc1, hc2, hr⟩ := h.open
  have h64 : L.length ≤ 64 := by unfold allB at hall; rw [Bool.and_eq_true, decide_eq_true_eq] at hall; exact hall.1
  have MY := Lib.hid (fun i (hi : i < L.length) W (g : Below w.heap.size w W) => rmay_any24 (.slice ao L.length cap) ps L vA at' i hi W (tab.below g) (hr.below g (Nat.le_refl _)) hz hall (hA.below g (Nat.le_refl _)) hl)
  obtain ⟨Z, hZ⟩ : ∃ Z, Z = GivesI w ((List.range L.length).filter (rmB L at')) := ⟨_, rfl⟩
  rw [← hZ]
  have HZ := Lib.hid hZ
  clear h hr hA hz tab hall hZ hl
  go_enter Tryd.func29, Tryd.ntmps29
  go_wp2_with fail
  go_loopw [5, 6] (fun o t wr => ∃ (k : Nat) (acc : List Nat), k ≤ L.length ∧ t = .int .i64 (k : Int) ∧ acc.length ≤ k ∧ Hid (acc = (List.range k).filter (rmB L at')) ∧ wr.ownsRow w.heap.size 3 1 o acc.length (acc.map iv) ∧ Below w.heap.size w wr) (fun _ t _ => L.length - (intOf t).toNat)
  case atStart => exact ⟨0, [], Nat.zero_le _, rfl, Nat.le_refl _, Lib.hid rfl, World.ownsRow_nil _ _ _ _, Below.refl _ _⟩
  case round =>
    obtain ⟨k, acc, hk, rfl, hacc, HA, hown, bel⟩ := hrel
    by_cases hlt : k < L.length
    · have MA := MY.out k hlt wr bel
      have HST := Lib.hid (filt_range (rmB L at') k)
      obtain ⟨R, hR⟩ : ∃ R, R = rmB L at' k := ⟨_, rfl⟩
      rw [← hR, ← HA.out] at HST
      rw [← hR] at MA
      have HM := Lib.hid MA
      have hkk : (k : Int) < (L.length : Int) := by omega
      clear hR MA
      cases R with
      | false =>
        have HA' := Lib.hid (show acc = (List.range (k + 1)).filter (rmB L at') by rw [HST.out]; rfl)
        go_wp2_with fail
        refine HM.out.mono ?_
        rintro e w2 ⟨rfl, g⟩
        have hown := own_keep hown g
        have bel := chain bel g
        clear g
        go_wp2_with fail
        exact ⟨⟨k + 1, acc, by omega, by push_cast; rfl, by omega, HA', hown, bel⟩, by simp [intOf]; omega⟩
      | true =>
        have HA' := Lib.hid (show acc ++ [k] = (List.range (k + 1)).filter (rmB L at') by rw [HST.out]; rfl)
        go_wp2_with fail
        refine HM.out.mono ?_
        rintro e w2 ⟨rfl, g⟩
        have hown := own_keep hown g
        have bel := chain bel g
        clear g
        go_wp2_with (at_builtin; refine wpList_app1 w rfl (.tmp 17) (.tmp 19) 34 rfl w.heap.size 3 i0 (.int .i64 0) 8 Tryd.underlying34 hi0 hz0 hz1 hz2 rfl _ _ _ rfl hown _ (iv k) rfl rfl (by unfold maxLen; omega) (by omega) (Nat.le_refl _) bel ?_; intro v' w9 hown' hb')
        exact ⟨⟨k + 1, acc ++ [k], by omega, by push_cast; rfl, by simp; omega, HA', by simpa using hown', hb'⟩, by simp [intOf]; omega⟩
    · obtain rfl : k = L.length := by omega
      have E := Lib.hid (show acc = (List.range L.length).filter (rmB L at') from HA.out)
      go_wp2_with fail
      show Z (.returned _) _
      rw [HZ.out, ← E.out]
      obtain ⟨a9, n9, c9, e9⟩ := own_val hown
      subst e9
      exact ⟨_, _, _, rfl, hown, bel⟩
set_option maxRecDepth 100000 in
set_option maxHeartbeats 1000000 in
theorem are_any (vA : Value) (at' : List Nat) (far : Nat) (w : World) (hA : RdI w vA at') (h64 : at'.length ≤ 64) :
    Calls Tryd.prog 27 #[vA, .int .i64 (far : Int)] w (GivesI w ((List.range at'.length).filter fun i => at'.getD i 0 == far)) := by
  obtain ⟨i0, hi0, hz0, hz1, hz2⟩ := info_parts intinfo
  obtain ⟨aA, cA, rfl, hA1, hA2, hrA⟩ := hA.open
  have HRA := Lib.hid hrA
  obtain ⟨Z, hZ⟩ : ∃ Z, Z = GivesI w ((List.range at'.length).filter fun i => at'.getD i 0 == far) := ⟨_, rfl⟩
  rw [← hZ]
  have HZ := Lib.hid hZ
  clear hA hrA hZ
  go_enter Tryd.func27, Tryd.ntmps27
  go_wp2_with fail
  go_loopw [5, 6] (fun o t wr => ∃ (k : Nat) (acc : List Nat), k ≤ at'.length ∧ t = .int .i64 (k : Int) ∧ acc.length ≤ k ∧ Hid (acc = (List.range k).filter fun i => at'.getD i 0 == far) ∧ wr.ownsRow w.heap.size 3 1 o acc.length (acc.map iv) ∧ Below w.heap.size w wr) (fun _ t _ => at'.length - (intOf t).toNat)
  case atStart => exact ⟨0, [], Nat.zero_le _, rfl, Nat.le_refl _, Lib.hid rfl, World.ownsRow_nil _ _ _ _, Below.refl _ _⟩
  case round =>
    obtain ⟨k, acc, hk, rfl, hacc, HA, hown, bel⟩ := hrel
    by_cases hlt : k < at'.length
    · obtain ⟨bA, oA, rfl, lA0, cK0⟩ := rdi_getD HRA.out k hlt
      have cK := (bel.cell (p := ⟨bA, oA + k, none⟩) lA0).trans cK0
      have HST := Lib.hid (filt_range (fun i => at'.getD i 0 == far) k)
      obtain ⟨x, hx⟩ : ∃ x, x = at'.getD k 0 := ⟨_, rfl⟩
      rw [← HA.out, ← hx] at HST
      rw [← hx] at cK
      have hkk : (k : Int) < (at'.length : Int) := by omega
      clear hx cK0
      by_cases he : x = far
      · have dq : ((x : Int) == (far : Int)) = true := by rw [he]; simp
        have HA' := Lib.hid (show acc ++ [k] = (List.range (k + 1)).filter fun i => at'.getD i 0 == far by rw [HST.out, he]; simp)
        clear he
        go_wp2_with (at_builtin; refine wpList_app1 w rfl (.tmp 19) (.tmp 21) 34 rfl w.heap.size 3 i0 (.int .i64 0) 8 Tryd.underlying34 hi0 hz0 hz1 hz2 rfl _ _ _ rfl hown _ (iv k) rfl rfl (by unfold maxLen; omega) (by omega) (Nat.le_refl _) bel ?_; intro v' w9 hown' hb')
        exact ⟨⟨k + 1, acc ++ [k], by omega, by push_cast; rfl, by simp; omega, HA', by simpa using hown', hb'⟩, by simp [intOf]; omega⟩
      · have dq : ((x : Int) == (far : Int)) = false := by rw [beq_eq_false_iff_ne]; omega
        have HA' := Lib.hid (show acc = (List.range (k + 1)).filter fun i => at'.getD i 0 == far by rw [HST.out]; simp [he])
        clear he
        go_wp2_with fail
        exact ⟨⟨k + 1, acc, by omega, by push_cast; rfl, by omega, HA', hown, bel⟩, by simp [intOf]; omega⟩
    · obtain rfl : k = at'.length := by omega
      have E := Lib.hid (show acc = (List.range at'.length).filter fun i => at'.getD i 0 == far from HA.out)
      go_wp2_with fail
      show Z (.returned _) _
      rw [HZ.out, ← E.out]
      obtain ⟨a9, n9, c9, e9⟩ := own_val hown
      subst e9
      exact ⟨_, _, _, rfl, hown, bel⟩
end Go.Proofs.YtjmfiekgpoonjaaDoor
