/- Slots: the document's lay. Written by wip/tools/gen29t.py. -/
import Derived.Test.YtgmblgpfgdfnaaaDoorQSPC23
import Derived.Test.YtgmblgpfgdfnaaaDoorQSPC25
namespace Go.Proofs.YtgmblgpfgdfnaaaDoor
open Go Go.RowKit
set_option linter.unusedVariables false
set_option linter.unusedSimpArgs false
set_option maxRecDepth 100000
def noE (l : List Vt) (v : Vt) (k : Nat) : Prop := ∀ j (h : j < l.length), j < k → l[j].fr = v.fr → layE l v = 0
theorem own_drew {w : World} {base : Nat} {e : TypeId} {s : Nat} {v : Value} {n : Nat} {xs : List Value} (h : w.ownsRow base e s v n xs) : w.drew.ownsRow base e s v n xs := h
theorem noE_up {l : List Vt} {v : Vt} {k : Nat} (h : noE l v k) (hk : k < l.length) (h1 : l[k].fr = v.fr → layE l v = 0) : noE l v (k + 1) := by
  intro j hj hjk he
  rcases Nat.lt_or_ge j k with h2 | h2
  · exact h j hj h2 he
  · obtain rfl : j = k := by omega
    exact h1 he
theorem noE_end {l : List Vt} {v : Vt} (h : noE l v l.length) : layE l v = 0 := by
  cases hf : l.find? (fun x => decide (x.fr = v.fr)) with
  | none => unfold layE; rw [hf]
  | some y =>
    have hm := List.mem_of_find?_eq_some hf
    obtain ⟨j, hj, rfl⟩ := List.getElem_of_mem hm
    exact h j hj hj (by simpa using List.find?_some hf)
theorem layE_hit {l : List Vt} {v : Vt} (hs : areB l = true) {k : Nat} (hk : k < l.length) (he : l[k].fr = v.fr) : layE l v = if v.vw < l[k].vw then 18 else if l[k].vw = v.vw then (if l[k].tm = v.tm then 16 else 23) else 0 := by
  have hp : posV l v.fr = k := posV_of (by omega) (fun i h hik => by have := vt_at (are_sort hs) hik hk; omega) (fun _ => by omega)
  have hf : foundV l v.fr = true := by rw [foundV_at (by omega)]; simp only [hp]; simpa using he
  exact layE_yes (are_sort hs) hf (by simp only [hp])
theorem lay_end {l : List Vt} {v : Vt} (hs : areB l = true) : layL l v = l.take (posV l v.fr) ++ v :: l.filter (fun x => decide (v.fr < x.fr)) := by
  unfold layL; rw [filt_take (are_sort hs)]
set_option maxHeartbeats 4000000 in
theorem lay_any (v : Value) (l : List Vt) (a b c : Int) (w : World) (h : RdT w v l) (hs : areB l = true) :
    Calls Tryd.prog 30 #[v, .agg #[.int .i64 a, .int .i64 b, .int .i64 c]] w fun e w' => ∃ p n cc, e = .returned (.tuple #[.slice p n cc, .int .i64 ((layE l ⟨a, b, c⟩ : Nat) : Int)]) ∧ RdT w' (.slice p n cc) (if layE l ⟨a, b, c⟩ = 0 then layL l ⟨a, b, c⟩ else []) ∧ Below w.heap.size w w' := by
  obtain ⟨i0, hi, hz0, hz1, hz2⟩ := info_parts vote_info
  obtain ⟨ao, cap, rfl, hc, hm, hr⟩ := RdK.open h
  have hr : RdT w (.slice ao l.length cap) l := hr
  have h64 := are_len hs
  have HS := Lib.hid hs
  obtain ⟨E, hE⟩ : ∃ E, E = layE l ⟨a, b, c⟩ := ⟨_, rfl⟩
  rw [← hE]
  have HEE := Lib.hid hE.symm
  obtain ⟨Z, hZ⟩ : ∃ Z : Ending → World → Prop, Z = fun e w' => ∃ p n cc, e = .returned (.tuple #[.slice p n cc, .int .i64 ((E : Nat) : Int)]) ∧ RdT w' (.slice p n cc) (if E = 0 then layL l ⟨a, b, c⟩ else []) ∧ Below w.heap.size w w' := ⟨_, rfl⟩
  rw [← hZ]
  have HZ := Lib.hid hZ
  obtain ⟨W0, hW0⟩ : ∃ W0, W0 = w.alloc (.cells #[.int .i64 a, .int .i64 b, .int .i64 c] 26) := ⟨_, rfl⟩
  have q0 : W0.heap[w.heap.size]? = some (.cells #[.int .i64 a, .int .i64 b, .int .i64 c] 26 (0, 0)) := by rw [hW0]; exact heap_alloc_new _ _
  have B0 : Below w.heap.size w W0 := by rw [hW0]; exact (Below.refl _ _).alloc (Nat.le_refl _) _
  have HRD := Lib.hid (hr.below B0 (Nat.le_refl _))
  clear h hr hs hE hZ
  go_enter Tryd.func30, Tryd.ntmps30
  go_wp2_with fail
  rw [← hW0]
  clear hW0
  go_loopw [6, 7] (fun o' i wr => ∃ k : Nat, k ≤ l.length ∧ i = .int .i64 (k : Int) ∧ Hid (∀ j (h : j < l.length), j < k → l[j].fr < a) ∧ wr.ownsRow W0.heap.size 26 3 o' k ((l.take k).flatMap vtC) ∧ Below W0.heap.size W0 wr) (fun _ i _ => l.length - (intOf i).toNat)
  case atStart => exact ⟨0, Nat.zero_le _, rfl, Lib.hid (fun j _ h => absurd h (Nat.not_lt_zero _)), World.ownsRow_nil _ _ _ _, Below.refl _ _⟩
  case round =>
    obtain ⟨k, hk, rfl, HJ, hown, bel⟩ := hrel
    have HOW := Lib.hid hown
    clear hown
    by_cases hlt : k < l.length
    · have q1 := (bel.block _ (lt_of_block q0)).trans q0
      obtain ⟨pb, po, rfl, hpb, D0, D1, D2⟩ := rdt_cells HRD.out k hlt
      obtain ⟨y, hy⟩ : ∃ y, y = l[k] := ⟨_, rfl⟩
      have HY := Lib.hid hy
      rw [← hy] at D0 D1 D2
      clear hy
      obtain ⟨ya, yb, yc⟩ := y
      simp only at D0 D1 D2
      have C0 := (bel.cell (p := ⟨pb, po + k * 3, none⟩) hpb).trans D0
      have C1 := (bel.cell (p := ⟨pb, po + k * 3 + 1, none⟩) hpb).trans D1
      have C2 := (bel.cell (p := ⟨pb, po + k * 3 + 2, none⟩) hpb).trans D2
      have hpx := Nat.lt_of_lt_of_le hpb bel.size
      have hlk : (l.take k).length = k := by simp; omega
      have HO := Lib.hid (show World.ownsRow _ W0.heap.size 26 3 _ (l.take k).length ((l.take k).flatMap vtC) from by rw [hlk]; exact HOW.out)
      by_cases hya : ya < a
      · have fya : decide (ya < a) = true := decide_eq_true hya
        have HJ2 := Lib.hid (show ∀ j (h : j < l.length), j < k + 1 → l[j].fr < a from fun j hj hjk => by
          rcases Nat.lt_or_ge j k with h2 | h2
          · exact HJ.out j hj h2
          · obtain rfl : j = k := by omega
            rw [← HY.out]; exact hya)
        have HT2 := Lib.hid (show (l.take k) ++ [⟨ya, yb, yc⟩] = l.take (k + 1) by rw [List.take_succ_eq_append_getElem hlt, ← HY.out])
        go_wp2_with fail
        refine g_start (by kernel_rfl) ?_
        refine g_take (i := 0) (d := (some 9)) (v := ?_) rfl rfl (by kernel_rfl) (fun _ _ _ h => h) (by rfl) (fun w' hb' => ?_) ?_
        rotate_left
        · (try go_simp); (try with_reducible rfl)
        try simp only [Act.put, List.setIfInBounds_toArray, List.set_cons_zero, List.set_cons_succ]
        refine g_take (i := 1) (d := (some 10)) (v := ?_) rfl rfl (by kernel_rfl) (fun _ _ _ h => h) (by rfl) (fun w' hb' => ?_) ?_
        rotate_left
        · (try go_simp); (try with_reducible rfl)
        try simp only [Act.put, List.setIfInBounds_toArray, List.set_cons_zero, List.set_cons_succ]
        refine g_take (i := 2) (d := (some 11)) (v := ?_) rfl rfl (by kernel_rfl) (fun _ _ _ h => h) (by rfl) (fun w' hb' => ?_) ?_
        rotate_left
        · (try go_simp); (try with_reducible rfl)
        try simp only [Act.put, List.setIfInBounds_toArray, List.set_cons_zero, List.set_cons_succ]
        refine g_take (i := 3) (d := (some 12)) (v := ?_) rfl rfl (by kernel_rfl) (fun _ _ _ h => h) (by rfl) (fun w' hb' => ?_) ?_
        rotate_left
        · (try go_simp); (try with_reducible rfl)
        try simp only [Act.put, List.setIfInBounds_toArray, List.set_cons_zero, List.set_cons_succ]
        refine g_take (i := 4) (d := (some 13)) (v := ?_) rfl rfl (by kernel_rfl) (fun _ _ _ h => h) (by rfl) (fun w' hb' => ?_) ?_
        rotate_left
        · (try go_simp); (try with_reducible rfl)
        try simp only [Act.put, List.setIfInBounds_toArray, List.set_cons_zero, List.set_cons_succ]
        refine g_take (i := 5) (d := (some 14)) (v := ?_) rfl rfl (by kernel_rfl) (fun _ _ _ h => h) (by rfl) (fun w' hb' => ?_) ?_
        rotate_left
        · (try go_simp); (try with_reducible rfl)
        try simp only [Act.put, List.setIfInBounds_toArray, List.set_cons_zero, List.set_cons_succ]
        refine g_take (i := 6) (d := (some 15)) (v := ?_) rfl rfl (by kernel_rfl) (fun _ _ _ h => h) (by rfl) (fun w' hb' => ?_) ?_
        rotate_left
        · (try go_simp); (try with_reducible rfl)
        try simp only [Act.put, List.setIfInBounds_toArray, List.set_cons_zero, List.set_cons_succ]
        refine g_take (i := 7) (d := (some 16)) (v := ?_) rfl rfl (by kernel_rfl) (fun _ _ _ h => h) (by rfl) (fun w' hb' => ?_) ?_
        rotate_left
        · (try go_simp); (try with_reducible rfl)
        try simp only [Act.put, List.setIfInBounds_toArray, List.set_cons_zero, List.set_cons_succ]
        refine g_take (i := 8) (d := (some 17)) (v := ?_) rfl rfl (by kernel_rfl) (fun _ _ _ h => h) (by rfl) (fun w' hb' => ?_) ?_
        rotate_left
        · (try go_simp); (try with_reducible rfl)
        try simp only [Act.put, List.setIfInBounds_toArray, List.set_cons_zero, List.set_cons_succ]
        refine g_take (i := 9) (d := (some 18)) (v := ?_) rfl rfl (by kernel_rfl) (fun _ _ _ h => h) (by rfl) (fun w' hb' => ?_) ?_
        rotate_left
        · have c0 := (hb'.cell (p := ⟨pb, po + k * 3, none⟩) hpx).trans C0; have c1 := (hb'.cell (p := ⟨pb, po + k * 3 + 1, none⟩) hpx).trans C1; have c2 := (hb'.cell (p := ⟨pb, po + k * 3 + 2, none⟩) hpx).trans C2; obtain ⟨d0, d1, d2, df⟩ := block_cells3 ((hb'.block _ (lt_of_block q1)).trans q1); (try go_simp); (try with_reducible rfl)
        try simp only [Act.put, List.setIfInBounds_toArray, List.set_cons_zero, List.set_cons_succ]
        refine g_take (i := 10) (d := (some 19)) (v := ?_) rfl rfl (by kernel_rfl) (fun _ _ _ h => h) (by rfl) (fun w' hb' => ?_) ?_
        rotate_left
        · (try go_simp); (try with_reducible rfl)
        try simp only [Act.put, List.setIfInBounds_toArray, List.set_cons_zero, List.set_cons_succ]
        refine g_take (i := 11) (d := (some 20)) (v := ?_) rfl rfl (by kernel_rfl) (fun _ _ _ h => h) (by rfl) (fun w' hb' => ?_) ?_
        rotate_left
        · obtain ⟨d0, d1, d2, df⟩ := block_cells3 ((hb'.block _ (lt_of_block q1)).trans q1); (try go_simp); (try with_reducible rfl)
        try simp only [Act.put, List.setIfInBounds_toArray, List.set_cons_zero, List.set_cons_succ]
        refine g_take (i := 12) (d := (some 21)) (v := ?_) rfl rfl (by kernel_rfl) (fun _ _ _ h => h) (by rfl) (fun w' hb' => ?_) ?_
        rotate_left
        · (try go_simp); (try with_reducible rfl)
        try simp only [Act.put, List.setIfInBounds_toArray, List.set_cons_zero, List.set_cons_succ]
        refine g_take (i := 13) (d := (some 22)) (v := ?_) rfl rfl (by kernel_rfl) (fun _ _ _ h => h) (by rfl) (fun w' hb' => ?_) ?_
        rotate_left
        · (try go_simp); (try with_reducible rfl)
        try simp only [Act.put, List.setIfInBounds_toArray, List.set_cons_zero, List.set_cons_succ]
        refine g_done (by kernel_rfl) ?_
        have c0 : World.cell? (World.drew _) ⟨pb, po + k * 3, none⟩ = _ := C0
        have c1 : World.cell? (World.drew _) ⟨pb, po + k * 3 + 1, none⟩ = _ := C1
        have c2 : World.cell? (World.drew _) ⟨pb, po + k * 3 + 2, none⟩ = _ := C2
        go_wp2_with (at_builtin; refine wpList_app1k vtC_len (by decide) W0 rfl (.tmp 25) (.tmp 30) 22 rfl W0.heap.size 26 i0 (.agg #[.int .i64 0, .int .i64 0, .int .i64 0]) 24 Tryd.underlying22 hi hz0 hz1 hz2 rfl _ _ rfl HO.out _ ⟨ya, yb, yc⟩ _ rfl rfl vtC_one (by unfold maxLen; omega) (by omega) (Nat.le_refl _) bel.drew ?_; intro v9 w9 own9 bel9 hq2; clear hq2)
        rw [HT2.out] at own9
        exact ⟨⟨k + 1, by omega, by push_cast; rfl, HJ2, by rw [List.length_take, Nat.min_eq_left (by omega)] at own9; exact own9, bel9⟩, by simp [intOf]; omega⟩
      · have fya : decide (ya < a) = false := decide_eq_false hya
        have HP := Lib.hid (show k = posV l a from (posV_of hk HJ.out (fun h => by rw [← HY.out]; exact hya)).symm)
        clear HO
        have BELX := bel.drew
        go_wp2_with fail
        refine g_start (by kernel_rfl) ?_
        refine g_take (i := 0) (d := (some 9)) (v := ?_) rfl rfl (by kernel_rfl) (fun _ _ _ h => h) (by rfl) (fun w' hb' => ?_) ?_
        rotate_left
        · (try go_simp); (try with_reducible rfl)
        try simp only [Act.put, List.setIfInBounds_toArray, List.set_cons_zero, List.set_cons_succ]
        refine g_take (i := 1) (d := (some 10)) (v := ?_) rfl rfl (by kernel_rfl) (fun _ _ _ h => h) (by rfl) (fun w' hb' => ?_) ?_
        rotate_left
        · (try go_simp); (try with_reducible rfl)
        try simp only [Act.put, List.setIfInBounds_toArray, List.set_cons_zero, List.set_cons_succ]
        refine g_take (i := 2) (d := (some 11)) (v := ?_) rfl rfl (by kernel_rfl) (fun _ _ _ h => h) (by rfl) (fun w' hb' => ?_) ?_
        rotate_left
        · (try go_simp); (try with_reducible rfl)
        try simp only [Act.put, List.setIfInBounds_toArray, List.set_cons_zero, List.set_cons_succ]
        refine g_take (i := 3) (d := (some 12)) (v := ?_) rfl rfl (by kernel_rfl) (fun _ _ _ h => h) (by rfl) (fun w' hb' => ?_) ?_
        rotate_left
        · (try go_simp); (try with_reducible rfl)
        try simp only [Act.put, List.setIfInBounds_toArray, List.set_cons_zero, List.set_cons_succ]
        refine g_take (i := 4) (d := (some 13)) (v := ?_) rfl rfl (by kernel_rfl) (fun _ _ _ h => h) (by rfl) (fun w' hb' => ?_) ?_
        rotate_left
        · (try go_simp); (try with_reducible rfl)
        try simp only [Act.put, List.setIfInBounds_toArray, List.set_cons_zero, List.set_cons_succ]
        refine g_take (i := 5) (d := (some 14)) (v := ?_) rfl rfl (by kernel_rfl) (fun _ _ _ h => h) (by rfl) (fun w' hb' => ?_) ?_
        rotate_left
        · (try go_simp); (try with_reducible rfl)
        try simp only [Act.put, List.setIfInBounds_toArray, List.set_cons_zero, List.set_cons_succ]
        refine g_take (i := 6) (d := (some 15)) (v := ?_) rfl rfl (by kernel_rfl) (fun _ _ _ h => h) (by rfl) (fun w' hb' => ?_) ?_
        rotate_left
        · (try go_simp); (try with_reducible rfl)
        try simp only [Act.put, List.setIfInBounds_toArray, List.set_cons_zero, List.set_cons_succ]
        refine g_take (i := 7) (d := (some 16)) (v := ?_) rfl rfl (by kernel_rfl) (fun _ _ _ h => h) (by rfl) (fun w' hb' => ?_) ?_
        rotate_left
        · (try go_simp); (try with_reducible rfl)
        try simp only [Act.put, List.setIfInBounds_toArray, List.set_cons_zero, List.set_cons_succ]
        refine g_take (i := 8) (d := (some 17)) (v := ?_) rfl rfl (by kernel_rfl) (fun _ _ _ h => h) (by rfl) (fun w' hb' => ?_) ?_
        rotate_left
        · (try go_simp); (try with_reducible rfl)
        try simp only [Act.put, List.setIfInBounds_toArray, List.set_cons_zero, List.set_cons_succ]
        refine g_take (i := 9) (d := (some 18)) (v := ?_) rfl rfl (by kernel_rfl) (fun _ _ _ h => h) (by rfl) (fun w' hb' => ?_) ?_
        rotate_left
        · have c0 := (hb'.cell (p := ⟨pb, po + k * 3, none⟩) hpx).trans C0; have c1 := (hb'.cell (p := ⟨pb, po + k * 3 + 1, none⟩) hpx).trans C1; have c2 := (hb'.cell (p := ⟨pb, po + k * 3 + 2, none⟩) hpx).trans C2; obtain ⟨d0, d1, d2, df⟩ := block_cells3 ((hb'.block _ (lt_of_block q1)).trans q1); (try go_simp); (try with_reducible rfl)
        try simp only [Act.put, List.setIfInBounds_toArray, List.set_cons_zero, List.set_cons_succ]
        refine g_take (i := 10) (d := (some 19)) (v := ?_) rfl rfl (by kernel_rfl) (fun _ _ _ h => h) (by rfl) (fun w' hb' => ?_) ?_
        rotate_left
        · (try go_simp); (try with_reducible rfl)
        try simp only [Act.put, List.setIfInBounds_toArray, List.set_cons_zero, List.set_cons_succ]
        refine g_take (i := 11) (d := (some 20)) (v := ?_) rfl rfl (by kernel_rfl) (fun _ _ _ h => h) (by rfl) (fun w' hb' => ?_) ?_
        rotate_left
        · obtain ⟨d0, d1, d2, df⟩ := block_cells3 ((hb'.block _ (lt_of_block q1)).trans q1); (try go_simp); (try with_reducible rfl)
        try simp only [Act.put, List.setIfInBounds_toArray, List.set_cons_zero, List.set_cons_succ]
        refine g_take (i := 12) (d := (some 21)) (v := ?_) rfl rfl (by kernel_rfl) (fun _ _ _ h => h) (by rfl) (fun w' hb' => ?_) ?_
        rotate_left
        · (try go_simp); (try with_reducible rfl)
        try simp only [Act.put, List.setIfInBounds_toArray, List.set_cons_zero, List.set_cons_succ]
        refine g_take (i := 13) (d := (some 22)) (v := ?_) rfl rfl (by kernel_rfl) (fun _ _ _ h => h) (by rfl) (fun w' hb' => ?_) ?_
        rotate_left
        · (try go_simp); (try with_reducible rfl)
        try simp only [Act.put, List.setIfInBounds_toArray, List.set_cons_zero, List.set_cons_succ]
        refine g_done (by kernel_rfl) ?_
        clear D0 D1 D2 C0 C1 C2 hpx HY hpb hlk
        replace bel := BELX
        have q1 := (bel.block _ (lt_of_block q0)).trans q0
        obtain ⟨P, hPk⟩ : ∃ P, P = k := ⟨_, rfl⟩
        rw [← hPk] at HOW HP
        have hPl : P ≤ l.length := by omega
        have hlP : (l.take P).length = P := by simp; omega
        have HO := Lib.hid (show World.ownsRow _ W0.heap.size 26 3 _ (l.take P).length ((l.take P).flatMap vtC) from by rw [hlP]; exact HOW.out)
        clear hPk HOW hk hlt
        obtain ⟨d0, d1, d2, df⟩ := block_cells3 q1
        go_wp2_with (at_builtin; refine wpList_app1k vtC_len (by decide) W0 rfl (.tmp 32) (.tmp 34) 22 rfl W0.heap.size 26 i0 (.agg #[.int .i64 0, .int .i64 0, .int .i64 0]) 24 Tryd.underlying22 hi hz0 hz1 hz2 rfl _ _ rfl HO.out _ ⟨a, b, c⟩ _ rfl rfl vtC_one (by unfold maxLen; omega) (by omega) (Nat.le_refl _) bel ?_; intro v6 w6 own6 bel6 hq2; clear hq2)
        have OW6 := Lib.hid own6
        clear own6 d0 d1 d2 df q1 HO
        go_loopw [6, 8] (fun o' i wr => ∃ (k : Nat) (acc : List Vt), k ≤ l.length ∧ i = .int .i64 (k : Int) ∧ acc.length ≤ P + 1 + k ∧ Hid (acc = l.take P ++ ⟨a, b, c⟩ :: (l.take k).filter (fun x => decide (a < x.fr))) ∧ Hid (noE l ⟨a, b, c⟩ k) ∧ wr.ownsRow W0.heap.size 26 3 o' acc.length (acc.flatMap vtC) ∧ Below W0.heap.size W0 wr) (fun _ i _ => l.length - (intOf i).toNat)
        case atStart => exact ⟨0, l.take P ++ [⟨a, b, c⟩], Nat.zero_le _, rfl, by simp; omega, Lib.hid (by simp), Lib.hid (fun j _ h => absurd h (Nat.not_lt_zero _)), OW6.out, bel6⟩
        case round =>
          obtain ⟨k, acc, hk, rfl, hacc, HA, HN, hown, bel⟩ := hrel
          have HOW := Lib.hid hown
          clear hown
          by_cases hlt : k < l.length
          · have q1 := (bel.block _ (lt_of_block q0)).trans q0
            obtain ⟨pb2, po2, hpe, hpb, D0, D1, D2⟩ := rdt_cells HRD.out k hlt
            obtain ⟨rfl, rfl⟩ : pb = pb2 ∧ po = po2 := by injection hpe with h1; injection h1 with h2 h3; exact ⟨h2, h3⟩
            obtain ⟨y, hy⟩ : ∃ y, y = l[k] := ⟨_, rfl⟩
            have HY := Lib.hid hy
            rw [← hy] at D0 D1 D2
            clear hy
            obtain ⟨ya, yb, yc⟩ := y
            simp only at D0 D1 D2
            have C0 := (bel.cell (p := ⟨pb, po + k * 3, none⟩) hpb).trans D0
            have C1 := (bel.cell (p := ⟨pb, po + k * 3 + 1, none⟩) hpb).trans D1
            have C2 := (bel.cell (p := ⟨pb, po + k * 3 + 2, none⟩) hpb).trans D2
            have hpx := Nat.lt_of_lt_of_le hpb bel.size
            go_wp2_with fail
            by_cases hg : a < ya
            · have fg : decide (a < ya) = true := decide_eq_true hg
              have hne : ¬ ya = a := by omega
              have fe : (ya == a) = false := by simpa using hne
              have HA2 := Lib.hid (show acc ++ [⟨ya, yb, yc⟩] = l.take P ++ ⟨a, b, c⟩ :: (l.take (k + 1)).filter (fun x => decide (a < x.fr)) by
                rw [HA.out, List.take_succ_eq_append_getElem hlt, ← HY.out, List.filter_append, List.filter_cons, if_pos (by simpa using hg)]; simp)
              have HN2 := Lib.hid (noE_up HN.out hlt (fun e => absurd (show ya = a from (congrArg Vt.fr HY.out).trans e) hne))
              clear  hne
              refine g_start (by kernel_rfl) ?_
              refine g_take (i := 0) (d := (some 42)) (v := ?_) rfl rfl (by kernel_rfl) (fun _ _ _ h => h) (by rfl) (fun w' hb' => ?_) ?_
              rotate_left
              · (try go_simp); (try with_reducible rfl)
              try simp only [Act.put, List.setIfInBounds_toArray, List.set_cons_zero, List.set_cons_succ]
              refine g_take (i := 1) (d := (some 43)) (v := ?_) rfl rfl (by kernel_rfl) (fun _ _ _ h => h) (by rfl) (fun w' hb' => ?_) ?_
              rotate_left
              · (try go_simp); (try with_reducible rfl)
              try simp only [Act.put, List.setIfInBounds_toArray, List.set_cons_zero, List.set_cons_succ]
              refine g_take (i := 2) (d := (some 44)) (v := ?_) rfl rfl (by kernel_rfl) (fun _ _ _ h => h) (by rfl) (fun w' hb' => ?_) ?_
              rotate_left
              · (try go_simp); (try with_reducible rfl)
              try simp only [Act.put, List.setIfInBounds_toArray, List.set_cons_zero, List.set_cons_succ]
              refine g_take (i := 3) (d := (some 45)) (v := ?_) rfl rfl (by kernel_rfl) (fun _ _ _ h => h) (by rfl) (fun w' hb' => ?_) ?_
              rotate_left
              · (try go_simp); (try with_reducible rfl)
              try simp only [Act.put, List.setIfInBounds_toArray, List.set_cons_zero, List.set_cons_succ]
              refine g_take (i := 4) (d := (some 46)) (v := ?_) rfl rfl (by kernel_rfl) (fun _ _ _ h => h) (by rfl) (fun w' hb' => ?_) ?_
              rotate_left
              · have c0 := (hb'.cell (p := ⟨pb, po + k * 3, none⟩) hpx).trans C0; have c1 := (hb'.cell (p := ⟨pb, po + k * 3 + 1, none⟩) hpx).trans C1; have c2 := (hb'.cell (p := ⟨pb, po + k * 3 + 2, none⟩) hpx).trans C2; obtain ⟨d0, d1, d2, df⟩ := block_cells3 ((hb'.block _ (lt_of_block q1)).trans q1); (try go_simp); (try with_reducible rfl)
              try simp only [Act.put, List.setIfInBounds_toArray, List.set_cons_zero, List.set_cons_succ]
              refine g_take (i := 5) (d := (some 47)) (v := ?_) rfl rfl (by kernel_rfl) (fun _ _ _ h => h) (by rfl) (fun w' hb' => ?_) ?_
              rotate_left
              · (try go_simp); (try with_reducible rfl)
              try simp only [Act.put, List.setIfInBounds_toArray, List.set_cons_zero, List.set_cons_succ]
              refine g_take (i := 6) (d := (some 48)) (v := ?_) rfl rfl (by kernel_rfl) (fun _ _ _ h => h) (by rfl) (fun w' hb' => ?_) ?_
              rotate_left
              · have c0 := (hb'.cell (p := ⟨pb, po + k * 3, none⟩) hpx).trans C0; have c1 := (hb'.cell (p := ⟨pb, po + k * 3 + 1, none⟩) hpx).trans C1; have c2 := (hb'.cell (p := ⟨pb, po + k * 3 + 2, none⟩) hpx).trans C2; obtain ⟨d0, d1, d2, df⟩ := block_cells3 ((hb'.block _ (lt_of_block q1)).trans q1); (try go_simp); (try with_reducible rfl)
              try simp only [Act.put, List.setIfInBounds_toArray, List.set_cons_zero, List.set_cons_succ]
              refine g_take (i := 7) (d := (some 49)) (v := ?_) rfl rfl (by kernel_rfl) (fun _ _ _ h => h) (by rfl) (fun w' hb' => ?_) ?_
              rotate_left
              · (try go_simp); (try with_reducible rfl)
              try simp only [Act.put, List.setIfInBounds_toArray, List.set_cons_zero, List.set_cons_succ]
              refine g_done (by kernel_rfl) ?_
              have HO := Lib.hid (show World.ownsRow _ W0.heap.size 26 3 _ acc.length (acc.flatMap vtC) from HOW.out)
              have c0 : wr.drew.cell? ⟨pb, po + k * 3, none⟩ = _ := C0
              have c1 : wr.drew.cell? ⟨pb, po + k * 3 + 1, none⟩ = _ := C1
              have c2 : wr.drew.cell? ⟨pb, po + k * 3 + 2, none⟩ = _ := C2
              go_wp2_with (at_builtin; refine wpList_app1k vtC_len (by decide) W0 rfl (.tmp 50) (.tmp 55) 22 rfl W0.heap.size 26 i0 (.agg #[.int .i64 0, .int .i64 0, .int .i64 0]) 24 Tryd.underlying22 hi hz0 hz1 hz2 rfl _ _ rfl HO.out _ ⟨ya, yb, yc⟩ _ rfl rfl vtC_one (by unfold maxLen; omega) (by omega) (Nat.le_refl _) bel.drew ?_; intro v9 w9 own9 bel9 hq2; clear hq2)
              have q1 := (bel9.block _ (lt_of_block q0)).trans q0
              replace C0 := (bel9.cell (p := ⟨pb, po + k * 3, none⟩) hpb).trans D0
              replace C1 := (bel9.cell (p := ⟨pb, po + k * 3 + 1, none⟩) hpb).trans D1
              replace C2 := (bel9.cell (p := ⟨pb, po + k * 3 + 2, none⟩) hpb).trans D2
              replace hpx := Nat.lt_of_lt_of_le hpb bel9.size
              clear c0 c1 c2
              have OW9 := Lib.hid own9
              clear own9
              refine g_start (by kernel_rfl) ?_
              refine g_take (i := 0) (d := (some 57)) (v := ?_) rfl rfl (by kernel_rfl) (fun _ _ _ h => h) (by rfl) (fun w' hb' => ?_) ?_
              rotate_left
              · (try go_simp); (try with_reducible rfl)
              try simp only [Act.put, List.setIfInBounds_toArray, List.set_cons_zero, List.set_cons_succ]
              refine g_take (i := 1) (d := (some 58)) (v := ?_) rfl rfl (by kernel_rfl) (fun _ _ _ h => h) (by rfl) (fun w' hb' => ?_) ?_
              rotate_left
              · (try go_simp); (try with_reducible rfl)
              try simp only [Act.put, List.setIfInBounds_toArray, List.set_cons_zero, List.set_cons_succ]
              refine g_take (i := 2) (d := (some 59)) (v := ?_) rfl rfl (by kernel_rfl) (fun _ _ _ h => h) (by rfl) (fun w' hb' => ?_) ?_
              rotate_left
              · (try go_simp); (try with_reducible rfl)
              try simp only [Act.put, List.setIfInBounds_toArray, List.set_cons_zero, List.set_cons_succ]
              refine g_take (i := 3) (d := (some 60)) (v := ?_) rfl rfl (by kernel_rfl) (fun _ _ _ h => h) (by rfl) (fun w' hb' => ?_) ?_
              rotate_left
              · (try go_simp); (try with_reducible rfl)
              try simp only [Act.put, List.setIfInBounds_toArray, List.set_cons_zero, List.set_cons_succ]
              refine g_take (i := 4) (d := (some 61)) (v := ?_) rfl rfl (by kernel_rfl) (fun _ _ _ h => h) (by rfl) (fun w' hb' => ?_) ?_
              rotate_left
              · have c0 := (hb'.cell (p := ⟨pb, po + k * 3, none⟩) hpx).trans C0; have c1 := (hb'.cell (p := ⟨pb, po + k * 3 + 1, none⟩) hpx).trans C1; have c2 := (hb'.cell (p := ⟨pb, po + k * 3 + 2, none⟩) hpx).trans C2; obtain ⟨d0, d1, d2, df⟩ := block_cells3 ((hb'.block _ (lt_of_block q1)).trans q1); (try go_simp); (try with_reducible rfl)
              try simp only [Act.put, List.setIfInBounds_toArray, List.set_cons_zero, List.set_cons_succ]
              refine g_take (i := 5) (d := (some 62)) (v := ?_) rfl rfl (by kernel_rfl) (fun _ _ _ h => h) (by rfl) (fun w' hb' => ?_) ?_
              rotate_left
              · (try go_simp); (try with_reducible rfl)
              try simp only [Act.put, List.setIfInBounds_toArray, List.set_cons_zero, List.set_cons_succ]
              refine g_take (i := 6) (d := (some 63)) (v := ?_) rfl rfl (by kernel_rfl) (fun _ _ _ h => h) (by rfl) (fun w' hb' => ?_) ?_
              rotate_left
              · have c0 := (hb'.cell (p := ⟨pb, po + k * 3, none⟩) hpx).trans C0; have c1 := (hb'.cell (p := ⟨pb, po + k * 3 + 1, none⟩) hpx).trans C1; have c2 := (hb'.cell (p := ⟨pb, po + k * 3 + 2, none⟩) hpx).trans C2; obtain ⟨d0, d1, d2, df⟩ := block_cells3 ((hb'.block _ (lt_of_block q1)).trans q1); (try go_simp); (try with_reducible rfl)
              try simp only [Act.put, List.setIfInBounds_toArray, List.set_cons_zero, List.set_cons_succ]
              refine g_take (i := 7) (d := (some 64)) (v := ?_) rfl rfl (by kernel_rfl) (fun _ _ _ h => h) (by rfl) (fun w' hb' => ?_) ?_
              rotate_left
              · (try go_simp); (try with_reducible rfl)
              try simp only [Act.put, List.setIfInBounds_toArray, List.set_cons_zero, List.set_cons_succ]
              refine g_done (by kernel_rfl) ?_
              go_wp2_with fail
              exact ⟨⟨k + 1, acc ++ [⟨ya, yb, yc⟩], by omega, by push_cast; rfl, by simp; omega, HA2, HN2, own_drew OW9.out, bel9.drew⟩, by simp [intOf]; omega⟩
            · have fg : decide (a < ya) = false := decide_eq_false hg
              by_cases he : ya = a
              · have fe : (ya == a) = true := by simpa using he
                by_cases hw : b < yb
                · have fw : decide (b < yb) = true := decide_eq_true hw
                  have HA2 := Lib.hid (show acc = l.take P ++ ⟨a, b, c⟩ :: (l.take (k + 1)).filter (fun x => decide (a < x.fr)) by
                    rw [HA.out, List.take_succ_eq_append_getElem hlt, ← HY.out, List.filter_append, List.filter_cons, if_neg (by simpa using hg)]; simp)
                  have HE0 := layE_hit (v := ⟨a, b, c⟩) HS.out hlt (by rw [← HY.out]; exact he)
                  rw [← HY.out] at HE0
                  simp only at HE0
                  have HC := Lib.hid (show layE l ⟨a, b, c⟩ = 18 by rw [HE0]; simp [hw]; try omega)
                  clear HE0
                  clear he
                  refine g_start (by kernel_rfl) ?_
                  refine g_take (i := 0) (d := (some 42)) (v := ?_) rfl rfl (by kernel_rfl) (fun _ _ _ h => h) (by rfl) (fun w' hb' => ?_) ?_
                  rotate_left
                  · (try go_simp); (try with_reducible rfl)
                  try simp only [Act.put, List.setIfInBounds_toArray, List.set_cons_zero, List.set_cons_succ]
                  refine g_take (i := 1) (d := (some 43)) (v := ?_) rfl rfl (by kernel_rfl) (fun _ _ _ h => h) (by rfl) (fun w' hb' => ?_) ?_
                  rotate_left
                  · (try go_simp); (try with_reducible rfl)
                  try simp only [Act.put, List.setIfInBounds_toArray, List.set_cons_zero, List.set_cons_succ]
                  refine g_take (i := 2) (d := (some 44)) (v := ?_) rfl rfl (by kernel_rfl) (fun _ _ _ h => h) (by rfl) (fun w' hb' => ?_) ?_
                  rotate_left
                  · (try go_simp); (try with_reducible rfl)
                  try simp only [Act.put, List.setIfInBounds_toArray, List.set_cons_zero, List.set_cons_succ]
                  refine g_take (i := 3) (d := (some 45)) (v := ?_) rfl rfl (by kernel_rfl) (fun _ _ _ h => h) (by rfl) (fun w' hb' => ?_) ?_
                  rotate_left
                  · (try go_simp); (try with_reducible rfl)
                  try simp only [Act.put, List.setIfInBounds_toArray, List.set_cons_zero, List.set_cons_succ]
                  refine g_take (i := 4) (d := (some 46)) (v := ?_) rfl rfl (by kernel_rfl) (fun _ _ _ h => h) (by rfl) (fun w' hb' => ?_) ?_
                  rotate_left
                  · have c0 := (hb'.cell (p := ⟨pb, po + k * 3, none⟩) hpx).trans C0; have c1 := (hb'.cell (p := ⟨pb, po + k * 3 + 1, none⟩) hpx).trans C1; have c2 := (hb'.cell (p := ⟨pb, po + k * 3 + 2, none⟩) hpx).trans C2; obtain ⟨d0, d1, d2, df⟩ := block_cells3 ((hb'.block _ (lt_of_block q1)).trans q1); (try go_simp); (try with_reducible rfl)
                  try simp only [Act.put, List.setIfInBounds_toArray, List.set_cons_zero, List.set_cons_succ]
                  refine g_take (i := 5) (d := (some 47)) (v := ?_) rfl rfl (by kernel_rfl) (fun _ _ _ h => h) (by rfl) (fun w' hb' => ?_) ?_
                  rotate_left
                  · (try go_simp); (try with_reducible rfl)
                  try simp only [Act.put, List.setIfInBounds_toArray, List.set_cons_zero, List.set_cons_succ]
                  refine g_take (i := 6) (d := (some 48)) (v := ?_) rfl rfl (by kernel_rfl) (fun _ _ _ h => h) (by rfl) (fun w' hb' => ?_) ?_
                  rotate_left
                  · have c0 := (hb'.cell (p := ⟨pb, po + k * 3, none⟩) hpx).trans C0; have c1 := (hb'.cell (p := ⟨pb, po + k * 3 + 1, none⟩) hpx).trans C1; have c2 := (hb'.cell (p := ⟨pb, po + k * 3 + 2, none⟩) hpx).trans C2; obtain ⟨d0, d1, d2, df⟩ := block_cells3 ((hb'.block _ (lt_of_block q1)).trans q1); (try go_simp); (try with_reducible rfl)
                  try simp only [Act.put, List.setIfInBounds_toArray, List.set_cons_zero, List.set_cons_succ]
                  refine g_take (i := 7) (d := (some 49)) (v := ?_) rfl rfl (by kernel_rfl) (fun _ _ _ h => h) (by rfl) (fun w' hb' => ?_) ?_
                  rotate_left
                  · (try go_simp); (try with_reducible rfl)
                  try simp only [Act.put, List.setIfInBounds_toArray, List.set_cons_zero, List.set_cons_succ]
                  refine g_done (by kernel_rfl) ?_
                  go_wp2_with fail
                  refine g_start (by kernel_rfl) ?_
                  refine g_take (i := 0) (d := (some 57)) (v := ?_) rfl rfl (by kernel_rfl) (fun _ _ _ h => h) (by rfl) (fun w' hb' => ?_) ?_
                  rotate_left
                  · (try go_simp); (try with_reducible rfl)
                  try simp only [Act.put, List.setIfInBounds_toArray, List.set_cons_zero, List.set_cons_succ]
                  refine g_take (i := 1) (d := (some 58)) (v := ?_) rfl rfl (by kernel_rfl) (fun _ _ _ h => h) (by rfl) (fun w' hb' => ?_) ?_
                  rotate_left
                  · (try go_simp); (try with_reducible rfl)
                  try simp only [Act.put, List.setIfInBounds_toArray, List.set_cons_zero, List.set_cons_succ]
                  refine g_take (i := 2) (d := (some 59)) (v := ?_) rfl rfl (by kernel_rfl) (fun _ _ _ h => h) (by rfl) (fun w' hb' => ?_) ?_
                  rotate_left
                  · (try go_simp); (try with_reducible rfl)
                  try simp only [Act.put, List.setIfInBounds_toArray, List.set_cons_zero, List.set_cons_succ]
                  refine g_take (i := 3) (d := (some 60)) (v := ?_) rfl rfl (by kernel_rfl) (fun _ _ _ h => h) (by rfl) (fun w' hb' => ?_) ?_
                  rotate_left
                  · (try go_simp); (try with_reducible rfl)
                  try simp only [Act.put, List.setIfInBounds_toArray, List.set_cons_zero, List.set_cons_succ]
                  refine g_take (i := 4) (d := (some 61)) (v := ?_) rfl rfl (by kernel_rfl) (fun _ _ _ h => h) (by rfl) (fun w' hb' => ?_) ?_
                  rotate_left
                  · have c0 := (hb'.cell (p := ⟨pb, po + k * 3, none⟩) hpx).trans C0; have c1 := (hb'.cell (p := ⟨pb, po + k * 3 + 1, none⟩) hpx).trans C1; have c2 := (hb'.cell (p := ⟨pb, po + k * 3 + 2, none⟩) hpx).trans C2; obtain ⟨d0, d1, d2, df⟩ := block_cells3 ((hb'.block _ (lt_of_block q1)).trans q1); (try go_simp); (try with_reducible rfl)
                  try simp only [Act.put, List.setIfInBounds_toArray, List.set_cons_zero, List.set_cons_succ]
                  refine g_take (i := 5) (d := (some 62)) (v := ?_) rfl rfl (by kernel_rfl) (fun _ _ _ h => h) (by rfl) (fun w' hb' => ?_) ?_
                  rotate_left
                  · (try go_simp); (try with_reducible rfl)
                  try simp only [Act.put, List.setIfInBounds_toArray, List.set_cons_zero, List.set_cons_succ]
                  refine g_take (i := 6) (d := (some 63)) (v := ?_) rfl rfl (by kernel_rfl) (fun _ _ _ h => h) (by rfl) (fun w' hb' => ?_) ?_
                  rotate_left
                  · have c0 := (hb'.cell (p := ⟨pb, po + k * 3, none⟩) hpx).trans C0; have c1 := (hb'.cell (p := ⟨pb, po + k * 3 + 1, none⟩) hpx).trans C1; have c2 := (hb'.cell (p := ⟨pb, po + k * 3 + 2, none⟩) hpx).trans C2; obtain ⟨d0, d1, d2, df⟩ := block_cells3 ((hb'.block _ (lt_of_block q1)).trans q1); (try go_simp); (try with_reducible rfl)
                  try simp only [Act.put, List.setIfInBounds_toArray, List.set_cons_zero, List.set_cons_succ]
                  refine g_take (i := 7) (d := (some 64)) (v := ?_) rfl rfl (by kernel_rfl) (fun _ _ _ h => h) (by rfl) (fun w' hb' => ?_) ?_
                  rotate_left
                  · (try go_simp); (try with_reducible rfl)
                  try simp only [Act.put, List.setIfInBounds_toArray, List.set_cons_zero, List.set_cons_succ]
                  refine g_done (by kernel_rfl) ?_
                  go_wp2_with fail
                  refine g_start (by kernel_rfl) ?_
                  refine g_take (i := 0) (d := (some 65)) (v := ?_) rfl rfl (by kernel_rfl) (fun _ _ _ h => h) (by rfl) (fun w' hb' => ?_) ?_
                  rotate_left
                  · (try go_simp); (try with_reducible rfl)
                  try simp only [Act.put, List.setIfInBounds_toArray, List.set_cons_zero, List.set_cons_succ]
                  refine g_take (i := 1) (d := (some 66)) (v := ?_) rfl rfl (by kernel_rfl) (fun _ _ _ h => h) (by rfl) (fun w' hb' => ?_) ?_
                  rotate_left
                  · (try go_simp); (try with_reducible rfl)
                  try simp only [Act.put, List.setIfInBounds_toArray, List.set_cons_zero, List.set_cons_succ]
                  refine g_take (i := 2) (d := (some 67)) (v := ?_) rfl rfl (by kernel_rfl) (fun _ _ _ h => h) (by rfl) (fun w' hb' => ?_) ?_
                  rotate_left
                  · (try go_simp); (try with_reducible rfl)
                  try simp only [Act.put, List.setIfInBounds_toArray, List.set_cons_zero, List.set_cons_succ]
                  refine g_take (i := 3) (d := (some 68)) (v := ?_) rfl rfl (by kernel_rfl) (fun _ _ _ h => h) (by rfl) (fun w' hb' => ?_) ?_
                  rotate_left
                  · (try go_simp); (try with_reducible rfl)
                  try simp only [Act.put, List.setIfInBounds_toArray, List.set_cons_zero, List.set_cons_succ]
                  refine g_take (i := 4) (d := (some 69)) (v := ?_) rfl rfl (by kernel_rfl) (fun _ _ _ h => h) (by rfl) (fun w' hb' => ?_) ?_
                  rotate_left
                  · have c0 := (hb'.cell (p := ⟨pb, po + k * 3, none⟩) hpx).trans C0; have c1 := (hb'.cell (p := ⟨pb, po + k * 3 + 1, none⟩) hpx).trans C1; have c2 := (hb'.cell (p := ⟨pb, po + k * 3 + 2, none⟩) hpx).trans C2; obtain ⟨d0, d1, d2, df⟩ := block_cells3 ((hb'.block _ (lt_of_block q1)).trans q1); (try go_simp); (try with_reducible rfl)
                  try simp only [Act.put, List.setIfInBounds_toArray, List.set_cons_zero, List.set_cons_succ]
                  refine g_take (i := 5) (d := (some 70)) (v := ?_) rfl rfl (by kernel_rfl) (fun _ _ _ h => h) (by rfl) (fun w' hb' => ?_) ?_
                  rotate_left
                  · (try go_simp); (try with_reducible rfl)
                  try simp only [Act.put, List.setIfInBounds_toArray, List.set_cons_zero, List.set_cons_succ]
                  refine g_take (i := 6) (d := (some 71)) (v := ?_) rfl rfl (by kernel_rfl) (fun _ _ _ h => h) (by rfl) (fun w' hb' => ?_) ?_
                  rotate_left
                  · have c0 := (hb'.cell (p := ⟨pb, po + k * 3, none⟩) hpx).trans C0; have c1 := (hb'.cell (p := ⟨pb, po + k * 3 + 1, none⟩) hpx).trans C1; have c2 := (hb'.cell (p := ⟨pb, po + k * 3 + 2, none⟩) hpx).trans C2; obtain ⟨d0, d1, d2, df⟩ := block_cells3 ((hb'.block _ (lt_of_block q1)).trans q1); (try go_simp); (try with_reducible rfl)
                  try simp only [Act.put, List.setIfInBounds_toArray, List.set_cons_zero, List.set_cons_succ]
                  refine g_take (i := 7) (d := (some 72)) (v := ?_) rfl rfl (by kernel_rfl) (fun _ _ _ h => h) (by rfl) (fun w' hb' => ?_) ?_
                  rotate_left
                  · (try go_simp); (try with_reducible rfl)
                  try simp only [Act.put, List.setIfInBounds_toArray, List.set_cons_zero, List.set_cons_succ]
                  refine g_done (by kernel_rfl) ?_
                  go_wp2_with fail
                  show Z (.returned _) _
                  rw [HZ.out]
                  exact ⟨none, 0, 0, by rw [← HEE.out, HC.out]; rfl, by rw [← HEE.out, HC.out, if_neg (by decide)]; exact rdk_nil _, chain B0 bel.drew.drew.drew⟩
                · have fw : decide (b < yb) = false := decide_eq_false hw
                  by_cases hv : yb = b
                  · have fv : (yb == b) = true := by simpa using hv
                    by_cases ht : yc = c
                    · have ft : (yc == c) = true := by simpa using ht
                      have HA2 := Lib.hid (show acc = l.take P ++ ⟨a, b, c⟩ :: (l.take (k + 1)).filter (fun x => decide (a < x.fr)) by
                        rw [HA.out, List.take_succ_eq_append_getElem hlt, ← HY.out, List.filter_append, List.filter_cons, if_neg (by simpa using hg)]; simp)
                      have HE0 := layE_hit (v := ⟨a, b, c⟩) HS.out hlt (by rw [← HY.out]; exact he)
                      rw [← HY.out] at HE0
                      simp only at HE0
                      have HC := Lib.hid (show layE l ⟨a, b, c⟩ = 16 by rw [HE0]; simp [hw, hv, ht]; try omega)
                      clear HE0
                      clear he hv ht
                      refine g_start (by kernel_rfl) ?_
                      refine g_take (i := 0) (d := (some 42)) (v := ?_) rfl rfl (by kernel_rfl) (fun _ _ _ h => h) (by rfl) (fun w' hb' => ?_) ?_
                      rotate_left
                      · (try go_simp); (try with_reducible rfl)
                      try simp only [Act.put, List.setIfInBounds_toArray, List.set_cons_zero, List.set_cons_succ]
                      refine g_take (i := 1) (d := (some 43)) (v := ?_) rfl rfl (by kernel_rfl) (fun _ _ _ h => h) (by rfl) (fun w' hb' => ?_) ?_
                      rotate_left
                      · (try go_simp); (try with_reducible rfl)
                      try simp only [Act.put, List.setIfInBounds_toArray, List.set_cons_zero, List.set_cons_succ]
                      refine g_take (i := 2) (d := (some 44)) (v := ?_) rfl rfl (by kernel_rfl) (fun _ _ _ h => h) (by rfl) (fun w' hb' => ?_) ?_
                      rotate_left
                      · (try go_simp); (try with_reducible rfl)
                      try simp only [Act.put, List.setIfInBounds_toArray, List.set_cons_zero, List.set_cons_succ]
                      refine g_take (i := 3) (d := (some 45)) (v := ?_) rfl rfl (by kernel_rfl) (fun _ _ _ h => h) (by rfl) (fun w' hb' => ?_) ?_
                      rotate_left
                      · (try go_simp); (try with_reducible rfl)
                      try simp only [Act.put, List.setIfInBounds_toArray, List.set_cons_zero, List.set_cons_succ]
                      refine g_take (i := 4) (d := (some 46)) (v := ?_) rfl rfl (by kernel_rfl) (fun _ _ _ h => h) (by rfl) (fun w' hb' => ?_) ?_
                      rotate_left
                      · have c0 := (hb'.cell (p := ⟨pb, po + k * 3, none⟩) hpx).trans C0; have c1 := (hb'.cell (p := ⟨pb, po + k * 3 + 1, none⟩) hpx).trans C1; have c2 := (hb'.cell (p := ⟨pb, po + k * 3 + 2, none⟩) hpx).trans C2; obtain ⟨d0, d1, d2, df⟩ := block_cells3 ((hb'.block _ (lt_of_block q1)).trans q1); (try go_simp); (try with_reducible rfl)
                      try simp only [Act.put, List.setIfInBounds_toArray, List.set_cons_zero, List.set_cons_succ]
                      refine g_take (i := 5) (d := (some 47)) (v := ?_) rfl rfl (by kernel_rfl) (fun _ _ _ h => h) (by rfl) (fun w' hb' => ?_) ?_
                      rotate_left
                      · (try go_simp); (try with_reducible rfl)
                      try simp only [Act.put, List.setIfInBounds_toArray, List.set_cons_zero, List.set_cons_succ]
                      refine g_take (i := 6) (d := (some 48)) (v := ?_) rfl rfl (by kernel_rfl) (fun _ _ _ h => h) (by rfl) (fun w' hb' => ?_) ?_
                      rotate_left
                      · have c0 := (hb'.cell (p := ⟨pb, po + k * 3, none⟩) hpx).trans C0; have c1 := (hb'.cell (p := ⟨pb, po + k * 3 + 1, none⟩) hpx).trans C1; have c2 := (hb'.cell (p := ⟨pb, po + k * 3 + 2, none⟩) hpx).trans C2; obtain ⟨d0, d1, d2, df⟩ := block_cells3 ((hb'.block _ (lt_of_block q1)).trans q1); (try go_simp); (try with_reducible rfl)
                      try simp only [Act.put, List.setIfInBounds_toArray, List.set_cons_zero, List.set_cons_succ]
                      refine g_take (i := 7) (d := (some 49)) (v := ?_) rfl rfl (by kernel_rfl) (fun _ _ _ h => h) (by rfl) (fun w' hb' => ?_) ?_
                      rotate_left
                      · (try go_simp); (try with_reducible rfl)
                      try simp only [Act.put, List.setIfInBounds_toArray, List.set_cons_zero, List.set_cons_succ]
                      refine g_done (by kernel_rfl) ?_
                      go_wp2_with fail
                      refine g_start (by kernel_rfl) ?_
                      refine g_take (i := 0) (d := (some 57)) (v := ?_) rfl rfl (by kernel_rfl) (fun _ _ _ h => h) (by rfl) (fun w' hb' => ?_) ?_
                      rotate_left
                      · (try go_simp); (try with_reducible rfl)
                      try simp only [Act.put, List.setIfInBounds_toArray, List.set_cons_zero, List.set_cons_succ]
                      refine g_take (i := 1) (d := (some 58)) (v := ?_) rfl rfl (by kernel_rfl) (fun _ _ _ h => h) (by rfl) (fun w' hb' => ?_) ?_
                      rotate_left
                      · (try go_simp); (try with_reducible rfl)
                      try simp only [Act.put, List.setIfInBounds_toArray, List.set_cons_zero, List.set_cons_succ]
                      refine g_take (i := 2) (d := (some 59)) (v := ?_) rfl rfl (by kernel_rfl) (fun _ _ _ h => h) (by rfl) (fun w' hb' => ?_) ?_
                      rotate_left
                      · (try go_simp); (try with_reducible rfl)
                      try simp only [Act.put, List.setIfInBounds_toArray, List.set_cons_zero, List.set_cons_succ]
                      refine g_take (i := 3) (d := (some 60)) (v := ?_) rfl rfl (by kernel_rfl) (fun _ _ _ h => h) (by rfl) (fun w' hb' => ?_) ?_
                      rotate_left
                      · (try go_simp); (try with_reducible rfl)
                      try simp only [Act.put, List.setIfInBounds_toArray, List.set_cons_zero, List.set_cons_succ]
                      refine g_take (i := 4) (d := (some 61)) (v := ?_) rfl rfl (by kernel_rfl) (fun _ _ _ h => h) (by rfl) (fun w' hb' => ?_) ?_
                      rotate_left
                      · have c0 := (hb'.cell (p := ⟨pb, po + k * 3, none⟩) hpx).trans C0; have c1 := (hb'.cell (p := ⟨pb, po + k * 3 + 1, none⟩) hpx).trans C1; have c2 := (hb'.cell (p := ⟨pb, po + k * 3 + 2, none⟩) hpx).trans C2; obtain ⟨d0, d1, d2, df⟩ := block_cells3 ((hb'.block _ (lt_of_block q1)).trans q1); (try go_simp); (try with_reducible rfl)
                      try simp only [Act.put, List.setIfInBounds_toArray, List.set_cons_zero, List.set_cons_succ]
                      refine g_take (i := 5) (d := (some 62)) (v := ?_) rfl rfl (by kernel_rfl) (fun _ _ _ h => h) (by rfl) (fun w' hb' => ?_) ?_
                      rotate_left
                      · (try go_simp); (try with_reducible rfl)
                      try simp only [Act.put, List.setIfInBounds_toArray, List.set_cons_zero, List.set_cons_succ]
                      refine g_take (i := 6) (d := (some 63)) (v := ?_) rfl rfl (by kernel_rfl) (fun _ _ _ h => h) (by rfl) (fun w' hb' => ?_) ?_
                      rotate_left
                      · have c0 := (hb'.cell (p := ⟨pb, po + k * 3, none⟩) hpx).trans C0; have c1 := (hb'.cell (p := ⟨pb, po + k * 3 + 1, none⟩) hpx).trans C1; have c2 := (hb'.cell (p := ⟨pb, po + k * 3 + 2, none⟩) hpx).trans C2; obtain ⟨d0, d1, d2, df⟩ := block_cells3 ((hb'.block _ (lt_of_block q1)).trans q1); (try go_simp); (try with_reducible rfl)
                      try simp only [Act.put, List.setIfInBounds_toArray, List.set_cons_zero, List.set_cons_succ]
                      refine g_take (i := 7) (d := (some 64)) (v := ?_) rfl rfl (by kernel_rfl) (fun _ _ _ h => h) (by rfl) (fun w' hb' => ?_) ?_
                      rotate_left
                      · (try go_simp); (try with_reducible rfl)
                      try simp only [Act.put, List.setIfInBounds_toArray, List.set_cons_zero, List.set_cons_succ]
                      refine g_done (by kernel_rfl) ?_
                      go_wp2_with fail
                      refine g_start (by kernel_rfl) ?_
                      refine g_take (i := 0) (d := (some 65)) (v := ?_) rfl rfl (by kernel_rfl) (fun _ _ _ h => h) (by rfl) (fun w' hb' => ?_) ?_
                      rotate_left
                      · (try go_simp); (try with_reducible rfl)
                      try simp only [Act.put, List.setIfInBounds_toArray, List.set_cons_zero, List.set_cons_succ]
                      refine g_take (i := 1) (d := (some 66)) (v := ?_) rfl rfl (by kernel_rfl) (fun _ _ _ h => h) (by rfl) (fun w' hb' => ?_) ?_
                      rotate_left
                      · (try go_simp); (try with_reducible rfl)
                      try simp only [Act.put, List.setIfInBounds_toArray, List.set_cons_zero, List.set_cons_succ]
                      refine g_take (i := 2) (d := (some 67)) (v := ?_) rfl rfl (by kernel_rfl) (fun _ _ _ h => h) (by rfl) (fun w' hb' => ?_) ?_
                      rotate_left
                      · (try go_simp); (try with_reducible rfl)
                      try simp only [Act.put, List.setIfInBounds_toArray, List.set_cons_zero, List.set_cons_succ]
                      refine g_take (i := 3) (d := (some 68)) (v := ?_) rfl rfl (by kernel_rfl) (fun _ _ _ h => h) (by rfl) (fun w' hb' => ?_) ?_
                      rotate_left
                      · (try go_simp); (try with_reducible rfl)
                      try simp only [Act.put, List.setIfInBounds_toArray, List.set_cons_zero, List.set_cons_succ]
                      refine g_take (i := 4) (d := (some 69)) (v := ?_) rfl rfl (by kernel_rfl) (fun _ _ _ h => h) (by rfl) (fun w' hb' => ?_) ?_
                      rotate_left
                      · have c0 := (hb'.cell (p := ⟨pb, po + k * 3, none⟩) hpx).trans C0; have c1 := (hb'.cell (p := ⟨pb, po + k * 3 + 1, none⟩) hpx).trans C1; have c2 := (hb'.cell (p := ⟨pb, po + k * 3 + 2, none⟩) hpx).trans C2; obtain ⟨d0, d1, d2, df⟩ := block_cells3 ((hb'.block _ (lt_of_block q1)).trans q1); (try go_simp); (try with_reducible rfl)
                      try simp only [Act.put, List.setIfInBounds_toArray, List.set_cons_zero, List.set_cons_succ]
                      refine g_take (i := 5) (d := (some 70)) (v := ?_) rfl rfl (by kernel_rfl) (fun _ _ _ h => h) (by rfl) (fun w' hb' => ?_) ?_
                      rotate_left
                      · (try go_simp); (try with_reducible rfl)
                      try simp only [Act.put, List.setIfInBounds_toArray, List.set_cons_zero, List.set_cons_succ]
                      refine g_take (i := 6) (d := (some 71)) (v := ?_) rfl rfl (by kernel_rfl) (fun _ _ _ h => h) (by rfl) (fun w' hb' => ?_) ?_
                      rotate_left
                      · have c0 := (hb'.cell (p := ⟨pb, po + k * 3, none⟩) hpx).trans C0; have c1 := (hb'.cell (p := ⟨pb, po + k * 3 + 1, none⟩) hpx).trans C1; have c2 := (hb'.cell (p := ⟨pb, po + k * 3 + 2, none⟩) hpx).trans C2; obtain ⟨d0, d1, d2, df⟩ := block_cells3 ((hb'.block _ (lt_of_block q1)).trans q1); (try go_simp); (try with_reducible rfl)
                      try simp only [Act.put, List.setIfInBounds_toArray, List.set_cons_zero, List.set_cons_succ]
                      refine g_take (i := 7) (d := (some 72)) (v := ?_) rfl rfl (by kernel_rfl) (fun _ _ _ h => h) (by rfl) (fun w' hb' => ?_) ?_
                      rotate_left
                      · (try go_simp); (try with_reducible rfl)
                      try simp only [Act.put, List.setIfInBounds_toArray, List.set_cons_zero, List.set_cons_succ]
                      refine g_done (by kernel_rfl) ?_
                      go_wp2_with fail
                      refine g_start (by kernel_rfl) ?_
                      refine g_take (i := 0) (d := (some 73)) (v := ?_) rfl rfl (by kernel_rfl) (fun _ _ _ h => h) (by rfl) (fun w' hb' => ?_) ?_
                      rotate_left
                      · (try go_simp); (try with_reducible rfl)
                      try simp only [Act.put, List.setIfInBounds_toArray, List.set_cons_zero, List.set_cons_succ]
                      refine g_take (i := 1) (d := (some 74)) (v := ?_) rfl rfl (by kernel_rfl) (fun _ _ _ h => h) (by rfl) (fun w' hb' => ?_) ?_
                      rotate_left
                      · (try go_simp); (try with_reducible rfl)
                      try simp only [Act.put, List.setIfInBounds_toArray, List.set_cons_zero, List.set_cons_succ]
                      refine g_take (i := 2) (d := (some 75)) (v := ?_) rfl rfl (by kernel_rfl) (fun _ _ _ h => h) (by rfl) (fun w' hb' => ?_) ?_
                      rotate_left
                      · (try go_simp); (try with_reducible rfl)
                      try simp only [Act.put, List.setIfInBounds_toArray, List.set_cons_zero, List.set_cons_succ]
                      refine g_take (i := 3) (d := (some 76)) (v := ?_) rfl rfl (by kernel_rfl) (fun _ _ _ h => h) (by rfl) (fun w' hb' => ?_) ?_
                      rotate_left
                      · (try go_simp); (try with_reducible rfl)
                      try simp only [Act.put, List.setIfInBounds_toArray, List.set_cons_zero, List.set_cons_succ]
                      refine g_take (i := 4) (d := (some 77)) (v := ?_) rfl rfl (by kernel_rfl) (fun _ _ _ h => h) (by rfl) (fun w' hb' => ?_) ?_
                      rotate_left
                      · have c0 := (hb'.cell (p := ⟨pb, po + k * 3, none⟩) hpx).trans C0; have c1 := (hb'.cell (p := ⟨pb, po + k * 3 + 1, none⟩) hpx).trans C1; have c2 := (hb'.cell (p := ⟨pb, po + k * 3 + 2, none⟩) hpx).trans C2; obtain ⟨d0, d1, d2, df⟩ := block_cells3 ((hb'.block _ (lt_of_block q1)).trans q1); (try go_simp); (try with_reducible rfl)
                      try simp only [Act.put, List.setIfInBounds_toArray, List.set_cons_zero, List.set_cons_succ]
                      refine g_take (i := 5) (d := (some 78)) (v := ?_) rfl rfl (by kernel_rfl) (fun _ _ _ h => h) (by rfl) (fun w' hb' => ?_) ?_
                      rotate_left
                      · (try go_simp); (try with_reducible rfl)
                      try simp only [Act.put, List.setIfInBounds_toArray, List.set_cons_zero, List.set_cons_succ]
                      refine g_take (i := 6) (d := (some 79)) (v := ?_) rfl rfl (by kernel_rfl) (fun _ _ _ h => h) (by rfl) (fun w' hb' => ?_) ?_
                      rotate_left
                      · have c0 := (hb'.cell (p := ⟨pb, po + k * 3, none⟩) hpx).trans C0; have c1 := (hb'.cell (p := ⟨pb, po + k * 3 + 1, none⟩) hpx).trans C1; have c2 := (hb'.cell (p := ⟨pb, po + k * 3 + 2, none⟩) hpx).trans C2; obtain ⟨d0, d1, d2, df⟩ := block_cells3 ((hb'.block _ (lt_of_block q1)).trans q1); (try go_simp); (try with_reducible rfl)
                      try simp only [Act.put, List.setIfInBounds_toArray, List.set_cons_zero, List.set_cons_succ]
                      refine g_take (i := 7) (d := (some 80)) (v := ?_) rfl rfl (by kernel_rfl) (fun _ _ _ h => h) (by rfl) (fun w' hb' => ?_) ?_
                      rotate_left
                      · (try go_simp); (try with_reducible rfl)
                      try simp only [Act.put, List.setIfInBounds_toArray, List.set_cons_zero, List.set_cons_succ]
                      refine g_take (i := 8) (d := (some 81)) (v := ?_) rfl rfl (by kernel_rfl) (fun _ _ _ h => h) (by rfl) (fun w' hb' => ?_) ?_
                      rotate_left
                      · (try go_simp); (try with_reducible rfl)
                      try simp only [Act.put, List.setIfInBounds_toArray, List.set_cons_zero, List.set_cons_succ]
                      refine g_take (i := 9) (d := (some 82)) (v := ?_) rfl rfl (by kernel_rfl) (fun _ _ _ h => h) (by rfl) (fun w' hb' => ?_) ?_
                      rotate_left
                      · (try go_simp); (try with_reducible rfl)
                      try simp only [Act.put, List.setIfInBounds_toArray, List.set_cons_zero, List.set_cons_succ]
                      refine g_take (i := 10) (d := (some 83)) (v := ?_) rfl rfl (by kernel_rfl) (fun _ _ _ h => h) (by rfl) (fun w' hb' => ?_) ?_
                      rotate_left
                      · (try go_simp); (try with_reducible rfl)
                      try simp only [Act.put, List.setIfInBounds_toArray, List.set_cons_zero, List.set_cons_succ]
                      refine g_take (i := 11) (d := (some 84)) (v := ?_) rfl rfl (by kernel_rfl) (fun _ _ _ h => h) (by rfl) (fun w' hb' => ?_) ?_
                      rotate_left
                      · (try go_simp); (try with_reducible rfl)
                      try simp only [Act.put, List.setIfInBounds_toArray, List.set_cons_zero, List.set_cons_succ]
                      refine g_take (i := 12) (d := (some 85)) (v := ?_) rfl rfl (by kernel_rfl) (fun _ _ _ h => h) (by rfl) (fun w' hb' => ?_) ?_
                      rotate_left
                      · (try go_simp); (try with_reducible rfl)
                      try simp only [Act.put, List.setIfInBounds_toArray, List.set_cons_zero, List.set_cons_succ]
                      refine g_take (i := 13) (d := (some 86)) (v := ?_) rfl rfl (by kernel_rfl) (fun _ _ _ h => h) (by rfl) (fun w' hb' => ?_) ?_
                      rotate_left
                      · have c0 := (hb'.cell (p := ⟨pb, po + k * 3, none⟩) hpx).trans C0; have c1 := (hb'.cell (p := ⟨pb, po + k * 3 + 1, none⟩) hpx).trans C1; have c2 := (hb'.cell (p := ⟨pb, po + k * 3 + 2, none⟩) hpx).trans C2; obtain ⟨d0, d1, d2, df⟩ := block_cells3 ((hb'.block _ (lt_of_block q1)).trans q1); (try go_simp); (try with_reducible rfl)
                      try simp only [Act.put, List.setIfInBounds_toArray, List.set_cons_zero, List.set_cons_succ]
                      refine g_take (i := 14) (d := (some 87)) (v := ?_) rfl rfl (by kernel_rfl) (fun _ _ _ h => h) (by rfl) (fun w' hb' => ?_) ?_
                      rotate_left
                      · (try go_simp); (try with_reducible rfl)
                      try simp only [Act.put, List.setIfInBounds_toArray, List.set_cons_zero, List.set_cons_succ]
                      refine g_take (i := 15) (d := (some 88)) (v := ?_) rfl rfl (by kernel_rfl) (fun _ _ _ h => h) (by rfl) (fun w' hb' => ?_) ?_
                      rotate_left
                      · have c0 := (hb'.cell (p := ⟨pb, po + k * 3, none⟩) hpx).trans C0; have c1 := (hb'.cell (p := ⟨pb, po + k * 3 + 1, none⟩) hpx).trans C1; have c2 := (hb'.cell (p := ⟨pb, po + k * 3 + 2, none⟩) hpx).trans C2; obtain ⟨d0, d1, d2, df⟩ := block_cells3 ((hb'.block _ (lt_of_block q1)).trans q1); (try go_simp); (try with_reducible rfl)
                      try simp only [Act.put, List.setIfInBounds_toArray, List.set_cons_zero, List.set_cons_succ]
                      refine g_take (i := 16) (d := (some 89)) (v := ?_) rfl rfl (by kernel_rfl) (fun _ _ _ h => h) (by rfl) (fun w' hb' => ?_) ?_
                      rotate_left
                      · (try go_simp); (try with_reducible rfl)
                      try simp only [Act.put, List.setIfInBounds_toArray, List.set_cons_zero, List.set_cons_succ]
                      refine g_take (i := 17) (d := (some 90)) (v := ?_) rfl rfl (by kernel_rfl) (fun _ _ _ h => h) (by rfl) (fun w' hb' => ?_) ?_
                      rotate_left
                      · (try go_simp); (try with_reducible rfl)
                      try simp only [Act.put, List.setIfInBounds_toArray, List.set_cons_zero, List.set_cons_succ]
                      refine g_done (by kernel_rfl) ?_
                      go_wp2_with fail
                      show Z (.returned _) _
                      rw [HZ.out]
                      exact ⟨none, 0, 0, by rw [← HEE.out, HC.out]; rfl, by rw [← HEE.out, HC.out, if_neg (by decide)]; exact rdk_nil _, chain B0 bel.drew.drew.drew.drew⟩
                    · have ft : (yc == c) = false := by simpa using ht
                      have HA2 := Lib.hid (show acc = l.take P ++ ⟨a, b, c⟩ :: (l.take (k + 1)).filter (fun x => decide (a < x.fr)) by
                        rw [HA.out, List.take_succ_eq_append_getElem hlt, ← HY.out, List.filter_append, List.filter_cons, if_neg (by simpa using hg)]; simp)
                      have HE0 := layE_hit (v := ⟨a, b, c⟩) HS.out hlt (by rw [← HY.out]; exact he)
                      rw [← HY.out] at HE0
                      simp only at HE0
                      have HC := Lib.hid (show layE l ⟨a, b, c⟩ = 23 by rw [HE0]; simp [hw, hv, ht]; try omega)
                      clear HE0
                      clear he hv ht
                      refine g_start (by kernel_rfl) ?_
                      refine g_take (i := 0) (d := (some 42)) (v := ?_) rfl rfl (by kernel_rfl) (fun _ _ _ h => h) (by rfl) (fun w' hb' => ?_) ?_
                      rotate_left
                      · (try go_simp); (try with_reducible rfl)
                      try simp only [Act.put, List.setIfInBounds_toArray, List.set_cons_zero, List.set_cons_succ]
                      refine g_take (i := 1) (d := (some 43)) (v := ?_) rfl rfl (by kernel_rfl) (fun _ _ _ h => h) (by rfl) (fun w' hb' => ?_) ?_
                      rotate_left
                      · (try go_simp); (try with_reducible rfl)
                      try simp only [Act.put, List.setIfInBounds_toArray, List.set_cons_zero, List.set_cons_succ]
                      refine g_take (i := 2) (d := (some 44)) (v := ?_) rfl rfl (by kernel_rfl) (fun _ _ _ h => h) (by rfl) (fun w' hb' => ?_) ?_
                      rotate_left
                      · (try go_simp); (try with_reducible rfl)
                      try simp only [Act.put, List.setIfInBounds_toArray, List.set_cons_zero, List.set_cons_succ]
                      refine g_take (i := 3) (d := (some 45)) (v := ?_) rfl rfl (by kernel_rfl) (fun _ _ _ h => h) (by rfl) (fun w' hb' => ?_) ?_
                      rotate_left
                      · (try go_simp); (try with_reducible rfl)
                      try simp only [Act.put, List.setIfInBounds_toArray, List.set_cons_zero, List.set_cons_succ]
                      refine g_take (i := 4) (d := (some 46)) (v := ?_) rfl rfl (by kernel_rfl) (fun _ _ _ h => h) (by rfl) (fun w' hb' => ?_) ?_
                      rotate_left
                      · have c0 := (hb'.cell (p := ⟨pb, po + k * 3, none⟩) hpx).trans C0; have c1 := (hb'.cell (p := ⟨pb, po + k * 3 + 1, none⟩) hpx).trans C1; have c2 := (hb'.cell (p := ⟨pb, po + k * 3 + 2, none⟩) hpx).trans C2; obtain ⟨d0, d1, d2, df⟩ := block_cells3 ((hb'.block _ (lt_of_block q1)).trans q1); (try go_simp); (try with_reducible rfl)
                      try simp only [Act.put, List.setIfInBounds_toArray, List.set_cons_zero, List.set_cons_succ]
                      refine g_take (i := 5) (d := (some 47)) (v := ?_) rfl rfl (by kernel_rfl) (fun _ _ _ h => h) (by rfl) (fun w' hb' => ?_) ?_
                      rotate_left
                      · (try go_simp); (try with_reducible rfl)
                      try simp only [Act.put, List.setIfInBounds_toArray, List.set_cons_zero, List.set_cons_succ]
                      refine g_take (i := 6) (d := (some 48)) (v := ?_) rfl rfl (by kernel_rfl) (fun _ _ _ h => h) (by rfl) (fun w' hb' => ?_) ?_
                      rotate_left
                      · have c0 := (hb'.cell (p := ⟨pb, po + k * 3, none⟩) hpx).trans C0; have c1 := (hb'.cell (p := ⟨pb, po + k * 3 + 1, none⟩) hpx).trans C1; have c2 := (hb'.cell (p := ⟨pb, po + k * 3 + 2, none⟩) hpx).trans C2; obtain ⟨d0, d1, d2, df⟩ := block_cells3 ((hb'.block _ (lt_of_block q1)).trans q1); (try go_simp); (try with_reducible rfl)
                      try simp only [Act.put, List.setIfInBounds_toArray, List.set_cons_zero, List.set_cons_succ]
                      refine g_take (i := 7) (d := (some 49)) (v := ?_) rfl rfl (by kernel_rfl) (fun _ _ _ h => h) (by rfl) (fun w' hb' => ?_) ?_
                      rotate_left
                      · (try go_simp); (try with_reducible rfl)
                      try simp only [Act.put, List.setIfInBounds_toArray, List.set_cons_zero, List.set_cons_succ]
                      refine g_done (by kernel_rfl) ?_
                      go_wp2_with fail
                      refine g_start (by kernel_rfl) ?_
                      refine g_take (i := 0) (d := (some 57)) (v := ?_) rfl rfl (by kernel_rfl) (fun _ _ _ h => h) (by rfl) (fun w' hb' => ?_) ?_
                      rotate_left
                      · (try go_simp); (try with_reducible rfl)
                      try simp only [Act.put, List.setIfInBounds_toArray, List.set_cons_zero, List.set_cons_succ]
                      refine g_take (i := 1) (d := (some 58)) (v := ?_) rfl rfl (by kernel_rfl) (fun _ _ _ h => h) (by rfl) (fun w' hb' => ?_) ?_
                      rotate_left
                      · (try go_simp); (try with_reducible rfl)
                      try simp only [Act.put, List.setIfInBounds_toArray, List.set_cons_zero, List.set_cons_succ]
                      refine g_take (i := 2) (d := (some 59)) (v := ?_) rfl rfl (by kernel_rfl) (fun _ _ _ h => h) (by rfl) (fun w' hb' => ?_) ?_
                      rotate_left
                      · (try go_simp); (try with_reducible rfl)
                      try simp only [Act.put, List.setIfInBounds_toArray, List.set_cons_zero, List.set_cons_succ]
                      refine g_take (i := 3) (d := (some 60)) (v := ?_) rfl rfl (by kernel_rfl) (fun _ _ _ h => h) (by rfl) (fun w' hb' => ?_) ?_
                      rotate_left
                      · (try go_simp); (try with_reducible rfl)
                      try simp only [Act.put, List.setIfInBounds_toArray, List.set_cons_zero, List.set_cons_succ]
                      refine g_take (i := 4) (d := (some 61)) (v := ?_) rfl rfl (by kernel_rfl) (fun _ _ _ h => h) (by rfl) (fun w' hb' => ?_) ?_
                      rotate_left
                      · have c0 := (hb'.cell (p := ⟨pb, po + k * 3, none⟩) hpx).trans C0; have c1 := (hb'.cell (p := ⟨pb, po + k * 3 + 1, none⟩) hpx).trans C1; have c2 := (hb'.cell (p := ⟨pb, po + k * 3 + 2, none⟩) hpx).trans C2; obtain ⟨d0, d1, d2, df⟩ := block_cells3 ((hb'.block _ (lt_of_block q1)).trans q1); (try go_simp); (try with_reducible rfl)
                      try simp only [Act.put, List.setIfInBounds_toArray, List.set_cons_zero, List.set_cons_succ]
                      refine g_take (i := 5) (d := (some 62)) (v := ?_) rfl rfl (by kernel_rfl) (fun _ _ _ h => h) (by rfl) (fun w' hb' => ?_) ?_
                      rotate_left
                      · (try go_simp); (try with_reducible rfl)
                      try simp only [Act.put, List.setIfInBounds_toArray, List.set_cons_zero, List.set_cons_succ]
                      refine g_take (i := 6) (d := (some 63)) (v := ?_) rfl rfl (by kernel_rfl) (fun _ _ _ h => h) (by rfl) (fun w' hb' => ?_) ?_
                      rotate_left
                      · have c0 := (hb'.cell (p := ⟨pb, po + k * 3, none⟩) hpx).trans C0; have c1 := (hb'.cell (p := ⟨pb, po + k * 3 + 1, none⟩) hpx).trans C1; have c2 := (hb'.cell (p := ⟨pb, po + k * 3 + 2, none⟩) hpx).trans C2; obtain ⟨d0, d1, d2, df⟩ := block_cells3 ((hb'.block _ (lt_of_block q1)).trans q1); (try go_simp); (try with_reducible rfl)
                      try simp only [Act.put, List.setIfInBounds_toArray, List.set_cons_zero, List.set_cons_succ]
                      refine g_take (i := 7) (d := (some 64)) (v := ?_) rfl rfl (by kernel_rfl) (fun _ _ _ h => h) (by rfl) (fun w' hb' => ?_) ?_
                      rotate_left
                      · (try go_simp); (try with_reducible rfl)
                      try simp only [Act.put, List.setIfInBounds_toArray, List.set_cons_zero, List.set_cons_succ]
                      refine g_done (by kernel_rfl) ?_
                      go_wp2_with fail
                      refine g_start (by kernel_rfl) ?_
                      refine g_take (i := 0) (d := (some 65)) (v := ?_) rfl rfl (by kernel_rfl) (fun _ _ _ h => h) (by rfl) (fun w' hb' => ?_) ?_
                      rotate_left
                      · (try go_simp); (try with_reducible rfl)
                      try simp only [Act.put, List.setIfInBounds_toArray, List.set_cons_zero, List.set_cons_succ]
                      refine g_take (i := 1) (d := (some 66)) (v := ?_) rfl rfl (by kernel_rfl) (fun _ _ _ h => h) (by rfl) (fun w' hb' => ?_) ?_
                      rotate_left
                      · (try go_simp); (try with_reducible rfl)
                      try simp only [Act.put, List.setIfInBounds_toArray, List.set_cons_zero, List.set_cons_succ]
                      refine g_take (i := 2) (d := (some 67)) (v := ?_) rfl rfl (by kernel_rfl) (fun _ _ _ h => h) (by rfl) (fun w' hb' => ?_) ?_
                      rotate_left
                      · (try go_simp); (try with_reducible rfl)
                      try simp only [Act.put, List.setIfInBounds_toArray, List.set_cons_zero, List.set_cons_succ]
                      refine g_take (i := 3) (d := (some 68)) (v := ?_) rfl rfl (by kernel_rfl) (fun _ _ _ h => h) (by rfl) (fun w' hb' => ?_) ?_
                      rotate_left
                      · (try go_simp); (try with_reducible rfl)
                      try simp only [Act.put, List.setIfInBounds_toArray, List.set_cons_zero, List.set_cons_succ]
                      refine g_take (i := 4) (d := (some 69)) (v := ?_) rfl rfl (by kernel_rfl) (fun _ _ _ h => h) (by rfl) (fun w' hb' => ?_) ?_
                      rotate_left
                      · have c0 := (hb'.cell (p := ⟨pb, po + k * 3, none⟩) hpx).trans C0; have c1 := (hb'.cell (p := ⟨pb, po + k * 3 + 1, none⟩) hpx).trans C1; have c2 := (hb'.cell (p := ⟨pb, po + k * 3 + 2, none⟩) hpx).trans C2; obtain ⟨d0, d1, d2, df⟩ := block_cells3 ((hb'.block _ (lt_of_block q1)).trans q1); (try go_simp); (try with_reducible rfl)
                      try simp only [Act.put, List.setIfInBounds_toArray, List.set_cons_zero, List.set_cons_succ]
                      refine g_take (i := 5) (d := (some 70)) (v := ?_) rfl rfl (by kernel_rfl) (fun _ _ _ h => h) (by rfl) (fun w' hb' => ?_) ?_
                      rotate_left
                      · (try go_simp); (try with_reducible rfl)
                      try simp only [Act.put, List.setIfInBounds_toArray, List.set_cons_zero, List.set_cons_succ]
                      refine g_take (i := 6) (d := (some 71)) (v := ?_) rfl rfl (by kernel_rfl) (fun _ _ _ h => h) (by rfl) (fun w' hb' => ?_) ?_
                      rotate_left
                      · have c0 := (hb'.cell (p := ⟨pb, po + k * 3, none⟩) hpx).trans C0; have c1 := (hb'.cell (p := ⟨pb, po + k * 3 + 1, none⟩) hpx).trans C1; have c2 := (hb'.cell (p := ⟨pb, po + k * 3 + 2, none⟩) hpx).trans C2; obtain ⟨d0, d1, d2, df⟩ := block_cells3 ((hb'.block _ (lt_of_block q1)).trans q1); (try go_simp); (try with_reducible rfl)
                      try simp only [Act.put, List.setIfInBounds_toArray, List.set_cons_zero, List.set_cons_succ]
                      refine g_take (i := 7) (d := (some 72)) (v := ?_) rfl rfl (by kernel_rfl) (fun _ _ _ h => h) (by rfl) (fun w' hb' => ?_) ?_
                      rotate_left
                      · (try go_simp); (try with_reducible rfl)
                      try simp only [Act.put, List.setIfInBounds_toArray, List.set_cons_zero, List.set_cons_succ]
                      refine g_done (by kernel_rfl) ?_
                      go_wp2_with fail
                      refine g_start (by kernel_rfl) ?_
                      refine g_take (i := 0) (d := (some 73)) (v := ?_) rfl rfl (by kernel_rfl) (fun _ _ _ h => h) (by rfl) (fun w' hb' => ?_) ?_
                      rotate_left
                      · (try go_simp); (try with_reducible rfl)
                      try simp only [Act.put, List.setIfInBounds_toArray, List.set_cons_zero, List.set_cons_succ]
                      refine g_take (i := 1) (d := (some 74)) (v := ?_) rfl rfl (by kernel_rfl) (fun _ _ _ h => h) (by rfl) (fun w' hb' => ?_) ?_
                      rotate_left
                      · (try go_simp); (try with_reducible rfl)
                      try simp only [Act.put, List.setIfInBounds_toArray, List.set_cons_zero, List.set_cons_succ]
                      refine g_take (i := 2) (d := (some 75)) (v := ?_) rfl rfl (by kernel_rfl) (fun _ _ _ h => h) (by rfl) (fun w' hb' => ?_) ?_
                      rotate_left
                      · (try go_simp); (try with_reducible rfl)
                      try simp only [Act.put, List.setIfInBounds_toArray, List.set_cons_zero, List.set_cons_succ]
                      refine g_take (i := 3) (d := (some 76)) (v := ?_) rfl rfl (by kernel_rfl) (fun _ _ _ h => h) (by rfl) (fun w' hb' => ?_) ?_
                      rotate_left
                      · (try go_simp); (try with_reducible rfl)
                      try simp only [Act.put, List.setIfInBounds_toArray, List.set_cons_zero, List.set_cons_succ]
                      refine g_take (i := 4) (d := (some 77)) (v := ?_) rfl rfl (by kernel_rfl) (fun _ _ _ h => h) (by rfl) (fun w' hb' => ?_) ?_
                      rotate_left
                      · have c0 := (hb'.cell (p := ⟨pb, po + k * 3, none⟩) hpx).trans C0; have c1 := (hb'.cell (p := ⟨pb, po + k * 3 + 1, none⟩) hpx).trans C1; have c2 := (hb'.cell (p := ⟨pb, po + k * 3 + 2, none⟩) hpx).trans C2; obtain ⟨d0, d1, d2, df⟩ := block_cells3 ((hb'.block _ (lt_of_block q1)).trans q1); (try go_simp); (try with_reducible rfl)
                      try simp only [Act.put, List.setIfInBounds_toArray, List.set_cons_zero, List.set_cons_succ]
                      refine g_take (i := 5) (d := (some 78)) (v := ?_) rfl rfl (by kernel_rfl) (fun _ _ _ h => h) (by rfl) (fun w' hb' => ?_) ?_
                      rotate_left
                      · (try go_simp); (try with_reducible rfl)
                      try simp only [Act.put, List.setIfInBounds_toArray, List.set_cons_zero, List.set_cons_succ]
                      refine g_take (i := 6) (d := (some 79)) (v := ?_) rfl rfl (by kernel_rfl) (fun _ _ _ h => h) (by rfl) (fun w' hb' => ?_) ?_
                      rotate_left
                      · have c0 := (hb'.cell (p := ⟨pb, po + k * 3, none⟩) hpx).trans C0; have c1 := (hb'.cell (p := ⟨pb, po + k * 3 + 1, none⟩) hpx).trans C1; have c2 := (hb'.cell (p := ⟨pb, po + k * 3 + 2, none⟩) hpx).trans C2; obtain ⟨d0, d1, d2, df⟩ := block_cells3 ((hb'.block _ (lt_of_block q1)).trans q1); (try go_simp); (try with_reducible rfl)
                      try simp only [Act.put, List.setIfInBounds_toArray, List.set_cons_zero, List.set_cons_succ]
                      refine g_take (i := 7) (d := (some 80)) (v := ?_) rfl rfl (by kernel_rfl) (fun _ _ _ h => h) (by rfl) (fun w' hb' => ?_) ?_
                      rotate_left
                      · (try go_simp); (try with_reducible rfl)
                      try simp only [Act.put, List.setIfInBounds_toArray, List.set_cons_zero, List.set_cons_succ]
                      refine g_take (i := 8) (d := (some 81)) (v := ?_) rfl rfl (by kernel_rfl) (fun _ _ _ h => h) (by rfl) (fun w' hb' => ?_) ?_
                      rotate_left
                      · (try go_simp); (try with_reducible rfl)
                      try simp only [Act.put, List.setIfInBounds_toArray, List.set_cons_zero, List.set_cons_succ]
                      refine g_take (i := 9) (d := (some 82)) (v := ?_) rfl rfl (by kernel_rfl) (fun _ _ _ h => h) (by rfl) (fun w' hb' => ?_) ?_
                      rotate_left
                      · (try go_simp); (try with_reducible rfl)
                      try simp only [Act.put, List.setIfInBounds_toArray, List.set_cons_zero, List.set_cons_succ]
                      refine g_take (i := 10) (d := (some 83)) (v := ?_) rfl rfl (by kernel_rfl) (fun _ _ _ h => h) (by rfl) (fun w' hb' => ?_) ?_
                      rotate_left
                      · (try go_simp); (try with_reducible rfl)
                      try simp only [Act.put, List.setIfInBounds_toArray, List.set_cons_zero, List.set_cons_succ]
                      refine g_take (i := 11) (d := (some 84)) (v := ?_) rfl rfl (by kernel_rfl) (fun _ _ _ h => h) (by rfl) (fun w' hb' => ?_) ?_
                      rotate_left
                      · (try go_simp); (try with_reducible rfl)
                      try simp only [Act.put, List.setIfInBounds_toArray, List.set_cons_zero, List.set_cons_succ]
                      refine g_take (i := 12) (d := (some 85)) (v := ?_) rfl rfl (by kernel_rfl) (fun _ _ _ h => h) (by rfl) (fun w' hb' => ?_) ?_
                      rotate_left
                      · (try go_simp); (try with_reducible rfl)
                      try simp only [Act.put, List.setIfInBounds_toArray, List.set_cons_zero, List.set_cons_succ]
                      refine g_take (i := 13) (d := (some 86)) (v := ?_) rfl rfl (by kernel_rfl) (fun _ _ _ h => h) (by rfl) (fun w' hb' => ?_) ?_
                      rotate_left
                      · have c0 := (hb'.cell (p := ⟨pb, po + k * 3, none⟩) hpx).trans C0; have c1 := (hb'.cell (p := ⟨pb, po + k * 3 + 1, none⟩) hpx).trans C1; have c2 := (hb'.cell (p := ⟨pb, po + k * 3 + 2, none⟩) hpx).trans C2; obtain ⟨d0, d1, d2, df⟩ := block_cells3 ((hb'.block _ (lt_of_block q1)).trans q1); (try go_simp); (try with_reducible rfl)
                      try simp only [Act.put, List.setIfInBounds_toArray, List.set_cons_zero, List.set_cons_succ]
                      refine g_take (i := 14) (d := (some 87)) (v := ?_) rfl rfl (by kernel_rfl) (fun _ _ _ h => h) (by rfl) (fun w' hb' => ?_) ?_
                      rotate_left
                      · (try go_simp); (try with_reducible rfl)
                      try simp only [Act.put, List.setIfInBounds_toArray, List.set_cons_zero, List.set_cons_succ]
                      refine g_take (i := 15) (d := (some 88)) (v := ?_) rfl rfl (by kernel_rfl) (fun _ _ _ h => h) (by rfl) (fun w' hb' => ?_) ?_
                      rotate_left
                      · have c0 := (hb'.cell (p := ⟨pb, po + k * 3, none⟩) hpx).trans C0; have c1 := (hb'.cell (p := ⟨pb, po + k * 3 + 1, none⟩) hpx).trans C1; have c2 := (hb'.cell (p := ⟨pb, po + k * 3 + 2, none⟩) hpx).trans C2; obtain ⟨d0, d1, d2, df⟩ := block_cells3 ((hb'.block _ (lt_of_block q1)).trans q1); (try go_simp); (try with_reducible rfl)
                      try simp only [Act.put, List.setIfInBounds_toArray, List.set_cons_zero, List.set_cons_succ]
                      refine g_take (i := 16) (d := (some 89)) (v := ?_) rfl rfl (by kernel_rfl) (fun _ _ _ h => h) (by rfl) (fun w' hb' => ?_) ?_
                      rotate_left
                      · (try go_simp); (try with_reducible rfl)
                      try simp only [Act.put, List.setIfInBounds_toArray, List.set_cons_zero, List.set_cons_succ]
                      refine g_take (i := 17) (d := (some 90)) (v := ?_) rfl rfl (by kernel_rfl) (fun _ _ _ h => h) (by rfl) (fun w' hb' => ?_) ?_
                      rotate_left
                      · (try go_simp); (try with_reducible rfl)
                      try simp only [Act.put, List.setIfInBounds_toArray, List.set_cons_zero, List.set_cons_succ]
                      refine g_done (by kernel_rfl) ?_
                      go_wp2_with fail
                      refine g_start (by kernel_rfl) ?_
                      refine g_take (i := 0) (d := (some 91)) (v := ?_) rfl rfl (by kernel_rfl) (fun _ _ _ h => h) (by rfl) (fun w' hb' => ?_) ?_
                      rotate_left
                      · (try go_simp); (try with_reducible rfl)
                      try simp only [Act.put, List.setIfInBounds_toArray, List.set_cons_zero, List.set_cons_succ]
                      refine g_take (i := 1) (d := (some 92)) (v := ?_) rfl rfl (by kernel_rfl) (fun _ _ _ h => h) (by rfl) (fun w' hb' => ?_) ?_
                      rotate_left
                      · (try go_simp); (try with_reducible rfl)
                      try simp only [Act.put, List.setIfInBounds_toArray, List.set_cons_zero, List.set_cons_succ]
                      refine g_take (i := 2) (d := (some 93)) (v := ?_) rfl rfl (by kernel_rfl) (fun _ _ _ h => h) (by rfl) (fun w' hb' => ?_) ?_
                      rotate_left
                      · (try go_simp); (try with_reducible rfl)
                      try simp only [Act.put, List.setIfInBounds_toArray, List.set_cons_zero, List.set_cons_succ]
                      refine g_take (i := 3) (d := (some 94)) (v := ?_) rfl rfl (by kernel_rfl) (fun _ _ _ h => h) (by rfl) (fun w' hb' => ?_) ?_
                      rotate_left
                      · (try go_simp); (try with_reducible rfl)
                      try simp only [Act.put, List.setIfInBounds_toArray, List.set_cons_zero, List.set_cons_succ]
                      refine g_take (i := 4) (d := (some 95)) (v := ?_) rfl rfl (by kernel_rfl) (fun _ _ _ h => h) (by rfl) (fun w' hb' => ?_) ?_
                      rotate_left
                      · have c0 := (hb'.cell (p := ⟨pb, po + k * 3, none⟩) hpx).trans C0; have c1 := (hb'.cell (p := ⟨pb, po + k * 3 + 1, none⟩) hpx).trans C1; have c2 := (hb'.cell (p := ⟨pb, po + k * 3 + 2, none⟩) hpx).trans C2; obtain ⟨d0, d1, d2, df⟩ := block_cells3 ((hb'.block _ (lt_of_block q1)).trans q1); (try go_simp); (try with_reducible rfl)
                      try simp only [Act.put, List.setIfInBounds_toArray, List.set_cons_zero, List.set_cons_succ]
                      refine g_take (i := 5) (d := (some 96)) (v := ?_) rfl rfl (by kernel_rfl) (fun _ _ _ h => h) (by rfl) (fun w' hb' => ?_) ?_
                      rotate_left
                      · (try go_simp); (try with_reducible rfl)
                      try simp only [Act.put, List.setIfInBounds_toArray, List.set_cons_zero, List.set_cons_succ]
                      refine g_take (i := 6) (d := (some 97)) (v := ?_) rfl rfl (by kernel_rfl) (fun _ _ _ h => h) (by rfl) (fun w' hb' => ?_) ?_
                      rotate_left
                      · have c0 := (hb'.cell (p := ⟨pb, po + k * 3, none⟩) hpx).trans C0; have c1 := (hb'.cell (p := ⟨pb, po + k * 3 + 1, none⟩) hpx).trans C1; have c2 := (hb'.cell (p := ⟨pb, po + k * 3 + 2, none⟩) hpx).trans C2; obtain ⟨d0, d1, d2, df⟩ := block_cells3 ((hb'.block _ (lt_of_block q1)).trans q1); (try go_simp); (try with_reducible rfl)
                      try simp only [Act.put, List.setIfInBounds_toArray, List.set_cons_zero, List.set_cons_succ]
                      refine g_take (i := 7) (d := (some 98)) (v := ?_) rfl rfl (by kernel_rfl) (fun _ _ _ h => h) (by rfl) (fun w' hb' => ?_) ?_
                      rotate_left
                      · (try go_simp); (try with_reducible rfl)
                      try simp only [Act.put, List.setIfInBounds_toArray, List.set_cons_zero, List.set_cons_succ]
                      refine g_done (by kernel_rfl) ?_
                      go_wp2_with fail
                      show Z (.returned _) _
                      rw [HZ.out]
                      exact ⟨none, 0, 0, by rw [← HEE.out, HC.out]; rfl, by rw [← HEE.out, HC.out, if_neg (by decide)]; exact rdk_nil _, chain B0 bel.drew.drew.drew.drew.drew⟩
                  · have fv : (yb == b) = false := by simpa using hv
                    have HA2 := Lib.hid (show acc = l.take P ++ ⟨a, b, c⟩ :: (l.take (k + 1)).filter (fun x => decide (a < x.fr)) by
                      rw [HA.out, List.take_succ_eq_append_getElem hlt, ← HY.out, List.filter_append, List.filter_cons, if_neg (by simpa using hg)]; simp)
                    have HE0 := layE_hit (v := ⟨a, b, c⟩) HS.out hlt (by rw [← HY.out]; exact he)
                    rw [← HY.out] at HE0
                    simp only at HE0
                    have HN2 := Lib.hid (noE_up HN.out hlt (fun _ => by rw [HE0, if_neg hw, if_neg hv]))
                    clear HE0
                    clear he hv
                    refine g_start (by kernel_rfl) ?_
                    refine g_take (i := 0) (d := (some 42)) (v := ?_) rfl rfl (by kernel_rfl) (fun _ _ _ h => h) (by rfl) (fun w' hb' => ?_) ?_
                    rotate_left
                    · (try go_simp); (try with_reducible rfl)
                    try simp only [Act.put, List.setIfInBounds_toArray, List.set_cons_zero, List.set_cons_succ]
                    refine g_take (i := 1) (d := (some 43)) (v := ?_) rfl rfl (by kernel_rfl) (fun _ _ _ h => h) (by rfl) (fun w' hb' => ?_) ?_
                    rotate_left
                    · (try go_simp); (try with_reducible rfl)
                    try simp only [Act.put, List.setIfInBounds_toArray, List.set_cons_zero, List.set_cons_succ]
                    refine g_take (i := 2) (d := (some 44)) (v := ?_) rfl rfl (by kernel_rfl) (fun _ _ _ h => h) (by rfl) (fun w' hb' => ?_) ?_
                    rotate_left
                    · (try go_simp); (try with_reducible rfl)
                    try simp only [Act.put, List.setIfInBounds_toArray, List.set_cons_zero, List.set_cons_succ]
                    refine g_take (i := 3) (d := (some 45)) (v := ?_) rfl rfl (by kernel_rfl) (fun _ _ _ h => h) (by rfl) (fun w' hb' => ?_) ?_
                    rotate_left
                    · (try go_simp); (try with_reducible rfl)
                    try simp only [Act.put, List.setIfInBounds_toArray, List.set_cons_zero, List.set_cons_succ]
                    refine g_take (i := 4) (d := (some 46)) (v := ?_) rfl rfl (by kernel_rfl) (fun _ _ _ h => h) (by rfl) (fun w' hb' => ?_) ?_
                    rotate_left
                    · have c0 := (hb'.cell (p := ⟨pb, po + k * 3, none⟩) hpx).trans C0; have c1 := (hb'.cell (p := ⟨pb, po + k * 3 + 1, none⟩) hpx).trans C1; have c2 := (hb'.cell (p := ⟨pb, po + k * 3 + 2, none⟩) hpx).trans C2; obtain ⟨d0, d1, d2, df⟩ := block_cells3 ((hb'.block _ (lt_of_block q1)).trans q1); (try go_simp); (try with_reducible rfl)
                    try simp only [Act.put, List.setIfInBounds_toArray, List.set_cons_zero, List.set_cons_succ]
                    refine g_take (i := 5) (d := (some 47)) (v := ?_) rfl rfl (by kernel_rfl) (fun _ _ _ h => h) (by rfl) (fun w' hb' => ?_) ?_
                    rotate_left
                    · (try go_simp); (try with_reducible rfl)
                    try simp only [Act.put, List.setIfInBounds_toArray, List.set_cons_zero, List.set_cons_succ]
                    refine g_take (i := 6) (d := (some 48)) (v := ?_) rfl rfl (by kernel_rfl) (fun _ _ _ h => h) (by rfl) (fun w' hb' => ?_) ?_
                    rotate_left
                    · have c0 := (hb'.cell (p := ⟨pb, po + k * 3, none⟩) hpx).trans C0; have c1 := (hb'.cell (p := ⟨pb, po + k * 3 + 1, none⟩) hpx).trans C1; have c2 := (hb'.cell (p := ⟨pb, po + k * 3 + 2, none⟩) hpx).trans C2; obtain ⟨d0, d1, d2, df⟩ := block_cells3 ((hb'.block _ (lt_of_block q1)).trans q1); (try go_simp); (try with_reducible rfl)
                    try simp only [Act.put, List.setIfInBounds_toArray, List.set_cons_zero, List.set_cons_succ]
                    refine g_take (i := 7) (d := (some 49)) (v := ?_) rfl rfl (by kernel_rfl) (fun _ _ _ h => h) (by rfl) (fun w' hb' => ?_) ?_
                    rotate_left
                    · (try go_simp); (try with_reducible rfl)
                    try simp only [Act.put, List.setIfInBounds_toArray, List.set_cons_zero, List.set_cons_succ]
                    refine g_done (by kernel_rfl) ?_
                    go_wp2_with fail
                    refine g_start (by kernel_rfl) ?_
                    refine g_take (i := 0) (d := (some 57)) (v := ?_) rfl rfl (by kernel_rfl) (fun _ _ _ h => h) (by rfl) (fun w' hb' => ?_) ?_
                    rotate_left
                    · (try go_simp); (try with_reducible rfl)
                    try simp only [Act.put, List.setIfInBounds_toArray, List.set_cons_zero, List.set_cons_succ]
                    refine g_take (i := 1) (d := (some 58)) (v := ?_) rfl rfl (by kernel_rfl) (fun _ _ _ h => h) (by rfl) (fun w' hb' => ?_) ?_
                    rotate_left
                    · (try go_simp); (try with_reducible rfl)
                    try simp only [Act.put, List.setIfInBounds_toArray, List.set_cons_zero, List.set_cons_succ]
                    refine g_take (i := 2) (d := (some 59)) (v := ?_) rfl rfl (by kernel_rfl) (fun _ _ _ h => h) (by rfl) (fun w' hb' => ?_) ?_
                    rotate_left
                    · (try go_simp); (try with_reducible rfl)
                    try simp only [Act.put, List.setIfInBounds_toArray, List.set_cons_zero, List.set_cons_succ]
                    refine g_take (i := 3) (d := (some 60)) (v := ?_) rfl rfl (by kernel_rfl) (fun _ _ _ h => h) (by rfl) (fun w' hb' => ?_) ?_
                    rotate_left
                    · (try go_simp); (try with_reducible rfl)
                    try simp only [Act.put, List.setIfInBounds_toArray, List.set_cons_zero, List.set_cons_succ]
                    refine g_take (i := 4) (d := (some 61)) (v := ?_) rfl rfl (by kernel_rfl) (fun _ _ _ h => h) (by rfl) (fun w' hb' => ?_) ?_
                    rotate_left
                    · have c0 := (hb'.cell (p := ⟨pb, po + k * 3, none⟩) hpx).trans C0; have c1 := (hb'.cell (p := ⟨pb, po + k * 3 + 1, none⟩) hpx).trans C1; have c2 := (hb'.cell (p := ⟨pb, po + k * 3 + 2, none⟩) hpx).trans C2; obtain ⟨d0, d1, d2, df⟩ := block_cells3 ((hb'.block _ (lt_of_block q1)).trans q1); (try go_simp); (try with_reducible rfl)
                    try simp only [Act.put, List.setIfInBounds_toArray, List.set_cons_zero, List.set_cons_succ]
                    refine g_take (i := 5) (d := (some 62)) (v := ?_) rfl rfl (by kernel_rfl) (fun _ _ _ h => h) (by rfl) (fun w' hb' => ?_) ?_
                    rotate_left
                    · (try go_simp); (try with_reducible rfl)
                    try simp only [Act.put, List.setIfInBounds_toArray, List.set_cons_zero, List.set_cons_succ]
                    refine g_take (i := 6) (d := (some 63)) (v := ?_) rfl rfl (by kernel_rfl) (fun _ _ _ h => h) (by rfl) (fun w' hb' => ?_) ?_
                    rotate_left
                    · have c0 := (hb'.cell (p := ⟨pb, po + k * 3, none⟩) hpx).trans C0; have c1 := (hb'.cell (p := ⟨pb, po + k * 3 + 1, none⟩) hpx).trans C1; have c2 := (hb'.cell (p := ⟨pb, po + k * 3 + 2, none⟩) hpx).trans C2; obtain ⟨d0, d1, d2, df⟩ := block_cells3 ((hb'.block _ (lt_of_block q1)).trans q1); (try go_simp); (try with_reducible rfl)
                    try simp only [Act.put, List.setIfInBounds_toArray, List.set_cons_zero, List.set_cons_succ]
                    refine g_take (i := 7) (d := (some 64)) (v := ?_) rfl rfl (by kernel_rfl) (fun _ _ _ h => h) (by rfl) (fun w' hb' => ?_) ?_
                    rotate_left
                    · (try go_simp); (try with_reducible rfl)
                    try simp only [Act.put, List.setIfInBounds_toArray, List.set_cons_zero, List.set_cons_succ]
                    refine g_done (by kernel_rfl) ?_
                    go_wp2_with fail
                    refine g_start (by kernel_rfl) ?_
                    refine g_take (i := 0) (d := (some 65)) (v := ?_) rfl rfl (by kernel_rfl) (fun _ _ _ h => h) (by rfl) (fun w' hb' => ?_) ?_
                    rotate_left
                    · (try go_simp); (try with_reducible rfl)
                    try simp only [Act.put, List.setIfInBounds_toArray, List.set_cons_zero, List.set_cons_succ]
                    refine g_take (i := 1) (d := (some 66)) (v := ?_) rfl rfl (by kernel_rfl) (fun _ _ _ h => h) (by rfl) (fun w' hb' => ?_) ?_
                    rotate_left
                    · (try go_simp); (try with_reducible rfl)
                    try simp only [Act.put, List.setIfInBounds_toArray, List.set_cons_zero, List.set_cons_succ]
                    refine g_take (i := 2) (d := (some 67)) (v := ?_) rfl rfl (by kernel_rfl) (fun _ _ _ h => h) (by rfl) (fun w' hb' => ?_) ?_
                    rotate_left
                    · (try go_simp); (try with_reducible rfl)
                    try simp only [Act.put, List.setIfInBounds_toArray, List.set_cons_zero, List.set_cons_succ]
                    refine g_take (i := 3) (d := (some 68)) (v := ?_) rfl rfl (by kernel_rfl) (fun _ _ _ h => h) (by rfl) (fun w' hb' => ?_) ?_
                    rotate_left
                    · (try go_simp); (try with_reducible rfl)
                    try simp only [Act.put, List.setIfInBounds_toArray, List.set_cons_zero, List.set_cons_succ]
                    refine g_take (i := 4) (d := (some 69)) (v := ?_) rfl rfl (by kernel_rfl) (fun _ _ _ h => h) (by rfl) (fun w' hb' => ?_) ?_
                    rotate_left
                    · have c0 := (hb'.cell (p := ⟨pb, po + k * 3, none⟩) hpx).trans C0; have c1 := (hb'.cell (p := ⟨pb, po + k * 3 + 1, none⟩) hpx).trans C1; have c2 := (hb'.cell (p := ⟨pb, po + k * 3 + 2, none⟩) hpx).trans C2; obtain ⟨d0, d1, d2, df⟩ := block_cells3 ((hb'.block _ (lt_of_block q1)).trans q1); (try go_simp); (try with_reducible rfl)
                    try simp only [Act.put, List.setIfInBounds_toArray, List.set_cons_zero, List.set_cons_succ]
                    refine g_take (i := 5) (d := (some 70)) (v := ?_) rfl rfl (by kernel_rfl) (fun _ _ _ h => h) (by rfl) (fun w' hb' => ?_) ?_
                    rotate_left
                    · (try go_simp); (try with_reducible rfl)
                    try simp only [Act.put, List.setIfInBounds_toArray, List.set_cons_zero, List.set_cons_succ]
                    refine g_take (i := 6) (d := (some 71)) (v := ?_) rfl rfl (by kernel_rfl) (fun _ _ _ h => h) (by rfl) (fun w' hb' => ?_) ?_
                    rotate_left
                    · have c0 := (hb'.cell (p := ⟨pb, po + k * 3, none⟩) hpx).trans C0; have c1 := (hb'.cell (p := ⟨pb, po + k * 3 + 1, none⟩) hpx).trans C1; have c2 := (hb'.cell (p := ⟨pb, po + k * 3 + 2, none⟩) hpx).trans C2; obtain ⟨d0, d1, d2, df⟩ := block_cells3 ((hb'.block _ (lt_of_block q1)).trans q1); (try go_simp); (try with_reducible rfl)
                    try simp only [Act.put, List.setIfInBounds_toArray, List.set_cons_zero, List.set_cons_succ]
                    refine g_take (i := 7) (d := (some 72)) (v := ?_) rfl rfl (by kernel_rfl) (fun _ _ _ h => h) (by rfl) (fun w' hb' => ?_) ?_
                    rotate_left
                    · (try go_simp); (try with_reducible rfl)
                    try simp only [Act.put, List.setIfInBounds_toArray, List.set_cons_zero, List.set_cons_succ]
                    refine g_done (by kernel_rfl) ?_
                    go_wp2_with fail
                    refine g_start (by kernel_rfl) ?_
                    refine g_take (i := 0) (d := (some 73)) (v := ?_) rfl rfl (by kernel_rfl) (fun _ _ _ h => h) (by rfl) (fun w' hb' => ?_) ?_
                    rotate_left
                    · (try go_simp); (try with_reducible rfl)
                    try simp only [Act.put, List.setIfInBounds_toArray, List.set_cons_zero, List.set_cons_succ]
                    refine g_take (i := 1) (d := (some 74)) (v := ?_) rfl rfl (by kernel_rfl) (fun _ _ _ h => h) (by rfl) (fun w' hb' => ?_) ?_
                    rotate_left
                    · (try go_simp); (try with_reducible rfl)
                    try simp only [Act.put, List.setIfInBounds_toArray, List.set_cons_zero, List.set_cons_succ]
                    refine g_take (i := 2) (d := (some 75)) (v := ?_) rfl rfl (by kernel_rfl) (fun _ _ _ h => h) (by rfl) (fun w' hb' => ?_) ?_
                    rotate_left
                    · (try go_simp); (try with_reducible rfl)
                    try simp only [Act.put, List.setIfInBounds_toArray, List.set_cons_zero, List.set_cons_succ]
                    refine g_take (i := 3) (d := (some 76)) (v := ?_) rfl rfl (by kernel_rfl) (fun _ _ _ h => h) (by rfl) (fun w' hb' => ?_) ?_
                    rotate_left
                    · (try go_simp); (try with_reducible rfl)
                    try simp only [Act.put, List.setIfInBounds_toArray, List.set_cons_zero, List.set_cons_succ]
                    refine g_take (i := 4) (d := (some 77)) (v := ?_) rfl rfl (by kernel_rfl) (fun _ _ _ h => h) (by rfl) (fun w' hb' => ?_) ?_
                    rotate_left
                    · have c0 := (hb'.cell (p := ⟨pb, po + k * 3, none⟩) hpx).trans C0; have c1 := (hb'.cell (p := ⟨pb, po + k * 3 + 1, none⟩) hpx).trans C1; have c2 := (hb'.cell (p := ⟨pb, po + k * 3 + 2, none⟩) hpx).trans C2; obtain ⟨d0, d1, d2, df⟩ := block_cells3 ((hb'.block _ (lt_of_block q1)).trans q1); (try go_simp); (try with_reducible rfl)
                    try simp only [Act.put, List.setIfInBounds_toArray, List.set_cons_zero, List.set_cons_succ]
                    refine g_take (i := 5) (d := (some 78)) (v := ?_) rfl rfl (by kernel_rfl) (fun _ _ _ h => h) (by rfl) (fun w' hb' => ?_) ?_
                    rotate_left
                    · (try go_simp); (try with_reducible rfl)
                    try simp only [Act.put, List.setIfInBounds_toArray, List.set_cons_zero, List.set_cons_succ]
                    refine g_take (i := 6) (d := (some 79)) (v := ?_) rfl rfl (by kernel_rfl) (fun _ _ _ h => h) (by rfl) (fun w' hb' => ?_) ?_
                    rotate_left
                    · have c0 := (hb'.cell (p := ⟨pb, po + k * 3, none⟩) hpx).trans C0; have c1 := (hb'.cell (p := ⟨pb, po + k * 3 + 1, none⟩) hpx).trans C1; have c2 := (hb'.cell (p := ⟨pb, po + k * 3 + 2, none⟩) hpx).trans C2; obtain ⟨d0, d1, d2, df⟩ := block_cells3 ((hb'.block _ (lt_of_block q1)).trans q1); (try go_simp); (try with_reducible rfl)
                    try simp only [Act.put, List.setIfInBounds_toArray, List.set_cons_zero, List.set_cons_succ]
                    refine g_take (i := 7) (d := (some 80)) (v := ?_) rfl rfl (by kernel_rfl) (fun _ _ _ h => h) (by rfl) (fun w' hb' => ?_) ?_
                    rotate_left
                    · (try go_simp); (try with_reducible rfl)
                    try simp only [Act.put, List.setIfInBounds_toArray, List.set_cons_zero, List.set_cons_succ]
                    refine g_take (i := 8) (d := (some 81)) (v := ?_) rfl rfl (by kernel_rfl) (fun _ _ _ h => h) (by rfl) (fun w' hb' => ?_) ?_
                    rotate_left
                    · (try go_simp); (try with_reducible rfl)
                    try simp only [Act.put, List.setIfInBounds_toArray, List.set_cons_zero, List.set_cons_succ]
                    refine g_skip (i := 9) (d := (some 82)) rfl rfl (by kernel_rfl) (fun _ _ _ h => h) (by rfl) ?_
                    try simp only [Act.put, List.setIfInBounds_toArray, List.set_cons_zero, List.set_cons_succ]
                    refine g_skip (i := 10) (d := (some 83)) rfl rfl (by kernel_rfl) (fun _ _ _ h => h) (by rfl) ?_
                    try simp only [Act.put, List.setIfInBounds_toArray, List.set_cons_zero, List.set_cons_succ]
                    refine g_skip (i := 11) (d := (some 84)) rfl rfl (by kernel_rfl) (fun _ _ _ h => h) (by rfl) ?_
                    try simp only [Act.put, List.setIfInBounds_toArray, List.set_cons_zero, List.set_cons_succ]
                    refine g_skip (i := 12) (d := (some 85)) rfl rfl (by kernel_rfl) (fun _ _ _ h => h) (by rfl) ?_
                    try simp only [Act.put, List.setIfInBounds_toArray, List.set_cons_zero, List.set_cons_succ]
                    refine g_skip (i := 13) (d := (some 86)) rfl rfl (by kernel_rfl) (fun _ _ _ h => h) (by rfl) ?_
                    try simp only [Act.put, List.setIfInBounds_toArray, List.set_cons_zero, List.set_cons_succ]
                    refine g_skip (i := 14) (d := (some 87)) rfl rfl (by kernel_rfl) (fun _ _ _ h => h) (by rfl) ?_
                    try simp only [Act.put, List.setIfInBounds_toArray, List.set_cons_zero, List.set_cons_succ]
                    refine g_skip (i := 15) (d := (some 88)) rfl rfl (by kernel_rfl) (fun _ _ _ h => h) (by rfl) ?_
                    try simp only [Act.put, List.setIfInBounds_toArray, List.set_cons_zero, List.set_cons_succ]
                    refine g_skip (i := 16) (d := (some 89)) rfl rfl (by kernel_rfl) (fun _ _ _ h => h) (by rfl) ?_
                    try simp only [Act.put, List.setIfInBounds_toArray, List.set_cons_zero, List.set_cons_succ]
                    refine g_take (i := 17) (d := (some 90)) (v := ?_) rfl rfl (by kernel_rfl) (fun _ _ _ h => h) (by rfl) (fun w' hb' => ?_) ?_
                    rotate_left
                    · (try go_simp); (try with_reducible rfl)
                    try simp only [Act.put, List.setIfInBounds_toArray, List.set_cons_zero, List.set_cons_succ]
                    refine g_done (by kernel_rfl) ?_
                    go_wp2_with fail
                    refine g_start (by kernel_rfl) ?_
                    refine g_take (i := 0) (d := (some 91)) (v := ?_) rfl rfl (by kernel_rfl) (fun _ _ _ h => h) (by rfl) (fun w' hb' => ?_) ?_
                    rotate_left
                    · (try go_simp); (try with_reducible rfl)
                    try simp only [Act.put, List.setIfInBounds_toArray, List.set_cons_zero, List.set_cons_succ]
                    refine g_take (i := 1) (d := (some 92)) (v := ?_) rfl rfl (by kernel_rfl) (fun _ _ _ h => h) (by rfl) (fun w' hb' => ?_) ?_
                    rotate_left
                    · (try go_simp); (try with_reducible rfl)
                    try simp only [Act.put, List.setIfInBounds_toArray, List.set_cons_zero, List.set_cons_succ]
                    refine g_take (i := 2) (d := (some 93)) (v := ?_) rfl rfl (by kernel_rfl) (fun _ _ _ h => h) (by rfl) (fun w' hb' => ?_) ?_
                    rotate_left
                    · (try go_simp); (try with_reducible rfl)
                    try simp only [Act.put, List.setIfInBounds_toArray, List.set_cons_zero, List.set_cons_succ]
                    refine g_take (i := 3) (d := (some 94)) (v := ?_) rfl rfl (by kernel_rfl) (fun _ _ _ h => h) (by rfl) (fun w' hb' => ?_) ?_
                    rotate_left
                    · (try go_simp); (try with_reducible rfl)
                    try simp only [Act.put, List.setIfInBounds_toArray, List.set_cons_zero, List.set_cons_succ]
                    refine g_take (i := 4) (d := (some 95)) (v := ?_) rfl rfl (by kernel_rfl) (fun _ _ _ h => h) (by rfl) (fun w' hb' => ?_) ?_
                    rotate_left
                    · have c0 := (hb'.cell (p := ⟨pb, po + k * 3, none⟩) hpx).trans C0; have c1 := (hb'.cell (p := ⟨pb, po + k * 3 + 1, none⟩) hpx).trans C1; have c2 := (hb'.cell (p := ⟨pb, po + k * 3 + 2, none⟩) hpx).trans C2; obtain ⟨d0, d1, d2, df⟩ := block_cells3 ((hb'.block _ (lt_of_block q1)).trans q1); (try go_simp); (try with_reducible rfl)
                    try simp only [Act.put, List.setIfInBounds_toArray, List.set_cons_zero, List.set_cons_succ]
                    refine g_take (i := 5) (d := (some 96)) (v := ?_) rfl rfl (by kernel_rfl) (fun _ _ _ h => h) (by rfl) (fun w' hb' => ?_) ?_
                    rotate_left
                    · (try go_simp); (try with_reducible rfl)
                    try simp only [Act.put, List.setIfInBounds_toArray, List.set_cons_zero, List.set_cons_succ]
                    refine g_take (i := 6) (d := (some 97)) (v := ?_) rfl rfl (by kernel_rfl) (fun _ _ _ h => h) (by rfl) (fun w' hb' => ?_) ?_
                    rotate_left
                    · have c0 := (hb'.cell (p := ⟨pb, po + k * 3, none⟩) hpx).trans C0; have c1 := (hb'.cell (p := ⟨pb, po + k * 3 + 1, none⟩) hpx).trans C1; have c2 := (hb'.cell (p := ⟨pb, po + k * 3 + 2, none⟩) hpx).trans C2; obtain ⟨d0, d1, d2, df⟩ := block_cells3 ((hb'.block _ (lt_of_block q1)).trans q1); (try go_simp); (try with_reducible rfl)
                    try simp only [Act.put, List.setIfInBounds_toArray, List.set_cons_zero, List.set_cons_succ]
                    refine g_take (i := 7) (d := (some 98)) (v := ?_) rfl rfl (by kernel_rfl) (fun _ _ _ h => h) (by rfl) (fun w' hb' => ?_) ?_
                    rotate_left
                    · (try go_simp); (try with_reducible rfl)
                    try simp only [Act.put, List.setIfInBounds_toArray, List.set_cons_zero, List.set_cons_succ]
                    refine g_done (by kernel_rfl) ?_
                    go_wp2_with fail
                    exact ⟨⟨k + 1, acc, by omega, by push_cast; rfl, by omega, HA2, HN2, own_drew (own_drew (own_drew (own_drew (own_drew HOW.out)))), bel.drew.drew.drew.drew.drew⟩, by simp [intOf]; omega⟩
              · have fe : (ya == a) = false := by simpa using he
                have HA2 := Lib.hid (show acc = l.take P ++ ⟨a, b, c⟩ :: (l.take (k + 1)).filter (fun x => decide (a < x.fr)) by
                  rw [HA.out, List.take_succ_eq_append_getElem hlt, ← HY.out, List.filter_append, List.filter_cons, if_neg (by simpa using hg)]; simp)
                have HN2 := Lib.hid (noE_up HN.out hlt (fun e => absurd (show ya = a from (congrArg Vt.fr HY.out).trans e) he))
                clear he
                refine g_start (by kernel_rfl) ?_
                refine g_take (i := 0) (d := (some 42)) (v := ?_) rfl rfl (by kernel_rfl) (fun _ _ _ h => h) (by rfl) (fun w' hb' => ?_) ?_
                rotate_left
                · (try go_simp); (try with_reducible rfl)
                try simp only [Act.put, List.setIfInBounds_toArray, List.set_cons_zero, List.set_cons_succ]
                refine g_take (i := 1) (d := (some 43)) (v := ?_) rfl rfl (by kernel_rfl) (fun _ _ _ h => h) (by rfl) (fun w' hb' => ?_) ?_
                rotate_left
                · (try go_simp); (try with_reducible rfl)
                try simp only [Act.put, List.setIfInBounds_toArray, List.set_cons_zero, List.set_cons_succ]
                refine g_take (i := 2) (d := (some 44)) (v := ?_) rfl rfl (by kernel_rfl) (fun _ _ _ h => h) (by rfl) (fun w' hb' => ?_) ?_
                rotate_left
                · (try go_simp); (try with_reducible rfl)
                try simp only [Act.put, List.setIfInBounds_toArray, List.set_cons_zero, List.set_cons_succ]
                refine g_take (i := 3) (d := (some 45)) (v := ?_) rfl rfl (by kernel_rfl) (fun _ _ _ h => h) (by rfl) (fun w' hb' => ?_) ?_
                rotate_left
                · (try go_simp); (try with_reducible rfl)
                try simp only [Act.put, List.setIfInBounds_toArray, List.set_cons_zero, List.set_cons_succ]
                refine g_take (i := 4) (d := (some 46)) (v := ?_) rfl rfl (by kernel_rfl) (fun _ _ _ h => h) (by rfl) (fun w' hb' => ?_) ?_
                rotate_left
                · have c0 := (hb'.cell (p := ⟨pb, po + k * 3, none⟩) hpx).trans C0; have c1 := (hb'.cell (p := ⟨pb, po + k * 3 + 1, none⟩) hpx).trans C1; have c2 := (hb'.cell (p := ⟨pb, po + k * 3 + 2, none⟩) hpx).trans C2; obtain ⟨d0, d1, d2, df⟩ := block_cells3 ((hb'.block _ (lt_of_block q1)).trans q1); (try go_simp); (try with_reducible rfl)
                try simp only [Act.put, List.setIfInBounds_toArray, List.set_cons_zero, List.set_cons_succ]
                refine g_take (i := 5) (d := (some 47)) (v := ?_) rfl rfl (by kernel_rfl) (fun _ _ _ h => h) (by rfl) (fun w' hb' => ?_) ?_
                rotate_left
                · (try go_simp); (try with_reducible rfl)
                try simp only [Act.put, List.setIfInBounds_toArray, List.set_cons_zero, List.set_cons_succ]
                refine g_take (i := 6) (d := (some 48)) (v := ?_) rfl rfl (by kernel_rfl) (fun _ _ _ h => h) (by rfl) (fun w' hb' => ?_) ?_
                rotate_left
                · have c0 := (hb'.cell (p := ⟨pb, po + k * 3, none⟩) hpx).trans C0; have c1 := (hb'.cell (p := ⟨pb, po + k * 3 + 1, none⟩) hpx).trans C1; have c2 := (hb'.cell (p := ⟨pb, po + k * 3 + 2, none⟩) hpx).trans C2; obtain ⟨d0, d1, d2, df⟩ := block_cells3 ((hb'.block _ (lt_of_block q1)).trans q1); (try go_simp); (try with_reducible rfl)
                try simp only [Act.put, List.setIfInBounds_toArray, List.set_cons_zero, List.set_cons_succ]
                refine g_take (i := 7) (d := (some 49)) (v := ?_) rfl rfl (by kernel_rfl) (fun _ _ _ h => h) (by rfl) (fun w' hb' => ?_) ?_
                rotate_left
                · (try go_simp); (try with_reducible rfl)
                try simp only [Act.put, List.setIfInBounds_toArray, List.set_cons_zero, List.set_cons_succ]
                refine g_done (by kernel_rfl) ?_
                go_wp2_with fail
                refine g_start (by kernel_rfl) ?_
                refine g_take (i := 0) (d := (some 57)) (v := ?_) rfl rfl (by kernel_rfl) (fun _ _ _ h => h) (by rfl) (fun w' hb' => ?_) ?_
                rotate_left
                · (try go_simp); (try with_reducible rfl)
                try simp only [Act.put, List.setIfInBounds_toArray, List.set_cons_zero, List.set_cons_succ]
                refine g_take (i := 1) (d := (some 58)) (v := ?_) rfl rfl (by kernel_rfl) (fun _ _ _ h => h) (by rfl) (fun w' hb' => ?_) ?_
                rotate_left
                · (try go_simp); (try with_reducible rfl)
                try simp only [Act.put, List.setIfInBounds_toArray, List.set_cons_zero, List.set_cons_succ]
                refine g_take (i := 2) (d := (some 59)) (v := ?_) rfl rfl (by kernel_rfl) (fun _ _ _ h => h) (by rfl) (fun w' hb' => ?_) ?_
                rotate_left
                · (try go_simp); (try with_reducible rfl)
                try simp only [Act.put, List.setIfInBounds_toArray, List.set_cons_zero, List.set_cons_succ]
                refine g_take (i := 3) (d := (some 60)) (v := ?_) rfl rfl (by kernel_rfl) (fun _ _ _ h => h) (by rfl) (fun w' hb' => ?_) ?_
                rotate_left
                · (try go_simp); (try with_reducible rfl)
                try simp only [Act.put, List.setIfInBounds_toArray, List.set_cons_zero, List.set_cons_succ]
                refine g_take (i := 4) (d := (some 61)) (v := ?_) rfl rfl (by kernel_rfl) (fun _ _ _ h => h) (by rfl) (fun w' hb' => ?_) ?_
                rotate_left
                · have c0 := (hb'.cell (p := ⟨pb, po + k * 3, none⟩) hpx).trans C0; have c1 := (hb'.cell (p := ⟨pb, po + k * 3 + 1, none⟩) hpx).trans C1; have c2 := (hb'.cell (p := ⟨pb, po + k * 3 + 2, none⟩) hpx).trans C2; obtain ⟨d0, d1, d2, df⟩ := block_cells3 ((hb'.block _ (lt_of_block q1)).trans q1); (try go_simp); (try with_reducible rfl)
                try simp only [Act.put, List.setIfInBounds_toArray, List.set_cons_zero, List.set_cons_succ]
                refine g_take (i := 5) (d := (some 62)) (v := ?_) rfl rfl (by kernel_rfl) (fun _ _ _ h => h) (by rfl) (fun w' hb' => ?_) ?_
                rotate_left
                · (try go_simp); (try with_reducible rfl)
                try simp only [Act.put, List.setIfInBounds_toArray, List.set_cons_zero, List.set_cons_succ]
                refine g_take (i := 6) (d := (some 63)) (v := ?_) rfl rfl (by kernel_rfl) (fun _ _ _ h => h) (by rfl) (fun w' hb' => ?_) ?_
                rotate_left
                · have c0 := (hb'.cell (p := ⟨pb, po + k * 3, none⟩) hpx).trans C0; have c1 := (hb'.cell (p := ⟨pb, po + k * 3 + 1, none⟩) hpx).trans C1; have c2 := (hb'.cell (p := ⟨pb, po + k * 3 + 2, none⟩) hpx).trans C2; obtain ⟨d0, d1, d2, df⟩ := block_cells3 ((hb'.block _ (lt_of_block q1)).trans q1); (try go_simp); (try with_reducible rfl)
                try simp only [Act.put, List.setIfInBounds_toArray, List.set_cons_zero, List.set_cons_succ]
                refine g_take (i := 7) (d := (some 64)) (v := ?_) rfl rfl (by kernel_rfl) (fun _ _ _ h => h) (by rfl) (fun w' hb' => ?_) ?_
                rotate_left
                · (try go_simp); (try with_reducible rfl)
                try simp only [Act.put, List.setIfInBounds_toArray, List.set_cons_zero, List.set_cons_succ]
                refine g_done (by kernel_rfl) ?_
                go_wp2_with fail
                exact ⟨⟨k + 1, acc, by omega, by push_cast; rfl, by omega, HA2, HN2, own_drew (own_drew HOW.out), bel.drew.drew⟩, by simp [intOf]; omega⟩
          · have hk2 : k = l.length := by omega
            subst hk2
            have HC := Lib.hid (noE_end HN.out)
            have HL := Lib.hid (show layL l ⟨a, b, c⟩ = acc by rw [lay_end HS.out, HA.out, List.take_length, ← HP.out])
            have HRR := Lib.hid (own_rdk vtC_len HOW.out)
            obtain ⟨a9, n9, c9, e9⟩ := own_val HOW.out
            subst e9
            go_wp2_with fail
            show Z (.returned _) _
            rw [HZ.out]
            exact ⟨a9, n9, c9, by rw [← HEE.out, HC.out]; rfl, by rw [← HEE.out, HC.out, if_pos rfl, HL.out]; exact HRR.out, chain B0 bel⟩
    · have HP := Lib.hid (show k = posV l a from (posV_of hk HJ.out (fun h => absurd h hlt)).symm)
      have BELX := bel.drew
      have q1 := (bel.block _ (lt_of_block q0)).trans q0
      go_wp2_with fail
      refine g_start (by kernel_rfl) ?_
      refine g_take (i := 0) (d := (some 9)) (v := ?_) rfl rfl (by kernel_rfl) (fun _ _ _ h => h) (by rfl) (fun w' hb' => ?_) ?_
      rotate_left
      · (try go_simp); (try with_reducible rfl)
      try simp only [Act.put, List.setIfInBounds_toArray, List.set_cons_zero, List.set_cons_succ]
      refine g_take (i := 1) (d := (some 10)) (v := ?_) rfl rfl (by kernel_rfl) (fun _ _ _ h => h) (by rfl) (fun w' hb' => ?_) ?_
      rotate_left
      · (try go_simp); (try with_reducible rfl)
      try simp only [Act.put, List.setIfInBounds_toArray, List.set_cons_zero, List.set_cons_succ]
      refine g_take (i := 2) (d := (some 11)) (v := ?_) rfl rfl (by kernel_rfl) (fun _ _ _ h => h) (by rfl) (fun w' hb' => ?_) ?_
      rotate_left
      · (try go_simp); (try with_reducible rfl)
      try simp only [Act.put, List.setIfInBounds_toArray, List.set_cons_zero, List.set_cons_succ]
      refine g_take (i := 3) (d := (some 12)) (v := ?_) rfl rfl (by kernel_rfl) (fun _ _ _ h => h) (by rfl) (fun w' hb' => ?_) ?_
      rotate_left
      · (try go_simp); (try with_reducible rfl)
      try simp only [Act.put, List.setIfInBounds_toArray, List.set_cons_zero, List.set_cons_succ]
      refine g_take (i := 4) (d := (some 13)) (v := ?_) rfl rfl (by kernel_rfl) (fun _ _ _ h => h) (by rfl) (fun w' hb' => ?_) ?_
      rotate_left
      · (try go_simp); (try with_reducible rfl)
      try simp only [Act.put, List.setIfInBounds_toArray, List.set_cons_zero, List.set_cons_succ]
      refine g_skip (i := 5) (d := (some 14)) rfl rfl (by kernel_rfl) (fun _ _ _ h => h) (by rfl) ?_
      try simp only [Act.put, List.setIfInBounds_toArray, List.set_cons_zero, List.set_cons_succ]
      refine g_skip (i := 6) (d := (some 15)) rfl rfl (by kernel_rfl) (fun _ _ _ h => h) (by rfl) ?_
      try simp only [Act.put, List.setIfInBounds_toArray, List.set_cons_zero, List.set_cons_succ]
      refine g_skip (i := 7) (d := (some 16)) rfl rfl (by kernel_rfl) (fun _ _ _ h => h) (by rfl) ?_
      try simp only [Act.put, List.setIfInBounds_toArray, List.set_cons_zero, List.set_cons_succ]
      refine g_skip (i := 8) (d := (some 17)) rfl rfl (by kernel_rfl) (fun _ _ _ h => h) (by rfl) ?_
      try simp only [Act.put, List.setIfInBounds_toArray, List.set_cons_zero, List.set_cons_succ]
      refine g_skip (i := 9) (d := (some 18)) rfl rfl (by kernel_rfl) (fun _ _ _ h => h) (by rfl) ?_
      try simp only [Act.put, List.setIfInBounds_toArray, List.set_cons_zero, List.set_cons_succ]
      refine g_skip (i := 10) (d := (some 19)) rfl rfl (by kernel_rfl) (fun _ _ _ h => h) (by rfl) ?_
      try simp only [Act.put, List.setIfInBounds_toArray, List.set_cons_zero, List.set_cons_succ]
      refine g_skip (i := 11) (d := (some 20)) rfl rfl (by kernel_rfl) (fun _ _ _ h => h) (by rfl) ?_
      try simp only [Act.put, List.setIfInBounds_toArray, List.set_cons_zero, List.set_cons_succ]
      refine g_skip (i := 12) (d := (some 21)) rfl rfl (by kernel_rfl) (fun _ _ _ h => h) (by rfl) ?_
      try simp only [Act.put, List.setIfInBounds_toArray, List.set_cons_zero, List.set_cons_succ]
      refine g_take (i := 13) (d := (some 22)) (v := ?_) rfl rfl (by kernel_rfl) (fun _ _ _ h => h) (by rfl) (fun w' hb' => ?_) ?_
      rotate_left
      · (try go_simp); (try with_reducible rfl)
      try simp only [Act.put, List.setIfInBounds_toArray, List.set_cons_zero, List.set_cons_succ]
      refine g_done (by kernel_rfl) ?_
      replace bel := BELX
      have q1 := (bel.block _ (lt_of_block q0)).trans q0
      obtain ⟨P, hPk⟩ : ∃ P, P = k := ⟨_, rfl⟩
      rw [← hPk] at HOW HP
      have hPl : P ≤ l.length := by omega
      have hlP : (l.take P).length = P := by simp; omega
      have HO := Lib.hid (show World.ownsRow _ W0.heap.size 26 3 _ (l.take P).length ((l.take P).flatMap vtC) from by rw [hlP]; exact HOW.out)
      clear hPk HOW hk hlt
      obtain ⟨d0, d1, d2, df⟩ := block_cells3 q1
      go_wp2_with (at_builtin; refine wpList_app1k vtC_len (by decide) W0 rfl (.tmp 32) (.tmp 34) 22 rfl W0.heap.size 26 i0 (.agg #[.int .i64 0, .int .i64 0, .int .i64 0]) 24 Tryd.underlying22 hi hz0 hz1 hz2 rfl _ _ rfl HO.out _ ⟨a, b, c⟩ _ rfl rfl vtC_one (by unfold maxLen; omega) (by omega) (Nat.le_refl _) bel ?_; intro v6 w6 own6 bel6 hq2; clear hq2)
      have OW6 := Lib.hid own6
      clear own6 d0 d1 d2 df q1 HO
      go_loopw [6, 8] (fun o' i wr => ∃ (k : Nat) (acc : List Vt), k ≤ l.length ∧ i = .int .i64 (k : Int) ∧ acc.length ≤ P + 1 + k ∧ Hid (acc = l.take P ++ ⟨a, b, c⟩ :: (l.take k).filter (fun x => decide (a < x.fr))) ∧ Hid (noE l ⟨a, b, c⟩ k) ∧ wr.ownsRow W0.heap.size 26 3 o' acc.length (acc.flatMap vtC) ∧ Below W0.heap.size W0 wr) (fun _ i _ => l.length - (intOf i).toNat)
      case atStart => exact ⟨0, l.take P ++ [⟨a, b, c⟩], Nat.zero_le _, rfl, by simp; omega, Lib.hid (by simp), Lib.hid (fun j _ h => absurd h (Nat.not_lt_zero _)), OW6.out, bel6⟩
      case round =>
        obtain ⟨k, acc, hk, rfl, hacc, HA, HN, hown, bel⟩ := hrel
        have HOW := Lib.hid hown
        clear hown
        by_cases hlt : k < l.length
        · have q1 := (bel.block _ (lt_of_block q0)).trans q0
          obtain ⟨pb, po, rfl, hpb, D0, D1, D2⟩ := rdt_cells HRD.out k hlt
          obtain ⟨y, hy⟩ : ∃ y, y = l[k] := ⟨_, rfl⟩
          have HY := Lib.hid hy
          rw [← hy] at D0 D1 D2
          clear hy
          obtain ⟨ya, yb, yc⟩ := y
          simp only at D0 D1 D2
          have C0 := (bel.cell (p := ⟨pb, po + k * 3, none⟩) hpb).trans D0
          have C1 := (bel.cell (p := ⟨pb, po + k * 3 + 1, none⟩) hpb).trans D1
          have C2 := (bel.cell (p := ⟨pb, po + k * 3 + 2, none⟩) hpb).trans D2
          have hpx := Nat.lt_of_lt_of_le hpb bel.size
          go_wp2_with fail
          by_cases hg : a < ya
          · have fg : decide (a < ya) = true := decide_eq_true hg
            have hne : ¬ ya = a := by omega
            have fe : (ya == a) = false := by simpa using hne
            have HA2 := Lib.hid (show acc ++ [⟨ya, yb, yc⟩] = l.take P ++ ⟨a, b, c⟩ :: (l.take (k + 1)).filter (fun x => decide (a < x.fr)) by
              rw [HA.out, List.take_succ_eq_append_getElem hlt, ← HY.out, List.filter_append, List.filter_cons, if_pos (by simpa using hg)]; simp)
            have HN2 := Lib.hid (noE_up HN.out hlt (fun e => absurd (show ya = a from (congrArg Vt.fr HY.out).trans e) hne))
            clear  hne
            refine g_start (by kernel_rfl) ?_
            refine g_take (i := 0) (d := (some 42)) (v := ?_) rfl rfl (by kernel_rfl) (fun _ _ _ h => h) (by rfl) (fun w' hb' => ?_) ?_
            rotate_left
            · (try go_simp); (try with_reducible rfl)
            try simp only [Act.put, List.setIfInBounds_toArray, List.set_cons_zero, List.set_cons_succ]
            refine g_take (i := 1) (d := (some 43)) (v := ?_) rfl rfl (by kernel_rfl) (fun _ _ _ h => h) (by rfl) (fun w' hb' => ?_) ?_
            rotate_left
            · (try go_simp); (try with_reducible rfl)
            try simp only [Act.put, List.setIfInBounds_toArray, List.set_cons_zero, List.set_cons_succ]
            refine g_take (i := 2) (d := (some 44)) (v := ?_) rfl rfl (by kernel_rfl) (fun _ _ _ h => h) (by rfl) (fun w' hb' => ?_) ?_
            rotate_left
            · (try go_simp); (try with_reducible rfl)
            try simp only [Act.put, List.setIfInBounds_toArray, List.set_cons_zero, List.set_cons_succ]
            refine g_take (i := 3) (d := (some 45)) (v := ?_) rfl rfl (by kernel_rfl) (fun _ _ _ h => h) (by rfl) (fun w' hb' => ?_) ?_
            rotate_left
            · (try go_simp); (try with_reducible rfl)
            try simp only [Act.put, List.setIfInBounds_toArray, List.set_cons_zero, List.set_cons_succ]
            refine g_take (i := 4) (d := (some 46)) (v := ?_) rfl rfl (by kernel_rfl) (fun _ _ _ h => h) (by rfl) (fun w' hb' => ?_) ?_
            rotate_left
            · have c0 := (hb'.cell (p := ⟨pb, po + k * 3, none⟩) hpx).trans C0; have c1 := (hb'.cell (p := ⟨pb, po + k * 3 + 1, none⟩) hpx).trans C1; have c2 := (hb'.cell (p := ⟨pb, po + k * 3 + 2, none⟩) hpx).trans C2; obtain ⟨d0, d1, d2, df⟩ := block_cells3 ((hb'.block _ (lt_of_block q1)).trans q1); (try go_simp); (try with_reducible rfl)
            try simp only [Act.put, List.setIfInBounds_toArray, List.set_cons_zero, List.set_cons_succ]
            refine g_take (i := 5) (d := (some 47)) (v := ?_) rfl rfl (by kernel_rfl) (fun _ _ _ h => h) (by rfl) (fun w' hb' => ?_) ?_
            rotate_left
            · (try go_simp); (try with_reducible rfl)
            try simp only [Act.put, List.setIfInBounds_toArray, List.set_cons_zero, List.set_cons_succ]
            refine g_take (i := 6) (d := (some 48)) (v := ?_) rfl rfl (by kernel_rfl) (fun _ _ _ h => h) (by rfl) (fun w' hb' => ?_) ?_
            rotate_left
            · have c0 := (hb'.cell (p := ⟨pb, po + k * 3, none⟩) hpx).trans C0; have c1 := (hb'.cell (p := ⟨pb, po + k * 3 + 1, none⟩) hpx).trans C1; have c2 := (hb'.cell (p := ⟨pb, po + k * 3 + 2, none⟩) hpx).trans C2; obtain ⟨d0, d1, d2, df⟩ := block_cells3 ((hb'.block _ (lt_of_block q1)).trans q1); (try go_simp); (try with_reducible rfl)
            try simp only [Act.put, List.setIfInBounds_toArray, List.set_cons_zero, List.set_cons_succ]
            refine g_take (i := 7) (d := (some 49)) (v := ?_) rfl rfl (by kernel_rfl) (fun _ _ _ h => h) (by rfl) (fun w' hb' => ?_) ?_
            rotate_left
            · (try go_simp); (try with_reducible rfl)
            try simp only [Act.put, List.setIfInBounds_toArray, List.set_cons_zero, List.set_cons_succ]
            refine g_done (by kernel_rfl) ?_
            have HO := Lib.hid (show World.ownsRow _ W0.heap.size 26 3 _ acc.length (acc.flatMap vtC) from HOW.out)
            have c0 : wr.drew.cell? ⟨pb, po + k * 3, none⟩ = _ := C0
            have c1 : wr.drew.cell? ⟨pb, po + k * 3 + 1, none⟩ = _ := C1
            have c2 : wr.drew.cell? ⟨pb, po + k * 3 + 2, none⟩ = _ := C2
            go_wp2_with (at_builtin; refine wpList_app1k vtC_len (by decide) W0 rfl (.tmp 50) (.tmp 55) 22 rfl W0.heap.size 26 i0 (.agg #[.int .i64 0, .int .i64 0, .int .i64 0]) 24 Tryd.underlying22 hi hz0 hz1 hz2 rfl _ _ rfl HO.out _ ⟨ya, yb, yc⟩ _ rfl rfl vtC_one (by unfold maxLen; omega) (by omega) (Nat.le_refl _) bel.drew ?_; intro v9 w9 own9 bel9 hq2; clear hq2)
            have q1 := (bel9.block _ (lt_of_block q0)).trans q0
            replace C0 := (bel9.cell (p := ⟨pb, po + k * 3, none⟩) hpb).trans D0
            replace C1 := (bel9.cell (p := ⟨pb, po + k * 3 + 1, none⟩) hpb).trans D1
            replace C2 := (bel9.cell (p := ⟨pb, po + k * 3 + 2, none⟩) hpb).trans D2
            replace hpx := Nat.lt_of_lt_of_le hpb bel9.size
            clear c0 c1 c2
            have OW9 := Lib.hid own9
            clear own9
            refine g_start (by kernel_rfl) ?_
            refine g_take (i := 0) (d := (some 57)) (v := ?_) rfl rfl (by kernel_rfl) (fun _ _ _ h => h) (by rfl) (fun w' hb' => ?_) ?_
            rotate_left
            · (try go_simp); (try with_reducible rfl)
            try simp only [Act.put, List.setIfInBounds_toArray, List.set_cons_zero, List.set_cons_succ]
            refine g_take (i := 1) (d := (some 58)) (v := ?_) rfl rfl (by kernel_rfl) (fun _ _ _ h => h) (by rfl) (fun w' hb' => ?_) ?_
            rotate_left
            · (try go_simp); (try with_reducible rfl)
            try simp only [Act.put, List.setIfInBounds_toArray, List.set_cons_zero, List.set_cons_succ]
            refine g_take (i := 2) (d := (some 59)) (v := ?_) rfl rfl (by kernel_rfl) (fun _ _ _ h => h) (by rfl) (fun w' hb' => ?_) ?_
            rotate_left
            · (try go_simp); (try with_reducible rfl)
            try simp only [Act.put, List.setIfInBounds_toArray, List.set_cons_zero, List.set_cons_succ]
            refine g_take (i := 3) (d := (some 60)) (v := ?_) rfl rfl (by kernel_rfl) (fun _ _ _ h => h) (by rfl) (fun w' hb' => ?_) ?_
            rotate_left
            · (try go_simp); (try with_reducible rfl)
            try simp only [Act.put, List.setIfInBounds_toArray, List.set_cons_zero, List.set_cons_succ]
            refine g_take (i := 4) (d := (some 61)) (v := ?_) rfl rfl (by kernel_rfl) (fun _ _ _ h => h) (by rfl) (fun w' hb' => ?_) ?_
            rotate_left
            · have c0 := (hb'.cell (p := ⟨pb, po + k * 3, none⟩) hpx).trans C0; have c1 := (hb'.cell (p := ⟨pb, po + k * 3 + 1, none⟩) hpx).trans C1; have c2 := (hb'.cell (p := ⟨pb, po + k * 3 + 2, none⟩) hpx).trans C2; obtain ⟨d0, d1, d2, df⟩ := block_cells3 ((hb'.block _ (lt_of_block q1)).trans q1); (try go_simp); (try with_reducible rfl)
            try simp only [Act.put, List.setIfInBounds_toArray, List.set_cons_zero, List.set_cons_succ]
            refine g_take (i := 5) (d := (some 62)) (v := ?_) rfl rfl (by kernel_rfl) (fun _ _ _ h => h) (by rfl) (fun w' hb' => ?_) ?_
            rotate_left
            · (try go_simp); (try with_reducible rfl)
            try simp only [Act.put, List.setIfInBounds_toArray, List.set_cons_zero, List.set_cons_succ]
            refine g_take (i := 6) (d := (some 63)) (v := ?_) rfl rfl (by kernel_rfl) (fun _ _ _ h => h) (by rfl) (fun w' hb' => ?_) ?_
            rotate_left
            · have c0 := (hb'.cell (p := ⟨pb, po + k * 3, none⟩) hpx).trans C0; have c1 := (hb'.cell (p := ⟨pb, po + k * 3 + 1, none⟩) hpx).trans C1; have c2 := (hb'.cell (p := ⟨pb, po + k * 3 + 2, none⟩) hpx).trans C2; obtain ⟨d0, d1, d2, df⟩ := block_cells3 ((hb'.block _ (lt_of_block q1)).trans q1); (try go_simp); (try with_reducible rfl)
            try simp only [Act.put, List.setIfInBounds_toArray, List.set_cons_zero, List.set_cons_succ]
            refine g_take (i := 7) (d := (some 64)) (v := ?_) rfl rfl (by kernel_rfl) (fun _ _ _ h => h) (by rfl) (fun w' hb' => ?_) ?_
            rotate_left
            · (try go_simp); (try with_reducible rfl)
            try simp only [Act.put, List.setIfInBounds_toArray, List.set_cons_zero, List.set_cons_succ]
            refine g_done (by kernel_rfl) ?_
            go_wp2_with fail
            exact ⟨⟨k + 1, acc ++ [⟨ya, yb, yc⟩], by omega, by push_cast; rfl, by simp; omega, HA2, HN2, own_drew OW9.out, bel9.drew⟩, by simp [intOf]; omega⟩
          · have fg : decide (a < ya) = false := decide_eq_false hg
            by_cases he : ya = a
            · have fe : (ya == a) = true := by simpa using he
              by_cases hw : b < yb
              · have fw : decide (b < yb) = true := decide_eq_true hw
                have HA2 := Lib.hid (show acc = l.take P ++ ⟨a, b, c⟩ :: (l.take (k + 1)).filter (fun x => decide (a < x.fr)) by
                  rw [HA.out, List.take_succ_eq_append_getElem hlt, ← HY.out, List.filter_append, List.filter_cons, if_neg (by simpa using hg)]; simp)
                have HE0 := layE_hit (v := ⟨a, b, c⟩) HS.out hlt (by rw [← HY.out]; exact he)
                rw [← HY.out] at HE0
                simp only at HE0
                have HC := Lib.hid (show layE l ⟨a, b, c⟩ = 18 by rw [HE0]; simp [hw]; try omega)
                clear HE0
                clear he
                refine g_start (by kernel_rfl) ?_
                refine g_take (i := 0) (d := (some 42)) (v := ?_) rfl rfl (by kernel_rfl) (fun _ _ _ h => h) (by rfl) (fun w' hb' => ?_) ?_
                rotate_left
                · (try go_simp); (try with_reducible rfl)
                try simp only [Act.put, List.setIfInBounds_toArray, List.set_cons_zero, List.set_cons_succ]
                refine g_take (i := 1) (d := (some 43)) (v := ?_) rfl rfl (by kernel_rfl) (fun _ _ _ h => h) (by rfl) (fun w' hb' => ?_) ?_
                rotate_left
                · (try go_simp); (try with_reducible rfl)
                try simp only [Act.put, List.setIfInBounds_toArray, List.set_cons_zero, List.set_cons_succ]
                refine g_take (i := 2) (d := (some 44)) (v := ?_) rfl rfl (by kernel_rfl) (fun _ _ _ h => h) (by rfl) (fun w' hb' => ?_) ?_
                rotate_left
                · (try go_simp); (try with_reducible rfl)
                try simp only [Act.put, List.setIfInBounds_toArray, List.set_cons_zero, List.set_cons_succ]
                refine g_take (i := 3) (d := (some 45)) (v := ?_) rfl rfl (by kernel_rfl) (fun _ _ _ h => h) (by rfl) (fun w' hb' => ?_) ?_
                rotate_left
                · (try go_simp); (try with_reducible rfl)
                try simp only [Act.put, List.setIfInBounds_toArray, List.set_cons_zero, List.set_cons_succ]
                refine g_take (i := 4) (d := (some 46)) (v := ?_) rfl rfl (by kernel_rfl) (fun _ _ _ h => h) (by rfl) (fun w' hb' => ?_) ?_
                rotate_left
                · have c0 := (hb'.cell (p := ⟨pb, po + k * 3, none⟩) hpx).trans C0; have c1 := (hb'.cell (p := ⟨pb, po + k * 3 + 1, none⟩) hpx).trans C1; have c2 := (hb'.cell (p := ⟨pb, po + k * 3 + 2, none⟩) hpx).trans C2; obtain ⟨d0, d1, d2, df⟩ := block_cells3 ((hb'.block _ (lt_of_block q1)).trans q1); (try go_simp); (try with_reducible rfl)
                try simp only [Act.put, List.setIfInBounds_toArray, List.set_cons_zero, List.set_cons_succ]
                refine g_take (i := 5) (d := (some 47)) (v := ?_) rfl rfl (by kernel_rfl) (fun _ _ _ h => h) (by rfl) (fun w' hb' => ?_) ?_
                rotate_left
                · (try go_simp); (try with_reducible rfl)
                try simp only [Act.put, List.setIfInBounds_toArray, List.set_cons_zero, List.set_cons_succ]
                refine g_take (i := 6) (d := (some 48)) (v := ?_) rfl rfl (by kernel_rfl) (fun _ _ _ h => h) (by rfl) (fun w' hb' => ?_) ?_
                rotate_left
                · have c0 := (hb'.cell (p := ⟨pb, po + k * 3, none⟩) hpx).trans C0; have c1 := (hb'.cell (p := ⟨pb, po + k * 3 + 1, none⟩) hpx).trans C1; have c2 := (hb'.cell (p := ⟨pb, po + k * 3 + 2, none⟩) hpx).trans C2; obtain ⟨d0, d1, d2, df⟩ := block_cells3 ((hb'.block _ (lt_of_block q1)).trans q1); (try go_simp); (try with_reducible rfl)
                try simp only [Act.put, List.setIfInBounds_toArray, List.set_cons_zero, List.set_cons_succ]
                refine g_take (i := 7) (d := (some 49)) (v := ?_) rfl rfl (by kernel_rfl) (fun _ _ _ h => h) (by rfl) (fun w' hb' => ?_) ?_
                rotate_left
                · (try go_simp); (try with_reducible rfl)
                try simp only [Act.put, List.setIfInBounds_toArray, List.set_cons_zero, List.set_cons_succ]
                refine g_done (by kernel_rfl) ?_
                go_wp2_with fail
                refine g_start (by kernel_rfl) ?_
                refine g_take (i := 0) (d := (some 57)) (v := ?_) rfl rfl (by kernel_rfl) (fun _ _ _ h => h) (by rfl) (fun w' hb' => ?_) ?_
                rotate_left
                · (try go_simp); (try with_reducible rfl)
                try simp only [Act.put, List.setIfInBounds_toArray, List.set_cons_zero, List.set_cons_succ]
                refine g_take (i := 1) (d := (some 58)) (v := ?_) rfl rfl (by kernel_rfl) (fun _ _ _ h => h) (by rfl) (fun w' hb' => ?_) ?_
                rotate_left
                · (try go_simp); (try with_reducible rfl)
                try simp only [Act.put, List.setIfInBounds_toArray, List.set_cons_zero, List.set_cons_succ]
                refine g_take (i := 2) (d := (some 59)) (v := ?_) rfl rfl (by kernel_rfl) (fun _ _ _ h => h) (by rfl) (fun w' hb' => ?_) ?_
                rotate_left
                · (try go_simp); (try with_reducible rfl)
                try simp only [Act.put, List.setIfInBounds_toArray, List.set_cons_zero, List.set_cons_succ]
                refine g_take (i := 3) (d := (some 60)) (v := ?_) rfl rfl (by kernel_rfl) (fun _ _ _ h => h) (by rfl) (fun w' hb' => ?_) ?_
                rotate_left
                · (try go_simp); (try with_reducible rfl)
                try simp only [Act.put, List.setIfInBounds_toArray, List.set_cons_zero, List.set_cons_succ]
                refine g_take (i := 4) (d := (some 61)) (v := ?_) rfl rfl (by kernel_rfl) (fun _ _ _ h => h) (by rfl) (fun w' hb' => ?_) ?_
                rotate_left
                · have c0 := (hb'.cell (p := ⟨pb, po + k * 3, none⟩) hpx).trans C0; have c1 := (hb'.cell (p := ⟨pb, po + k * 3 + 1, none⟩) hpx).trans C1; have c2 := (hb'.cell (p := ⟨pb, po + k * 3 + 2, none⟩) hpx).trans C2; obtain ⟨d0, d1, d2, df⟩ := block_cells3 ((hb'.block _ (lt_of_block q1)).trans q1); (try go_simp); (try with_reducible rfl)
                try simp only [Act.put, List.setIfInBounds_toArray, List.set_cons_zero, List.set_cons_succ]
                refine g_take (i := 5) (d := (some 62)) (v := ?_) rfl rfl (by kernel_rfl) (fun _ _ _ h => h) (by rfl) (fun w' hb' => ?_) ?_
                rotate_left
                · (try go_simp); (try with_reducible rfl)
                try simp only [Act.put, List.setIfInBounds_toArray, List.set_cons_zero, List.set_cons_succ]
                refine g_take (i := 6) (d := (some 63)) (v := ?_) rfl rfl (by kernel_rfl) (fun _ _ _ h => h) (by rfl) (fun w' hb' => ?_) ?_
                rotate_left
                · have c0 := (hb'.cell (p := ⟨pb, po + k * 3, none⟩) hpx).trans C0; have c1 := (hb'.cell (p := ⟨pb, po + k * 3 + 1, none⟩) hpx).trans C1; have c2 := (hb'.cell (p := ⟨pb, po + k * 3 + 2, none⟩) hpx).trans C2; obtain ⟨d0, d1, d2, df⟩ := block_cells3 ((hb'.block _ (lt_of_block q1)).trans q1); (try go_simp); (try with_reducible rfl)
                try simp only [Act.put, List.setIfInBounds_toArray, List.set_cons_zero, List.set_cons_succ]
                refine g_take (i := 7) (d := (some 64)) (v := ?_) rfl rfl (by kernel_rfl) (fun _ _ _ h => h) (by rfl) (fun w' hb' => ?_) ?_
                rotate_left
                · (try go_simp); (try with_reducible rfl)
                try simp only [Act.put, List.setIfInBounds_toArray, List.set_cons_zero, List.set_cons_succ]
                refine g_done (by kernel_rfl) ?_
                go_wp2_with fail
                refine g_start (by kernel_rfl) ?_
                refine g_take (i := 0) (d := (some 65)) (v := ?_) rfl rfl (by kernel_rfl) (fun _ _ _ h => h) (by rfl) (fun w' hb' => ?_) ?_
                rotate_left
                · (try go_simp); (try with_reducible rfl)
                try simp only [Act.put, List.setIfInBounds_toArray, List.set_cons_zero, List.set_cons_succ]
                refine g_take (i := 1) (d := (some 66)) (v := ?_) rfl rfl (by kernel_rfl) (fun _ _ _ h => h) (by rfl) (fun w' hb' => ?_) ?_
                rotate_left
                · (try go_simp); (try with_reducible rfl)
                try simp only [Act.put, List.setIfInBounds_toArray, List.set_cons_zero, List.set_cons_succ]
                refine g_take (i := 2) (d := (some 67)) (v := ?_) rfl rfl (by kernel_rfl) (fun _ _ _ h => h) (by rfl) (fun w' hb' => ?_) ?_
                rotate_left
                · (try go_simp); (try with_reducible rfl)
                try simp only [Act.put, List.setIfInBounds_toArray, List.set_cons_zero, List.set_cons_succ]
                refine g_take (i := 3) (d := (some 68)) (v := ?_) rfl rfl (by kernel_rfl) (fun _ _ _ h => h) (by rfl) (fun w' hb' => ?_) ?_
                rotate_left
                · (try go_simp); (try with_reducible rfl)
                try simp only [Act.put, List.setIfInBounds_toArray, List.set_cons_zero, List.set_cons_succ]
                refine g_take (i := 4) (d := (some 69)) (v := ?_) rfl rfl (by kernel_rfl) (fun _ _ _ h => h) (by rfl) (fun w' hb' => ?_) ?_
                rotate_left
                · have c0 := (hb'.cell (p := ⟨pb, po + k * 3, none⟩) hpx).trans C0; have c1 := (hb'.cell (p := ⟨pb, po + k * 3 + 1, none⟩) hpx).trans C1; have c2 := (hb'.cell (p := ⟨pb, po + k * 3 + 2, none⟩) hpx).trans C2; obtain ⟨d0, d1, d2, df⟩ := block_cells3 ((hb'.block _ (lt_of_block q1)).trans q1); (try go_simp); (try with_reducible rfl)
                try simp only [Act.put, List.setIfInBounds_toArray, List.set_cons_zero, List.set_cons_succ]
                refine g_take (i := 5) (d := (some 70)) (v := ?_) rfl rfl (by kernel_rfl) (fun _ _ _ h => h) (by rfl) (fun w' hb' => ?_) ?_
                rotate_left
                · (try go_simp); (try with_reducible rfl)
                try simp only [Act.put, List.setIfInBounds_toArray, List.set_cons_zero, List.set_cons_succ]
                refine g_take (i := 6) (d := (some 71)) (v := ?_) rfl rfl (by kernel_rfl) (fun _ _ _ h => h) (by rfl) (fun w' hb' => ?_) ?_
                rotate_left
                · have c0 := (hb'.cell (p := ⟨pb, po + k * 3, none⟩) hpx).trans C0; have c1 := (hb'.cell (p := ⟨pb, po + k * 3 + 1, none⟩) hpx).trans C1; have c2 := (hb'.cell (p := ⟨pb, po + k * 3 + 2, none⟩) hpx).trans C2; obtain ⟨d0, d1, d2, df⟩ := block_cells3 ((hb'.block _ (lt_of_block q1)).trans q1); (try go_simp); (try with_reducible rfl)
                try simp only [Act.put, List.setIfInBounds_toArray, List.set_cons_zero, List.set_cons_succ]
                refine g_take (i := 7) (d := (some 72)) (v := ?_) rfl rfl (by kernel_rfl) (fun _ _ _ h => h) (by rfl) (fun w' hb' => ?_) ?_
                rotate_left
                · (try go_simp); (try with_reducible rfl)
                try simp only [Act.put, List.setIfInBounds_toArray, List.set_cons_zero, List.set_cons_succ]
                refine g_done (by kernel_rfl) ?_
                go_wp2_with fail
                show Z (.returned _) _
                rw [HZ.out]
                exact ⟨none, 0, 0, by rw [← HEE.out, HC.out]; rfl, by rw [← HEE.out, HC.out, if_neg (by decide)]; exact rdk_nil _, chain B0 bel.drew.drew.drew⟩
              · have fw : decide (b < yb) = false := decide_eq_false hw
                by_cases hv : yb = b
                · have fv : (yb == b) = true := by simpa using hv
                  by_cases ht : yc = c
                  · have ft : (yc == c) = true := by simpa using ht
                    have HA2 := Lib.hid (show acc = l.take P ++ ⟨a, b, c⟩ :: (l.take (k + 1)).filter (fun x => decide (a < x.fr)) by
                      rw [HA.out, List.take_succ_eq_append_getElem hlt, ← HY.out, List.filter_append, List.filter_cons, if_neg (by simpa using hg)]; simp)
                    have HE0 := layE_hit (v := ⟨a, b, c⟩) HS.out hlt (by rw [← HY.out]; exact he)
                    rw [← HY.out] at HE0
                    simp only at HE0
                    have HC := Lib.hid (show layE l ⟨a, b, c⟩ = 16 by rw [HE0]; simp [hw, hv, ht]; try omega)
                    clear HE0
                    clear he hv ht
                    refine g_start (by kernel_rfl) ?_
                    refine g_take (i := 0) (d := (some 42)) (v := ?_) rfl rfl (by kernel_rfl) (fun _ _ _ h => h) (by rfl) (fun w' hb' => ?_) ?_
                    rotate_left
                    · (try go_simp); (try with_reducible rfl)
                    try simp only [Act.put, List.setIfInBounds_toArray, List.set_cons_zero, List.set_cons_succ]
                    refine g_take (i := 1) (d := (some 43)) (v := ?_) rfl rfl (by kernel_rfl) (fun _ _ _ h => h) (by rfl) (fun w' hb' => ?_) ?_
                    rotate_left
                    · (try go_simp); (try with_reducible rfl)
                    try simp only [Act.put, List.setIfInBounds_toArray, List.set_cons_zero, List.set_cons_succ]
                    refine g_take (i := 2) (d := (some 44)) (v := ?_) rfl rfl (by kernel_rfl) (fun _ _ _ h => h) (by rfl) (fun w' hb' => ?_) ?_
                    rotate_left
                    · (try go_simp); (try with_reducible rfl)
                    try simp only [Act.put, List.setIfInBounds_toArray, List.set_cons_zero, List.set_cons_succ]
                    refine g_take (i := 3) (d := (some 45)) (v := ?_) rfl rfl (by kernel_rfl) (fun _ _ _ h => h) (by rfl) (fun w' hb' => ?_) ?_
                    rotate_left
                    · (try go_simp); (try with_reducible rfl)
                    try simp only [Act.put, List.setIfInBounds_toArray, List.set_cons_zero, List.set_cons_succ]
                    refine g_take (i := 4) (d := (some 46)) (v := ?_) rfl rfl (by kernel_rfl) (fun _ _ _ h => h) (by rfl) (fun w' hb' => ?_) ?_
                    rotate_left
                    · have c0 := (hb'.cell (p := ⟨pb, po + k * 3, none⟩) hpx).trans C0; have c1 := (hb'.cell (p := ⟨pb, po + k * 3 + 1, none⟩) hpx).trans C1; have c2 := (hb'.cell (p := ⟨pb, po + k * 3 + 2, none⟩) hpx).trans C2; obtain ⟨d0, d1, d2, df⟩ := block_cells3 ((hb'.block _ (lt_of_block q1)).trans q1); (try go_simp); (try with_reducible rfl)
                    try simp only [Act.put, List.setIfInBounds_toArray, List.set_cons_zero, List.set_cons_succ]
                    refine g_take (i := 5) (d := (some 47)) (v := ?_) rfl rfl (by kernel_rfl) (fun _ _ _ h => h) (by rfl) (fun w' hb' => ?_) ?_
                    rotate_left
                    · (try go_simp); (try with_reducible rfl)
                    try simp only [Act.put, List.setIfInBounds_toArray, List.set_cons_zero, List.set_cons_succ]
                    refine g_take (i := 6) (d := (some 48)) (v := ?_) rfl rfl (by kernel_rfl) (fun _ _ _ h => h) (by rfl) (fun w' hb' => ?_) ?_
                    rotate_left
                    · have c0 := (hb'.cell (p := ⟨pb, po + k * 3, none⟩) hpx).trans C0; have c1 := (hb'.cell (p := ⟨pb, po + k * 3 + 1, none⟩) hpx).trans C1; have c2 := (hb'.cell (p := ⟨pb, po + k * 3 + 2, none⟩) hpx).trans C2; obtain ⟨d0, d1, d2, df⟩ := block_cells3 ((hb'.block _ (lt_of_block q1)).trans q1); (try go_simp); (try with_reducible rfl)
                    try simp only [Act.put, List.setIfInBounds_toArray, List.set_cons_zero, List.set_cons_succ]
                    refine g_take (i := 7) (d := (some 49)) (v := ?_) rfl rfl (by kernel_rfl) (fun _ _ _ h => h) (by rfl) (fun w' hb' => ?_) ?_
                    rotate_left
                    · (try go_simp); (try with_reducible rfl)
                    try simp only [Act.put, List.setIfInBounds_toArray, List.set_cons_zero, List.set_cons_succ]
                    refine g_done (by kernel_rfl) ?_
                    go_wp2_with fail
                    refine g_start (by kernel_rfl) ?_
                    refine g_take (i := 0) (d := (some 57)) (v := ?_) rfl rfl (by kernel_rfl) (fun _ _ _ h => h) (by rfl) (fun w' hb' => ?_) ?_
                    rotate_left
                    · (try go_simp); (try with_reducible rfl)
                    try simp only [Act.put, List.setIfInBounds_toArray, List.set_cons_zero, List.set_cons_succ]
                    refine g_take (i := 1) (d := (some 58)) (v := ?_) rfl rfl (by kernel_rfl) (fun _ _ _ h => h) (by rfl) (fun w' hb' => ?_) ?_
                    rotate_left
                    · (try go_simp); (try with_reducible rfl)
                    try simp only [Act.put, List.setIfInBounds_toArray, List.set_cons_zero, List.set_cons_succ]
                    refine g_take (i := 2) (d := (some 59)) (v := ?_) rfl rfl (by kernel_rfl) (fun _ _ _ h => h) (by rfl) (fun w' hb' => ?_) ?_
                    rotate_left
                    · (try go_simp); (try with_reducible rfl)
                    try simp only [Act.put, List.setIfInBounds_toArray, List.set_cons_zero, List.set_cons_succ]
                    refine g_take (i := 3) (d := (some 60)) (v := ?_) rfl rfl (by kernel_rfl) (fun _ _ _ h => h) (by rfl) (fun w' hb' => ?_) ?_
                    rotate_left
                    · (try go_simp); (try with_reducible rfl)
                    try simp only [Act.put, List.setIfInBounds_toArray, List.set_cons_zero, List.set_cons_succ]
                    refine g_take (i := 4) (d := (some 61)) (v := ?_) rfl rfl (by kernel_rfl) (fun _ _ _ h => h) (by rfl) (fun w' hb' => ?_) ?_
                    rotate_left
                    · have c0 := (hb'.cell (p := ⟨pb, po + k * 3, none⟩) hpx).trans C0; have c1 := (hb'.cell (p := ⟨pb, po + k * 3 + 1, none⟩) hpx).trans C1; have c2 := (hb'.cell (p := ⟨pb, po + k * 3 + 2, none⟩) hpx).trans C2; obtain ⟨d0, d1, d2, df⟩ := block_cells3 ((hb'.block _ (lt_of_block q1)).trans q1); (try go_simp); (try with_reducible rfl)
                    try simp only [Act.put, List.setIfInBounds_toArray, List.set_cons_zero, List.set_cons_succ]
                    refine g_take (i := 5) (d := (some 62)) (v := ?_) rfl rfl (by kernel_rfl) (fun _ _ _ h => h) (by rfl) (fun w' hb' => ?_) ?_
                    rotate_left
                    · (try go_simp); (try with_reducible rfl)
                    try simp only [Act.put, List.setIfInBounds_toArray, List.set_cons_zero, List.set_cons_succ]
                    refine g_take (i := 6) (d := (some 63)) (v := ?_) rfl rfl (by kernel_rfl) (fun _ _ _ h => h) (by rfl) (fun w' hb' => ?_) ?_
                    rotate_left
                    · have c0 := (hb'.cell (p := ⟨pb, po + k * 3, none⟩) hpx).trans C0; have c1 := (hb'.cell (p := ⟨pb, po + k * 3 + 1, none⟩) hpx).trans C1; have c2 := (hb'.cell (p := ⟨pb, po + k * 3 + 2, none⟩) hpx).trans C2; obtain ⟨d0, d1, d2, df⟩ := block_cells3 ((hb'.block _ (lt_of_block q1)).trans q1); (try go_simp); (try with_reducible rfl)
                    try simp only [Act.put, List.setIfInBounds_toArray, List.set_cons_zero, List.set_cons_succ]
                    refine g_take (i := 7) (d := (some 64)) (v := ?_) rfl rfl (by kernel_rfl) (fun _ _ _ h => h) (by rfl) (fun w' hb' => ?_) ?_
                    rotate_left
                    · (try go_simp); (try with_reducible rfl)
                    try simp only [Act.put, List.setIfInBounds_toArray, List.set_cons_zero, List.set_cons_succ]
                    refine g_done (by kernel_rfl) ?_
                    go_wp2_with fail
                    refine g_start (by kernel_rfl) ?_
                    refine g_take (i := 0) (d := (some 65)) (v := ?_) rfl rfl (by kernel_rfl) (fun _ _ _ h => h) (by rfl) (fun w' hb' => ?_) ?_
                    rotate_left
                    · (try go_simp); (try with_reducible rfl)
                    try simp only [Act.put, List.setIfInBounds_toArray, List.set_cons_zero, List.set_cons_succ]
                    refine g_take (i := 1) (d := (some 66)) (v := ?_) rfl rfl (by kernel_rfl) (fun _ _ _ h => h) (by rfl) (fun w' hb' => ?_) ?_
                    rotate_left
                    · (try go_simp); (try with_reducible rfl)
                    try simp only [Act.put, List.setIfInBounds_toArray, List.set_cons_zero, List.set_cons_succ]
                    refine g_take (i := 2) (d := (some 67)) (v := ?_) rfl rfl (by kernel_rfl) (fun _ _ _ h => h) (by rfl) (fun w' hb' => ?_) ?_
                    rotate_left
                    · (try go_simp); (try with_reducible rfl)
                    try simp only [Act.put, List.setIfInBounds_toArray, List.set_cons_zero, List.set_cons_succ]
                    refine g_take (i := 3) (d := (some 68)) (v := ?_) rfl rfl (by kernel_rfl) (fun _ _ _ h => h) (by rfl) (fun w' hb' => ?_) ?_
                    rotate_left
                    · (try go_simp); (try with_reducible rfl)
                    try simp only [Act.put, List.setIfInBounds_toArray, List.set_cons_zero, List.set_cons_succ]
                    refine g_take (i := 4) (d := (some 69)) (v := ?_) rfl rfl (by kernel_rfl) (fun _ _ _ h => h) (by rfl) (fun w' hb' => ?_) ?_
                    rotate_left
                    · have c0 := (hb'.cell (p := ⟨pb, po + k * 3, none⟩) hpx).trans C0; have c1 := (hb'.cell (p := ⟨pb, po + k * 3 + 1, none⟩) hpx).trans C1; have c2 := (hb'.cell (p := ⟨pb, po + k * 3 + 2, none⟩) hpx).trans C2; obtain ⟨d0, d1, d2, df⟩ := block_cells3 ((hb'.block _ (lt_of_block q1)).trans q1); (try go_simp); (try with_reducible rfl)
                    try simp only [Act.put, List.setIfInBounds_toArray, List.set_cons_zero, List.set_cons_succ]
                    refine g_take (i := 5) (d := (some 70)) (v := ?_) rfl rfl (by kernel_rfl) (fun _ _ _ h => h) (by rfl) (fun w' hb' => ?_) ?_
                    rotate_left
                    · (try go_simp); (try with_reducible rfl)
                    try simp only [Act.put, List.setIfInBounds_toArray, List.set_cons_zero, List.set_cons_succ]
                    refine g_take (i := 6) (d := (some 71)) (v := ?_) rfl rfl (by kernel_rfl) (fun _ _ _ h => h) (by rfl) (fun w' hb' => ?_) ?_
                    rotate_left
                    · have c0 := (hb'.cell (p := ⟨pb, po + k * 3, none⟩) hpx).trans C0; have c1 := (hb'.cell (p := ⟨pb, po + k * 3 + 1, none⟩) hpx).trans C1; have c2 := (hb'.cell (p := ⟨pb, po + k * 3 + 2, none⟩) hpx).trans C2; obtain ⟨d0, d1, d2, df⟩ := block_cells3 ((hb'.block _ (lt_of_block q1)).trans q1); (try go_simp); (try with_reducible rfl)
                    try simp only [Act.put, List.setIfInBounds_toArray, List.set_cons_zero, List.set_cons_succ]
                    refine g_take (i := 7) (d := (some 72)) (v := ?_) rfl rfl (by kernel_rfl) (fun _ _ _ h => h) (by rfl) (fun w' hb' => ?_) ?_
                    rotate_left
                    · (try go_simp); (try with_reducible rfl)
                    try simp only [Act.put, List.setIfInBounds_toArray, List.set_cons_zero, List.set_cons_succ]
                    refine g_done (by kernel_rfl) ?_
                    go_wp2_with fail
                    refine g_start (by kernel_rfl) ?_
                    refine g_take (i := 0) (d := (some 73)) (v := ?_) rfl rfl (by kernel_rfl) (fun _ _ _ h => h) (by rfl) (fun w' hb' => ?_) ?_
                    rotate_left
                    · (try go_simp); (try with_reducible rfl)
                    try simp only [Act.put, List.setIfInBounds_toArray, List.set_cons_zero, List.set_cons_succ]
                    refine g_take (i := 1) (d := (some 74)) (v := ?_) rfl rfl (by kernel_rfl) (fun _ _ _ h => h) (by rfl) (fun w' hb' => ?_) ?_
                    rotate_left
                    · (try go_simp); (try with_reducible rfl)
                    try simp only [Act.put, List.setIfInBounds_toArray, List.set_cons_zero, List.set_cons_succ]
                    refine g_take (i := 2) (d := (some 75)) (v := ?_) rfl rfl (by kernel_rfl) (fun _ _ _ h => h) (by rfl) (fun w' hb' => ?_) ?_
                    rotate_left
                    · (try go_simp); (try with_reducible rfl)
                    try simp only [Act.put, List.setIfInBounds_toArray, List.set_cons_zero, List.set_cons_succ]
                    refine g_take (i := 3) (d := (some 76)) (v := ?_) rfl rfl (by kernel_rfl) (fun _ _ _ h => h) (by rfl) (fun w' hb' => ?_) ?_
                    rotate_left
                    · (try go_simp); (try with_reducible rfl)
                    try simp only [Act.put, List.setIfInBounds_toArray, List.set_cons_zero, List.set_cons_succ]
                    refine g_take (i := 4) (d := (some 77)) (v := ?_) rfl rfl (by kernel_rfl) (fun _ _ _ h => h) (by rfl) (fun w' hb' => ?_) ?_
                    rotate_left
                    · have c0 := (hb'.cell (p := ⟨pb, po + k * 3, none⟩) hpx).trans C0; have c1 := (hb'.cell (p := ⟨pb, po + k * 3 + 1, none⟩) hpx).trans C1; have c2 := (hb'.cell (p := ⟨pb, po + k * 3 + 2, none⟩) hpx).trans C2; obtain ⟨d0, d1, d2, df⟩ := block_cells3 ((hb'.block _ (lt_of_block q1)).trans q1); (try go_simp); (try with_reducible rfl)
                    try simp only [Act.put, List.setIfInBounds_toArray, List.set_cons_zero, List.set_cons_succ]
                    refine g_take (i := 5) (d := (some 78)) (v := ?_) rfl rfl (by kernel_rfl) (fun _ _ _ h => h) (by rfl) (fun w' hb' => ?_) ?_
                    rotate_left
                    · (try go_simp); (try with_reducible rfl)
                    try simp only [Act.put, List.setIfInBounds_toArray, List.set_cons_zero, List.set_cons_succ]
                    refine g_take (i := 6) (d := (some 79)) (v := ?_) rfl rfl (by kernel_rfl) (fun _ _ _ h => h) (by rfl) (fun w' hb' => ?_) ?_
                    rotate_left
                    · have c0 := (hb'.cell (p := ⟨pb, po + k * 3, none⟩) hpx).trans C0; have c1 := (hb'.cell (p := ⟨pb, po + k * 3 + 1, none⟩) hpx).trans C1; have c2 := (hb'.cell (p := ⟨pb, po + k * 3 + 2, none⟩) hpx).trans C2; obtain ⟨d0, d1, d2, df⟩ := block_cells3 ((hb'.block _ (lt_of_block q1)).trans q1); (try go_simp); (try with_reducible rfl)
                    try simp only [Act.put, List.setIfInBounds_toArray, List.set_cons_zero, List.set_cons_succ]
                    refine g_take (i := 7) (d := (some 80)) (v := ?_) rfl rfl (by kernel_rfl) (fun _ _ _ h => h) (by rfl) (fun w' hb' => ?_) ?_
                    rotate_left
                    · (try go_simp); (try with_reducible rfl)
                    try simp only [Act.put, List.setIfInBounds_toArray, List.set_cons_zero, List.set_cons_succ]
                    refine g_take (i := 8) (d := (some 81)) (v := ?_) rfl rfl (by kernel_rfl) (fun _ _ _ h => h) (by rfl) (fun w' hb' => ?_) ?_
                    rotate_left
                    · (try go_simp); (try with_reducible rfl)
                    try simp only [Act.put, List.setIfInBounds_toArray, List.set_cons_zero, List.set_cons_succ]
                    refine g_take (i := 9) (d := (some 82)) (v := ?_) rfl rfl (by kernel_rfl) (fun _ _ _ h => h) (by rfl) (fun w' hb' => ?_) ?_
                    rotate_left
                    · (try go_simp); (try with_reducible rfl)
                    try simp only [Act.put, List.setIfInBounds_toArray, List.set_cons_zero, List.set_cons_succ]
                    refine g_take (i := 10) (d := (some 83)) (v := ?_) rfl rfl (by kernel_rfl) (fun _ _ _ h => h) (by rfl) (fun w' hb' => ?_) ?_
                    rotate_left
                    · (try go_simp); (try with_reducible rfl)
                    try simp only [Act.put, List.setIfInBounds_toArray, List.set_cons_zero, List.set_cons_succ]
                    refine g_take (i := 11) (d := (some 84)) (v := ?_) rfl rfl (by kernel_rfl) (fun _ _ _ h => h) (by rfl) (fun w' hb' => ?_) ?_
                    rotate_left
                    · (try go_simp); (try with_reducible rfl)
                    try simp only [Act.put, List.setIfInBounds_toArray, List.set_cons_zero, List.set_cons_succ]
                    refine g_take (i := 12) (d := (some 85)) (v := ?_) rfl rfl (by kernel_rfl) (fun _ _ _ h => h) (by rfl) (fun w' hb' => ?_) ?_
                    rotate_left
                    · (try go_simp); (try with_reducible rfl)
                    try simp only [Act.put, List.setIfInBounds_toArray, List.set_cons_zero, List.set_cons_succ]
                    refine g_take (i := 13) (d := (some 86)) (v := ?_) rfl rfl (by kernel_rfl) (fun _ _ _ h => h) (by rfl) (fun w' hb' => ?_) ?_
                    rotate_left
                    · have c0 := (hb'.cell (p := ⟨pb, po + k * 3, none⟩) hpx).trans C0; have c1 := (hb'.cell (p := ⟨pb, po + k * 3 + 1, none⟩) hpx).trans C1; have c2 := (hb'.cell (p := ⟨pb, po + k * 3 + 2, none⟩) hpx).trans C2; obtain ⟨d0, d1, d2, df⟩ := block_cells3 ((hb'.block _ (lt_of_block q1)).trans q1); (try go_simp); (try with_reducible rfl)
                    try simp only [Act.put, List.setIfInBounds_toArray, List.set_cons_zero, List.set_cons_succ]
                    refine g_take (i := 14) (d := (some 87)) (v := ?_) rfl rfl (by kernel_rfl) (fun _ _ _ h => h) (by rfl) (fun w' hb' => ?_) ?_
                    rotate_left
                    · (try go_simp); (try with_reducible rfl)
                    try simp only [Act.put, List.setIfInBounds_toArray, List.set_cons_zero, List.set_cons_succ]
                    refine g_take (i := 15) (d := (some 88)) (v := ?_) rfl rfl (by kernel_rfl) (fun _ _ _ h => h) (by rfl) (fun w' hb' => ?_) ?_
                    rotate_left
                    · have c0 := (hb'.cell (p := ⟨pb, po + k * 3, none⟩) hpx).trans C0; have c1 := (hb'.cell (p := ⟨pb, po + k * 3 + 1, none⟩) hpx).trans C1; have c2 := (hb'.cell (p := ⟨pb, po + k * 3 + 2, none⟩) hpx).trans C2; obtain ⟨d0, d1, d2, df⟩ := block_cells3 ((hb'.block _ (lt_of_block q1)).trans q1); (try go_simp); (try with_reducible rfl)
                    try simp only [Act.put, List.setIfInBounds_toArray, List.set_cons_zero, List.set_cons_succ]
                    refine g_take (i := 16) (d := (some 89)) (v := ?_) rfl rfl (by kernel_rfl) (fun _ _ _ h => h) (by rfl) (fun w' hb' => ?_) ?_
                    rotate_left
                    · (try go_simp); (try with_reducible rfl)
                    try simp only [Act.put, List.setIfInBounds_toArray, List.set_cons_zero, List.set_cons_succ]
                    refine g_take (i := 17) (d := (some 90)) (v := ?_) rfl rfl (by kernel_rfl) (fun _ _ _ h => h) (by rfl) (fun w' hb' => ?_) ?_
                    rotate_left
                    · (try go_simp); (try with_reducible rfl)
                    try simp only [Act.put, List.setIfInBounds_toArray, List.set_cons_zero, List.set_cons_succ]
                    refine g_done (by kernel_rfl) ?_
                    go_wp2_with fail
                    show Z (.returned _) _
                    rw [HZ.out]
                    exact ⟨none, 0, 0, by rw [← HEE.out, HC.out]; rfl, by rw [← HEE.out, HC.out, if_neg (by decide)]; exact rdk_nil _, chain B0 bel.drew.drew.drew.drew⟩
                  · have ft : (yc == c) = false := by simpa using ht
                    have HA2 := Lib.hid (show acc = l.take P ++ ⟨a, b, c⟩ :: (l.take (k + 1)).filter (fun x => decide (a < x.fr)) by
                      rw [HA.out, List.take_succ_eq_append_getElem hlt, ← HY.out, List.filter_append, List.filter_cons, if_neg (by simpa using hg)]; simp)
                    have HE0 := layE_hit (v := ⟨a, b, c⟩) HS.out hlt (by rw [← HY.out]; exact he)
                    rw [← HY.out] at HE0
                    simp only at HE0
                    have HC := Lib.hid (show layE l ⟨a, b, c⟩ = 23 by rw [HE0]; simp [hw, hv, ht]; try omega)
                    clear HE0
                    clear he hv ht
                    refine g_start (by kernel_rfl) ?_
                    refine g_take (i := 0) (d := (some 42)) (v := ?_) rfl rfl (by kernel_rfl) (fun _ _ _ h => h) (by rfl) (fun w' hb' => ?_) ?_
                    rotate_left
                    · (try go_simp); (try with_reducible rfl)
                    try simp only [Act.put, List.setIfInBounds_toArray, List.set_cons_zero, List.set_cons_succ]
                    refine g_take (i := 1) (d := (some 43)) (v := ?_) rfl rfl (by kernel_rfl) (fun _ _ _ h => h) (by rfl) (fun w' hb' => ?_) ?_
                    rotate_left
                    · (try go_simp); (try with_reducible rfl)
                    try simp only [Act.put, List.setIfInBounds_toArray, List.set_cons_zero, List.set_cons_succ]
                    refine g_take (i := 2) (d := (some 44)) (v := ?_) rfl rfl (by kernel_rfl) (fun _ _ _ h => h) (by rfl) (fun w' hb' => ?_) ?_
                    rotate_left
                    · (try go_simp); (try with_reducible rfl)
                    try simp only [Act.put, List.setIfInBounds_toArray, List.set_cons_zero, List.set_cons_succ]
                    refine g_take (i := 3) (d := (some 45)) (v := ?_) rfl rfl (by kernel_rfl) (fun _ _ _ h => h) (by rfl) (fun w' hb' => ?_) ?_
                    rotate_left
                    · (try go_simp); (try with_reducible rfl)
                    try simp only [Act.put, List.setIfInBounds_toArray, List.set_cons_zero, List.set_cons_succ]
                    refine g_take (i := 4) (d := (some 46)) (v := ?_) rfl rfl (by kernel_rfl) (fun _ _ _ h => h) (by rfl) (fun w' hb' => ?_) ?_
                    rotate_left
                    · have c0 := (hb'.cell (p := ⟨pb, po + k * 3, none⟩) hpx).trans C0; have c1 := (hb'.cell (p := ⟨pb, po + k * 3 + 1, none⟩) hpx).trans C1; have c2 := (hb'.cell (p := ⟨pb, po + k * 3 + 2, none⟩) hpx).trans C2; obtain ⟨d0, d1, d2, df⟩ := block_cells3 ((hb'.block _ (lt_of_block q1)).trans q1); (try go_simp); (try with_reducible rfl)
                    try simp only [Act.put, List.setIfInBounds_toArray, List.set_cons_zero, List.set_cons_succ]
                    refine g_take (i := 5) (d := (some 47)) (v := ?_) rfl rfl (by kernel_rfl) (fun _ _ _ h => h) (by rfl) (fun w' hb' => ?_) ?_
                    rotate_left
                    · (try go_simp); (try with_reducible rfl)
                    try simp only [Act.put, List.setIfInBounds_toArray, List.set_cons_zero, List.set_cons_succ]
                    refine g_take (i := 6) (d := (some 48)) (v := ?_) rfl rfl (by kernel_rfl) (fun _ _ _ h => h) (by rfl) (fun w' hb' => ?_) ?_
                    rotate_left
                    · have c0 := (hb'.cell (p := ⟨pb, po + k * 3, none⟩) hpx).trans C0; have c1 := (hb'.cell (p := ⟨pb, po + k * 3 + 1, none⟩) hpx).trans C1; have c2 := (hb'.cell (p := ⟨pb, po + k * 3 + 2, none⟩) hpx).trans C2; obtain ⟨d0, d1, d2, df⟩ := block_cells3 ((hb'.block _ (lt_of_block q1)).trans q1); (try go_simp); (try with_reducible rfl)
                    try simp only [Act.put, List.setIfInBounds_toArray, List.set_cons_zero, List.set_cons_succ]
                    refine g_take (i := 7) (d := (some 49)) (v := ?_) rfl rfl (by kernel_rfl) (fun _ _ _ h => h) (by rfl) (fun w' hb' => ?_) ?_
                    rotate_left
                    · (try go_simp); (try with_reducible rfl)
                    try simp only [Act.put, List.setIfInBounds_toArray, List.set_cons_zero, List.set_cons_succ]
                    refine g_done (by kernel_rfl) ?_
                    go_wp2_with fail
                    refine g_start (by kernel_rfl) ?_
                    refine g_take (i := 0) (d := (some 57)) (v := ?_) rfl rfl (by kernel_rfl) (fun _ _ _ h => h) (by rfl) (fun w' hb' => ?_) ?_
                    rotate_left
                    · (try go_simp); (try with_reducible rfl)
                    try simp only [Act.put, List.setIfInBounds_toArray, List.set_cons_zero, List.set_cons_succ]
                    refine g_take (i := 1) (d := (some 58)) (v := ?_) rfl rfl (by kernel_rfl) (fun _ _ _ h => h) (by rfl) (fun w' hb' => ?_) ?_
                    rotate_left
                    · (try go_simp); (try with_reducible rfl)
                    try simp only [Act.put, List.setIfInBounds_toArray, List.set_cons_zero, List.set_cons_succ]
                    refine g_take (i := 2) (d := (some 59)) (v := ?_) rfl rfl (by kernel_rfl) (fun _ _ _ h => h) (by rfl) (fun w' hb' => ?_) ?_
                    rotate_left
                    · (try go_simp); (try with_reducible rfl)
                    try simp only [Act.put, List.setIfInBounds_toArray, List.set_cons_zero, List.set_cons_succ]
                    refine g_take (i := 3) (d := (some 60)) (v := ?_) rfl rfl (by kernel_rfl) (fun _ _ _ h => h) (by rfl) (fun w' hb' => ?_) ?_
                    rotate_left
                    · (try go_simp); (try with_reducible rfl)
                    try simp only [Act.put, List.setIfInBounds_toArray, List.set_cons_zero, List.set_cons_succ]
                    refine g_take (i := 4) (d := (some 61)) (v := ?_) rfl rfl (by kernel_rfl) (fun _ _ _ h => h) (by rfl) (fun w' hb' => ?_) ?_
                    rotate_left
                    · have c0 := (hb'.cell (p := ⟨pb, po + k * 3, none⟩) hpx).trans C0; have c1 := (hb'.cell (p := ⟨pb, po + k * 3 + 1, none⟩) hpx).trans C1; have c2 := (hb'.cell (p := ⟨pb, po + k * 3 + 2, none⟩) hpx).trans C2; obtain ⟨d0, d1, d2, df⟩ := block_cells3 ((hb'.block _ (lt_of_block q1)).trans q1); (try go_simp); (try with_reducible rfl)
                    try simp only [Act.put, List.setIfInBounds_toArray, List.set_cons_zero, List.set_cons_succ]
                    refine g_take (i := 5) (d := (some 62)) (v := ?_) rfl rfl (by kernel_rfl) (fun _ _ _ h => h) (by rfl) (fun w' hb' => ?_) ?_
                    rotate_left
                    · (try go_simp); (try with_reducible rfl)
                    try simp only [Act.put, List.setIfInBounds_toArray, List.set_cons_zero, List.set_cons_succ]
                    refine g_take (i := 6) (d := (some 63)) (v := ?_) rfl rfl (by kernel_rfl) (fun _ _ _ h => h) (by rfl) (fun w' hb' => ?_) ?_
                    rotate_left
                    · have c0 := (hb'.cell (p := ⟨pb, po + k * 3, none⟩) hpx).trans C0; have c1 := (hb'.cell (p := ⟨pb, po + k * 3 + 1, none⟩) hpx).trans C1; have c2 := (hb'.cell (p := ⟨pb, po + k * 3 + 2, none⟩) hpx).trans C2; obtain ⟨d0, d1, d2, df⟩ := block_cells3 ((hb'.block _ (lt_of_block q1)).trans q1); (try go_simp); (try with_reducible rfl)
                    try simp only [Act.put, List.setIfInBounds_toArray, List.set_cons_zero, List.set_cons_succ]
                    refine g_take (i := 7) (d := (some 64)) (v := ?_) rfl rfl (by kernel_rfl) (fun _ _ _ h => h) (by rfl) (fun w' hb' => ?_) ?_
                    rotate_left
                    · (try go_simp); (try with_reducible rfl)
                    try simp only [Act.put, List.setIfInBounds_toArray, List.set_cons_zero, List.set_cons_succ]
                    refine g_done (by kernel_rfl) ?_
                    go_wp2_with fail
                    refine g_start (by kernel_rfl) ?_
                    refine g_take (i := 0) (d := (some 65)) (v := ?_) rfl rfl (by kernel_rfl) (fun _ _ _ h => h) (by rfl) (fun w' hb' => ?_) ?_
                    rotate_left
                    · (try go_simp); (try with_reducible rfl)
                    try simp only [Act.put, List.setIfInBounds_toArray, List.set_cons_zero, List.set_cons_succ]
                    refine g_take (i := 1) (d := (some 66)) (v := ?_) rfl rfl (by kernel_rfl) (fun _ _ _ h => h) (by rfl) (fun w' hb' => ?_) ?_
                    rotate_left
                    · (try go_simp); (try with_reducible rfl)
                    try simp only [Act.put, List.setIfInBounds_toArray, List.set_cons_zero, List.set_cons_succ]
                    refine g_take (i := 2) (d := (some 67)) (v := ?_) rfl rfl (by kernel_rfl) (fun _ _ _ h => h) (by rfl) (fun w' hb' => ?_) ?_
                    rotate_left
                    · (try go_simp); (try with_reducible rfl)
                    try simp only [Act.put, List.setIfInBounds_toArray, List.set_cons_zero, List.set_cons_succ]
                    refine g_take (i := 3) (d := (some 68)) (v := ?_) rfl rfl (by kernel_rfl) (fun _ _ _ h => h) (by rfl) (fun w' hb' => ?_) ?_
                    rotate_left
                    · (try go_simp); (try with_reducible rfl)
                    try simp only [Act.put, List.setIfInBounds_toArray, List.set_cons_zero, List.set_cons_succ]
                    refine g_take (i := 4) (d := (some 69)) (v := ?_) rfl rfl (by kernel_rfl) (fun _ _ _ h => h) (by rfl) (fun w' hb' => ?_) ?_
                    rotate_left
                    · have c0 := (hb'.cell (p := ⟨pb, po + k * 3, none⟩) hpx).trans C0; have c1 := (hb'.cell (p := ⟨pb, po + k * 3 + 1, none⟩) hpx).trans C1; have c2 := (hb'.cell (p := ⟨pb, po + k * 3 + 2, none⟩) hpx).trans C2; obtain ⟨d0, d1, d2, df⟩ := block_cells3 ((hb'.block _ (lt_of_block q1)).trans q1); (try go_simp); (try with_reducible rfl)
                    try simp only [Act.put, List.setIfInBounds_toArray, List.set_cons_zero, List.set_cons_succ]
                    refine g_take (i := 5) (d := (some 70)) (v := ?_) rfl rfl (by kernel_rfl) (fun _ _ _ h => h) (by rfl) (fun w' hb' => ?_) ?_
                    rotate_left
                    · (try go_simp); (try with_reducible rfl)
                    try simp only [Act.put, List.setIfInBounds_toArray, List.set_cons_zero, List.set_cons_succ]
                    refine g_take (i := 6) (d := (some 71)) (v := ?_) rfl rfl (by kernel_rfl) (fun _ _ _ h => h) (by rfl) (fun w' hb' => ?_) ?_
                    rotate_left
                    · have c0 := (hb'.cell (p := ⟨pb, po + k * 3, none⟩) hpx).trans C0; have c1 := (hb'.cell (p := ⟨pb, po + k * 3 + 1, none⟩) hpx).trans C1; have c2 := (hb'.cell (p := ⟨pb, po + k * 3 + 2, none⟩) hpx).trans C2; obtain ⟨d0, d1, d2, df⟩ := block_cells3 ((hb'.block _ (lt_of_block q1)).trans q1); (try go_simp); (try with_reducible rfl)
                    try simp only [Act.put, List.setIfInBounds_toArray, List.set_cons_zero, List.set_cons_succ]
                    refine g_take (i := 7) (d := (some 72)) (v := ?_) rfl rfl (by kernel_rfl) (fun _ _ _ h => h) (by rfl) (fun w' hb' => ?_) ?_
                    rotate_left
                    · (try go_simp); (try with_reducible rfl)
                    try simp only [Act.put, List.setIfInBounds_toArray, List.set_cons_zero, List.set_cons_succ]
                    refine g_done (by kernel_rfl) ?_
                    go_wp2_with fail
                    refine g_start (by kernel_rfl) ?_
                    refine g_take (i := 0) (d := (some 73)) (v := ?_) rfl rfl (by kernel_rfl) (fun _ _ _ h => h) (by rfl) (fun w' hb' => ?_) ?_
                    rotate_left
                    · (try go_simp); (try with_reducible rfl)
                    try simp only [Act.put, List.setIfInBounds_toArray, List.set_cons_zero, List.set_cons_succ]
                    refine g_take (i := 1) (d := (some 74)) (v := ?_) rfl rfl (by kernel_rfl) (fun _ _ _ h => h) (by rfl) (fun w' hb' => ?_) ?_
                    rotate_left
                    · (try go_simp); (try with_reducible rfl)
                    try simp only [Act.put, List.setIfInBounds_toArray, List.set_cons_zero, List.set_cons_succ]
                    refine g_take (i := 2) (d := (some 75)) (v := ?_) rfl rfl (by kernel_rfl) (fun _ _ _ h => h) (by rfl) (fun w' hb' => ?_) ?_
                    rotate_left
                    · (try go_simp); (try with_reducible rfl)
                    try simp only [Act.put, List.setIfInBounds_toArray, List.set_cons_zero, List.set_cons_succ]
                    refine g_take (i := 3) (d := (some 76)) (v := ?_) rfl rfl (by kernel_rfl) (fun _ _ _ h => h) (by rfl) (fun w' hb' => ?_) ?_
                    rotate_left
                    · (try go_simp); (try with_reducible rfl)
                    try simp only [Act.put, List.setIfInBounds_toArray, List.set_cons_zero, List.set_cons_succ]
                    refine g_take (i := 4) (d := (some 77)) (v := ?_) rfl rfl (by kernel_rfl) (fun _ _ _ h => h) (by rfl) (fun w' hb' => ?_) ?_
                    rotate_left
                    · have c0 := (hb'.cell (p := ⟨pb, po + k * 3, none⟩) hpx).trans C0; have c1 := (hb'.cell (p := ⟨pb, po + k * 3 + 1, none⟩) hpx).trans C1; have c2 := (hb'.cell (p := ⟨pb, po + k * 3 + 2, none⟩) hpx).trans C2; obtain ⟨d0, d1, d2, df⟩ := block_cells3 ((hb'.block _ (lt_of_block q1)).trans q1); (try go_simp); (try with_reducible rfl)
                    try simp only [Act.put, List.setIfInBounds_toArray, List.set_cons_zero, List.set_cons_succ]
                    refine g_take (i := 5) (d := (some 78)) (v := ?_) rfl rfl (by kernel_rfl) (fun _ _ _ h => h) (by rfl) (fun w' hb' => ?_) ?_
                    rotate_left
                    · (try go_simp); (try with_reducible rfl)
                    try simp only [Act.put, List.setIfInBounds_toArray, List.set_cons_zero, List.set_cons_succ]
                    refine g_take (i := 6) (d := (some 79)) (v := ?_) rfl rfl (by kernel_rfl) (fun _ _ _ h => h) (by rfl) (fun w' hb' => ?_) ?_
                    rotate_left
                    · have c0 := (hb'.cell (p := ⟨pb, po + k * 3, none⟩) hpx).trans C0; have c1 := (hb'.cell (p := ⟨pb, po + k * 3 + 1, none⟩) hpx).trans C1; have c2 := (hb'.cell (p := ⟨pb, po + k * 3 + 2, none⟩) hpx).trans C2; obtain ⟨d0, d1, d2, df⟩ := block_cells3 ((hb'.block _ (lt_of_block q1)).trans q1); (try go_simp); (try with_reducible rfl)
                    try simp only [Act.put, List.setIfInBounds_toArray, List.set_cons_zero, List.set_cons_succ]
                    refine g_take (i := 7) (d := (some 80)) (v := ?_) rfl rfl (by kernel_rfl) (fun _ _ _ h => h) (by rfl) (fun w' hb' => ?_) ?_
                    rotate_left
                    · (try go_simp); (try with_reducible rfl)
                    try simp only [Act.put, List.setIfInBounds_toArray, List.set_cons_zero, List.set_cons_succ]
                    refine g_take (i := 8) (d := (some 81)) (v := ?_) rfl rfl (by kernel_rfl) (fun _ _ _ h => h) (by rfl) (fun w' hb' => ?_) ?_
                    rotate_left
                    · (try go_simp); (try with_reducible rfl)
                    try simp only [Act.put, List.setIfInBounds_toArray, List.set_cons_zero, List.set_cons_succ]
                    refine g_take (i := 9) (d := (some 82)) (v := ?_) rfl rfl (by kernel_rfl) (fun _ _ _ h => h) (by rfl) (fun w' hb' => ?_) ?_
                    rotate_left
                    · (try go_simp); (try with_reducible rfl)
                    try simp only [Act.put, List.setIfInBounds_toArray, List.set_cons_zero, List.set_cons_succ]
                    refine g_take (i := 10) (d := (some 83)) (v := ?_) rfl rfl (by kernel_rfl) (fun _ _ _ h => h) (by rfl) (fun w' hb' => ?_) ?_
                    rotate_left
                    · (try go_simp); (try with_reducible rfl)
                    try simp only [Act.put, List.setIfInBounds_toArray, List.set_cons_zero, List.set_cons_succ]
                    refine g_take (i := 11) (d := (some 84)) (v := ?_) rfl rfl (by kernel_rfl) (fun _ _ _ h => h) (by rfl) (fun w' hb' => ?_) ?_
                    rotate_left
                    · (try go_simp); (try with_reducible rfl)
                    try simp only [Act.put, List.setIfInBounds_toArray, List.set_cons_zero, List.set_cons_succ]
                    refine g_take (i := 12) (d := (some 85)) (v := ?_) rfl rfl (by kernel_rfl) (fun _ _ _ h => h) (by rfl) (fun w' hb' => ?_) ?_
                    rotate_left
                    · (try go_simp); (try with_reducible rfl)
                    try simp only [Act.put, List.setIfInBounds_toArray, List.set_cons_zero, List.set_cons_succ]
                    refine g_take (i := 13) (d := (some 86)) (v := ?_) rfl rfl (by kernel_rfl) (fun _ _ _ h => h) (by rfl) (fun w' hb' => ?_) ?_
                    rotate_left
                    · have c0 := (hb'.cell (p := ⟨pb, po + k * 3, none⟩) hpx).trans C0; have c1 := (hb'.cell (p := ⟨pb, po + k * 3 + 1, none⟩) hpx).trans C1; have c2 := (hb'.cell (p := ⟨pb, po + k * 3 + 2, none⟩) hpx).trans C2; obtain ⟨d0, d1, d2, df⟩ := block_cells3 ((hb'.block _ (lt_of_block q1)).trans q1); (try go_simp); (try with_reducible rfl)
                    try simp only [Act.put, List.setIfInBounds_toArray, List.set_cons_zero, List.set_cons_succ]
                    refine g_take (i := 14) (d := (some 87)) (v := ?_) rfl rfl (by kernel_rfl) (fun _ _ _ h => h) (by rfl) (fun w' hb' => ?_) ?_
                    rotate_left
                    · (try go_simp); (try with_reducible rfl)
                    try simp only [Act.put, List.setIfInBounds_toArray, List.set_cons_zero, List.set_cons_succ]
                    refine g_take (i := 15) (d := (some 88)) (v := ?_) rfl rfl (by kernel_rfl) (fun _ _ _ h => h) (by rfl) (fun w' hb' => ?_) ?_
                    rotate_left
                    · have c0 := (hb'.cell (p := ⟨pb, po + k * 3, none⟩) hpx).trans C0; have c1 := (hb'.cell (p := ⟨pb, po + k * 3 + 1, none⟩) hpx).trans C1; have c2 := (hb'.cell (p := ⟨pb, po + k * 3 + 2, none⟩) hpx).trans C2; obtain ⟨d0, d1, d2, df⟩ := block_cells3 ((hb'.block _ (lt_of_block q1)).trans q1); (try go_simp); (try with_reducible rfl)
                    try simp only [Act.put, List.setIfInBounds_toArray, List.set_cons_zero, List.set_cons_succ]
                    refine g_take (i := 16) (d := (some 89)) (v := ?_) rfl rfl (by kernel_rfl) (fun _ _ _ h => h) (by rfl) (fun w' hb' => ?_) ?_
                    rotate_left
                    · (try go_simp); (try with_reducible rfl)
                    try simp only [Act.put, List.setIfInBounds_toArray, List.set_cons_zero, List.set_cons_succ]
                    refine g_take (i := 17) (d := (some 90)) (v := ?_) rfl rfl (by kernel_rfl) (fun _ _ _ h => h) (by rfl) (fun w' hb' => ?_) ?_
                    rotate_left
                    · (try go_simp); (try with_reducible rfl)
                    try simp only [Act.put, List.setIfInBounds_toArray, List.set_cons_zero, List.set_cons_succ]
                    refine g_done (by kernel_rfl) ?_
                    go_wp2_with fail
                    refine g_start (by kernel_rfl) ?_
                    refine g_take (i := 0) (d := (some 91)) (v := ?_) rfl rfl (by kernel_rfl) (fun _ _ _ h => h) (by rfl) (fun w' hb' => ?_) ?_
                    rotate_left
                    · (try go_simp); (try with_reducible rfl)
                    try simp only [Act.put, List.setIfInBounds_toArray, List.set_cons_zero, List.set_cons_succ]
                    refine g_take (i := 1) (d := (some 92)) (v := ?_) rfl rfl (by kernel_rfl) (fun _ _ _ h => h) (by rfl) (fun w' hb' => ?_) ?_
                    rotate_left
                    · (try go_simp); (try with_reducible rfl)
                    try simp only [Act.put, List.setIfInBounds_toArray, List.set_cons_zero, List.set_cons_succ]
                    refine g_take (i := 2) (d := (some 93)) (v := ?_) rfl rfl (by kernel_rfl) (fun _ _ _ h => h) (by rfl) (fun w' hb' => ?_) ?_
                    rotate_left
                    · (try go_simp); (try with_reducible rfl)
                    try simp only [Act.put, List.setIfInBounds_toArray, List.set_cons_zero, List.set_cons_succ]
                    refine g_take (i := 3) (d := (some 94)) (v := ?_) rfl rfl (by kernel_rfl) (fun _ _ _ h => h) (by rfl) (fun w' hb' => ?_) ?_
                    rotate_left
                    · (try go_simp); (try with_reducible rfl)
                    try simp only [Act.put, List.setIfInBounds_toArray, List.set_cons_zero, List.set_cons_succ]
                    refine g_take (i := 4) (d := (some 95)) (v := ?_) rfl rfl (by kernel_rfl) (fun _ _ _ h => h) (by rfl) (fun w' hb' => ?_) ?_
                    rotate_left
                    · have c0 := (hb'.cell (p := ⟨pb, po + k * 3, none⟩) hpx).trans C0; have c1 := (hb'.cell (p := ⟨pb, po + k * 3 + 1, none⟩) hpx).trans C1; have c2 := (hb'.cell (p := ⟨pb, po + k * 3 + 2, none⟩) hpx).trans C2; obtain ⟨d0, d1, d2, df⟩ := block_cells3 ((hb'.block _ (lt_of_block q1)).trans q1); (try go_simp); (try with_reducible rfl)
                    try simp only [Act.put, List.setIfInBounds_toArray, List.set_cons_zero, List.set_cons_succ]
                    refine g_take (i := 5) (d := (some 96)) (v := ?_) rfl rfl (by kernel_rfl) (fun _ _ _ h => h) (by rfl) (fun w' hb' => ?_) ?_
                    rotate_left
                    · (try go_simp); (try with_reducible rfl)
                    try simp only [Act.put, List.setIfInBounds_toArray, List.set_cons_zero, List.set_cons_succ]
                    refine g_take (i := 6) (d := (some 97)) (v := ?_) rfl rfl (by kernel_rfl) (fun _ _ _ h => h) (by rfl) (fun w' hb' => ?_) ?_
                    rotate_left
                    · have c0 := (hb'.cell (p := ⟨pb, po + k * 3, none⟩) hpx).trans C0; have c1 := (hb'.cell (p := ⟨pb, po + k * 3 + 1, none⟩) hpx).trans C1; have c2 := (hb'.cell (p := ⟨pb, po + k * 3 + 2, none⟩) hpx).trans C2; obtain ⟨d0, d1, d2, df⟩ := block_cells3 ((hb'.block _ (lt_of_block q1)).trans q1); (try go_simp); (try with_reducible rfl)
                    try simp only [Act.put, List.setIfInBounds_toArray, List.set_cons_zero, List.set_cons_succ]
                    refine g_take (i := 7) (d := (some 98)) (v := ?_) rfl rfl (by kernel_rfl) (fun _ _ _ h => h) (by rfl) (fun w' hb' => ?_) ?_
                    rotate_left
                    · (try go_simp); (try with_reducible rfl)
                    try simp only [Act.put, List.setIfInBounds_toArray, List.set_cons_zero, List.set_cons_succ]
                    refine g_done (by kernel_rfl) ?_
                    go_wp2_with fail
                    show Z (.returned _) _
                    rw [HZ.out]
                    exact ⟨none, 0, 0, by rw [← HEE.out, HC.out]; rfl, by rw [← HEE.out, HC.out, if_neg (by decide)]; exact rdk_nil _, chain B0 bel.drew.drew.drew.drew.drew⟩
                · have fv : (yb == b) = false := by simpa using hv
                  have HA2 := Lib.hid (show acc = l.take P ++ ⟨a, b, c⟩ :: (l.take (k + 1)).filter (fun x => decide (a < x.fr)) by
                    rw [HA.out, List.take_succ_eq_append_getElem hlt, ← HY.out, List.filter_append, List.filter_cons, if_neg (by simpa using hg)]; simp)
                  have HE0 := layE_hit (v := ⟨a, b, c⟩) HS.out hlt (by rw [← HY.out]; exact he)
                  rw [← HY.out] at HE0
                  simp only at HE0
                  have HN2 := Lib.hid (noE_up HN.out hlt (fun _ => by rw [HE0, if_neg hw, if_neg hv]))
                  clear HE0
                  clear he hv
                  refine g_start (by kernel_rfl) ?_
                  refine g_take (i := 0) (d := (some 42)) (v := ?_) rfl rfl (by kernel_rfl) (fun _ _ _ h => h) (by rfl) (fun w' hb' => ?_) ?_
                  rotate_left
                  · (try go_simp); (try with_reducible rfl)
                  try simp only [Act.put, List.setIfInBounds_toArray, List.set_cons_zero, List.set_cons_succ]
                  refine g_take (i := 1) (d := (some 43)) (v := ?_) rfl rfl (by kernel_rfl) (fun _ _ _ h => h) (by rfl) (fun w' hb' => ?_) ?_
                  rotate_left
                  · (try go_simp); (try with_reducible rfl)
                  try simp only [Act.put, List.setIfInBounds_toArray, List.set_cons_zero, List.set_cons_succ]
                  refine g_take (i := 2) (d := (some 44)) (v := ?_) rfl rfl (by kernel_rfl) (fun _ _ _ h => h) (by rfl) (fun w' hb' => ?_) ?_
                  rotate_left
                  · (try go_simp); (try with_reducible rfl)
                  try simp only [Act.put, List.setIfInBounds_toArray, List.set_cons_zero, List.set_cons_succ]
                  refine g_take (i := 3) (d := (some 45)) (v := ?_) rfl rfl (by kernel_rfl) (fun _ _ _ h => h) (by rfl) (fun w' hb' => ?_) ?_
                  rotate_left
                  · (try go_simp); (try with_reducible rfl)
                  try simp only [Act.put, List.setIfInBounds_toArray, List.set_cons_zero, List.set_cons_succ]
                  refine g_take (i := 4) (d := (some 46)) (v := ?_) rfl rfl (by kernel_rfl) (fun _ _ _ h => h) (by rfl) (fun w' hb' => ?_) ?_
                  rotate_left
                  · have c0 := (hb'.cell (p := ⟨pb, po + k * 3, none⟩) hpx).trans C0; have c1 := (hb'.cell (p := ⟨pb, po + k * 3 + 1, none⟩) hpx).trans C1; have c2 := (hb'.cell (p := ⟨pb, po + k * 3 + 2, none⟩) hpx).trans C2; obtain ⟨d0, d1, d2, df⟩ := block_cells3 ((hb'.block _ (lt_of_block q1)).trans q1); (try go_simp); (try with_reducible rfl)
                  try simp only [Act.put, List.setIfInBounds_toArray, List.set_cons_zero, List.set_cons_succ]
                  refine g_take (i := 5) (d := (some 47)) (v := ?_) rfl rfl (by kernel_rfl) (fun _ _ _ h => h) (by rfl) (fun w' hb' => ?_) ?_
                  rotate_left
                  · (try go_simp); (try with_reducible rfl)
                  try simp only [Act.put, List.setIfInBounds_toArray, List.set_cons_zero, List.set_cons_succ]
                  refine g_take (i := 6) (d := (some 48)) (v := ?_) rfl rfl (by kernel_rfl) (fun _ _ _ h => h) (by rfl) (fun w' hb' => ?_) ?_
                  rotate_left
                  · have c0 := (hb'.cell (p := ⟨pb, po + k * 3, none⟩) hpx).trans C0; have c1 := (hb'.cell (p := ⟨pb, po + k * 3 + 1, none⟩) hpx).trans C1; have c2 := (hb'.cell (p := ⟨pb, po + k * 3 + 2, none⟩) hpx).trans C2; obtain ⟨d0, d1, d2, df⟩ := block_cells3 ((hb'.block _ (lt_of_block q1)).trans q1); (try go_simp); (try with_reducible rfl)
                  try simp only [Act.put, List.setIfInBounds_toArray, List.set_cons_zero, List.set_cons_succ]
                  refine g_take (i := 7) (d := (some 49)) (v := ?_) rfl rfl (by kernel_rfl) (fun _ _ _ h => h) (by rfl) (fun w' hb' => ?_) ?_
                  rotate_left
                  · (try go_simp); (try with_reducible rfl)
                  try simp only [Act.put, List.setIfInBounds_toArray, List.set_cons_zero, List.set_cons_succ]
                  refine g_done (by kernel_rfl) ?_
                  go_wp2_with fail
                  refine g_start (by kernel_rfl) ?_
                  refine g_take (i := 0) (d := (some 57)) (v := ?_) rfl rfl (by kernel_rfl) (fun _ _ _ h => h) (by rfl) (fun w' hb' => ?_) ?_
                  rotate_left
                  · (try go_simp); (try with_reducible rfl)
                  try simp only [Act.put, List.setIfInBounds_toArray, List.set_cons_zero, List.set_cons_succ]
                  refine g_take (i := 1) (d := (some 58)) (v := ?_) rfl rfl (by kernel_rfl) (fun _ _ _ h => h) (by rfl) (fun w' hb' => ?_) ?_
                  rotate_left
                  · (try go_simp); (try with_reducible rfl)
                  try simp only [Act.put, List.setIfInBounds_toArray, List.set_cons_zero, List.set_cons_succ]
                  refine g_take (i := 2) (d := (some 59)) (v := ?_) rfl rfl (by kernel_rfl) (fun _ _ _ h => h) (by rfl) (fun w' hb' => ?_) ?_
                  rotate_left
                  · (try go_simp); (try with_reducible rfl)
                  try simp only [Act.put, List.setIfInBounds_toArray, List.set_cons_zero, List.set_cons_succ]
                  refine g_take (i := 3) (d := (some 60)) (v := ?_) rfl rfl (by kernel_rfl) (fun _ _ _ h => h) (by rfl) (fun w' hb' => ?_) ?_
                  rotate_left
                  · (try go_simp); (try with_reducible rfl)
                  try simp only [Act.put, List.setIfInBounds_toArray, List.set_cons_zero, List.set_cons_succ]
                  refine g_take (i := 4) (d := (some 61)) (v := ?_) rfl rfl (by kernel_rfl) (fun _ _ _ h => h) (by rfl) (fun w' hb' => ?_) ?_
                  rotate_left
                  · have c0 := (hb'.cell (p := ⟨pb, po + k * 3, none⟩) hpx).trans C0; have c1 := (hb'.cell (p := ⟨pb, po + k * 3 + 1, none⟩) hpx).trans C1; have c2 := (hb'.cell (p := ⟨pb, po + k * 3 + 2, none⟩) hpx).trans C2; obtain ⟨d0, d1, d2, df⟩ := block_cells3 ((hb'.block _ (lt_of_block q1)).trans q1); (try go_simp); (try with_reducible rfl)
                  try simp only [Act.put, List.setIfInBounds_toArray, List.set_cons_zero, List.set_cons_succ]
                  refine g_take (i := 5) (d := (some 62)) (v := ?_) rfl rfl (by kernel_rfl) (fun _ _ _ h => h) (by rfl) (fun w' hb' => ?_) ?_
                  rotate_left
                  · (try go_simp); (try with_reducible rfl)
                  try simp only [Act.put, List.setIfInBounds_toArray, List.set_cons_zero, List.set_cons_succ]
                  refine g_take (i := 6) (d := (some 63)) (v := ?_) rfl rfl (by kernel_rfl) (fun _ _ _ h => h) (by rfl) (fun w' hb' => ?_) ?_
                  rotate_left
                  · have c0 := (hb'.cell (p := ⟨pb, po + k * 3, none⟩) hpx).trans C0; have c1 := (hb'.cell (p := ⟨pb, po + k * 3 + 1, none⟩) hpx).trans C1; have c2 := (hb'.cell (p := ⟨pb, po + k * 3 + 2, none⟩) hpx).trans C2; obtain ⟨d0, d1, d2, df⟩ := block_cells3 ((hb'.block _ (lt_of_block q1)).trans q1); (try go_simp); (try with_reducible rfl)
                  try simp only [Act.put, List.setIfInBounds_toArray, List.set_cons_zero, List.set_cons_succ]
                  refine g_take (i := 7) (d := (some 64)) (v := ?_) rfl rfl (by kernel_rfl) (fun _ _ _ h => h) (by rfl) (fun w' hb' => ?_) ?_
                  rotate_left
                  · (try go_simp); (try with_reducible rfl)
                  try simp only [Act.put, List.setIfInBounds_toArray, List.set_cons_zero, List.set_cons_succ]
                  refine g_done (by kernel_rfl) ?_
                  go_wp2_with fail
                  refine g_start (by kernel_rfl) ?_
                  refine g_take (i := 0) (d := (some 65)) (v := ?_) rfl rfl (by kernel_rfl) (fun _ _ _ h => h) (by rfl) (fun w' hb' => ?_) ?_
                  rotate_left
                  · (try go_simp); (try with_reducible rfl)
                  try simp only [Act.put, List.setIfInBounds_toArray, List.set_cons_zero, List.set_cons_succ]
                  refine g_take (i := 1) (d := (some 66)) (v := ?_) rfl rfl (by kernel_rfl) (fun _ _ _ h => h) (by rfl) (fun w' hb' => ?_) ?_
                  rotate_left
                  · (try go_simp); (try with_reducible rfl)
                  try simp only [Act.put, List.setIfInBounds_toArray, List.set_cons_zero, List.set_cons_succ]
                  refine g_take (i := 2) (d := (some 67)) (v := ?_) rfl rfl (by kernel_rfl) (fun _ _ _ h => h) (by rfl) (fun w' hb' => ?_) ?_
                  rotate_left
                  · (try go_simp); (try with_reducible rfl)
                  try simp only [Act.put, List.setIfInBounds_toArray, List.set_cons_zero, List.set_cons_succ]
                  refine g_take (i := 3) (d := (some 68)) (v := ?_) rfl rfl (by kernel_rfl) (fun _ _ _ h => h) (by rfl) (fun w' hb' => ?_) ?_
                  rotate_left
                  · (try go_simp); (try with_reducible rfl)
                  try simp only [Act.put, List.setIfInBounds_toArray, List.set_cons_zero, List.set_cons_succ]
                  refine g_take (i := 4) (d := (some 69)) (v := ?_) rfl rfl (by kernel_rfl) (fun _ _ _ h => h) (by rfl) (fun w' hb' => ?_) ?_
                  rotate_left
                  · have c0 := (hb'.cell (p := ⟨pb, po + k * 3, none⟩) hpx).trans C0; have c1 := (hb'.cell (p := ⟨pb, po + k * 3 + 1, none⟩) hpx).trans C1; have c2 := (hb'.cell (p := ⟨pb, po + k * 3 + 2, none⟩) hpx).trans C2; obtain ⟨d0, d1, d2, df⟩ := block_cells3 ((hb'.block _ (lt_of_block q1)).trans q1); (try go_simp); (try with_reducible rfl)
                  try simp only [Act.put, List.setIfInBounds_toArray, List.set_cons_zero, List.set_cons_succ]
                  refine g_take (i := 5) (d := (some 70)) (v := ?_) rfl rfl (by kernel_rfl) (fun _ _ _ h => h) (by rfl) (fun w' hb' => ?_) ?_
                  rotate_left
                  · (try go_simp); (try with_reducible rfl)
                  try simp only [Act.put, List.setIfInBounds_toArray, List.set_cons_zero, List.set_cons_succ]
                  refine g_take (i := 6) (d := (some 71)) (v := ?_) rfl rfl (by kernel_rfl) (fun _ _ _ h => h) (by rfl) (fun w' hb' => ?_) ?_
                  rotate_left
                  · have c0 := (hb'.cell (p := ⟨pb, po + k * 3, none⟩) hpx).trans C0; have c1 := (hb'.cell (p := ⟨pb, po + k * 3 + 1, none⟩) hpx).trans C1; have c2 := (hb'.cell (p := ⟨pb, po + k * 3 + 2, none⟩) hpx).trans C2; obtain ⟨d0, d1, d2, df⟩ := block_cells3 ((hb'.block _ (lt_of_block q1)).trans q1); (try go_simp); (try with_reducible rfl)
                  try simp only [Act.put, List.setIfInBounds_toArray, List.set_cons_zero, List.set_cons_succ]
                  refine g_take (i := 7) (d := (some 72)) (v := ?_) rfl rfl (by kernel_rfl) (fun _ _ _ h => h) (by rfl) (fun w' hb' => ?_) ?_
                  rotate_left
                  · (try go_simp); (try with_reducible rfl)
                  try simp only [Act.put, List.setIfInBounds_toArray, List.set_cons_zero, List.set_cons_succ]
                  refine g_done (by kernel_rfl) ?_
                  go_wp2_with fail
                  refine g_start (by kernel_rfl) ?_
                  refine g_take (i := 0) (d := (some 73)) (v := ?_) rfl rfl (by kernel_rfl) (fun _ _ _ h => h) (by rfl) (fun w' hb' => ?_) ?_
                  rotate_left
                  · (try go_simp); (try with_reducible rfl)
                  try simp only [Act.put, List.setIfInBounds_toArray, List.set_cons_zero, List.set_cons_succ]
                  refine g_take (i := 1) (d := (some 74)) (v := ?_) rfl rfl (by kernel_rfl) (fun _ _ _ h => h) (by rfl) (fun w' hb' => ?_) ?_
                  rotate_left
                  · (try go_simp); (try with_reducible rfl)
                  try simp only [Act.put, List.setIfInBounds_toArray, List.set_cons_zero, List.set_cons_succ]
                  refine g_take (i := 2) (d := (some 75)) (v := ?_) rfl rfl (by kernel_rfl) (fun _ _ _ h => h) (by rfl) (fun w' hb' => ?_) ?_
                  rotate_left
                  · (try go_simp); (try with_reducible rfl)
                  try simp only [Act.put, List.setIfInBounds_toArray, List.set_cons_zero, List.set_cons_succ]
                  refine g_take (i := 3) (d := (some 76)) (v := ?_) rfl rfl (by kernel_rfl) (fun _ _ _ h => h) (by rfl) (fun w' hb' => ?_) ?_
                  rotate_left
                  · (try go_simp); (try with_reducible rfl)
                  try simp only [Act.put, List.setIfInBounds_toArray, List.set_cons_zero, List.set_cons_succ]
                  refine g_take (i := 4) (d := (some 77)) (v := ?_) rfl rfl (by kernel_rfl) (fun _ _ _ h => h) (by rfl) (fun w' hb' => ?_) ?_
                  rotate_left
                  · have c0 := (hb'.cell (p := ⟨pb, po + k * 3, none⟩) hpx).trans C0; have c1 := (hb'.cell (p := ⟨pb, po + k * 3 + 1, none⟩) hpx).trans C1; have c2 := (hb'.cell (p := ⟨pb, po + k * 3 + 2, none⟩) hpx).trans C2; obtain ⟨d0, d1, d2, df⟩ := block_cells3 ((hb'.block _ (lt_of_block q1)).trans q1); (try go_simp); (try with_reducible rfl)
                  try simp only [Act.put, List.setIfInBounds_toArray, List.set_cons_zero, List.set_cons_succ]
                  refine g_take (i := 5) (d := (some 78)) (v := ?_) rfl rfl (by kernel_rfl) (fun _ _ _ h => h) (by rfl) (fun w' hb' => ?_) ?_
                  rotate_left
                  · (try go_simp); (try with_reducible rfl)
                  try simp only [Act.put, List.setIfInBounds_toArray, List.set_cons_zero, List.set_cons_succ]
                  refine g_take (i := 6) (d := (some 79)) (v := ?_) rfl rfl (by kernel_rfl) (fun _ _ _ h => h) (by rfl) (fun w' hb' => ?_) ?_
                  rotate_left
                  · have c0 := (hb'.cell (p := ⟨pb, po + k * 3, none⟩) hpx).trans C0; have c1 := (hb'.cell (p := ⟨pb, po + k * 3 + 1, none⟩) hpx).trans C1; have c2 := (hb'.cell (p := ⟨pb, po + k * 3 + 2, none⟩) hpx).trans C2; obtain ⟨d0, d1, d2, df⟩ := block_cells3 ((hb'.block _ (lt_of_block q1)).trans q1); (try go_simp); (try with_reducible rfl)
                  try simp only [Act.put, List.setIfInBounds_toArray, List.set_cons_zero, List.set_cons_succ]
                  refine g_take (i := 7) (d := (some 80)) (v := ?_) rfl rfl (by kernel_rfl) (fun _ _ _ h => h) (by rfl) (fun w' hb' => ?_) ?_
                  rotate_left
                  · (try go_simp); (try with_reducible rfl)
                  try simp only [Act.put, List.setIfInBounds_toArray, List.set_cons_zero, List.set_cons_succ]
                  refine g_take (i := 8) (d := (some 81)) (v := ?_) rfl rfl (by kernel_rfl) (fun _ _ _ h => h) (by rfl) (fun w' hb' => ?_) ?_
                  rotate_left
                  · (try go_simp); (try with_reducible rfl)
                  try simp only [Act.put, List.setIfInBounds_toArray, List.set_cons_zero, List.set_cons_succ]
                  refine g_skip (i := 9) (d := (some 82)) rfl rfl (by kernel_rfl) (fun _ _ _ h => h) (by rfl) ?_
                  try simp only [Act.put, List.setIfInBounds_toArray, List.set_cons_zero, List.set_cons_succ]
                  refine g_skip (i := 10) (d := (some 83)) rfl rfl (by kernel_rfl) (fun _ _ _ h => h) (by rfl) ?_
                  try simp only [Act.put, List.setIfInBounds_toArray, List.set_cons_zero, List.set_cons_succ]
                  refine g_skip (i := 11) (d := (some 84)) rfl rfl (by kernel_rfl) (fun _ _ _ h => h) (by rfl) ?_
                  try simp only [Act.put, List.setIfInBounds_toArray, List.set_cons_zero, List.set_cons_succ]
                  refine g_skip (i := 12) (d := (some 85)) rfl rfl (by kernel_rfl) (fun _ _ _ h => h) (by rfl) ?_
                  try simp only [Act.put, List.setIfInBounds_toArray, List.set_cons_zero, List.set_cons_succ]
                  refine g_skip (i := 13) (d := (some 86)) rfl rfl (by kernel_rfl) (fun _ _ _ h => h) (by rfl) ?_
                  try simp only [Act.put, List.setIfInBounds_toArray, List.set_cons_zero, List.set_cons_succ]
                  refine g_skip (i := 14) (d := (some 87)) rfl rfl (by kernel_rfl) (fun _ _ _ h => h) (by rfl) ?_
                  try simp only [Act.put, List.setIfInBounds_toArray, List.set_cons_zero, List.set_cons_succ]
                  refine g_skip (i := 15) (d := (some 88)) rfl rfl (by kernel_rfl) (fun _ _ _ h => h) (by rfl) ?_
                  try simp only [Act.put, List.setIfInBounds_toArray, List.set_cons_zero, List.set_cons_succ]
                  refine g_skip (i := 16) (d := (some 89)) rfl rfl (by kernel_rfl) (fun _ _ _ h => h) (by rfl) ?_
                  try simp only [Act.put, List.setIfInBounds_toArray, List.set_cons_zero, List.set_cons_succ]
                  refine g_take (i := 17) (d := (some 90)) (v := ?_) rfl rfl (by kernel_rfl) (fun _ _ _ h => h) (by rfl) (fun w' hb' => ?_) ?_
                  rotate_left
                  · (try go_simp); (try with_reducible rfl)
                  try simp only [Act.put, List.setIfInBounds_toArray, List.set_cons_zero, List.set_cons_succ]
                  refine g_done (by kernel_rfl) ?_
                  go_wp2_with fail
                  refine g_start (by kernel_rfl) ?_
                  refine g_take (i := 0) (d := (some 91)) (v := ?_) rfl rfl (by kernel_rfl) (fun _ _ _ h => h) (by rfl) (fun w' hb' => ?_) ?_
                  rotate_left
                  · (try go_simp); (try with_reducible rfl)
                  try simp only [Act.put, List.setIfInBounds_toArray, List.set_cons_zero, List.set_cons_succ]
                  refine g_take (i := 1) (d := (some 92)) (v := ?_) rfl rfl (by kernel_rfl) (fun _ _ _ h => h) (by rfl) (fun w' hb' => ?_) ?_
                  rotate_left
                  · (try go_simp); (try with_reducible rfl)
                  try simp only [Act.put, List.setIfInBounds_toArray, List.set_cons_zero, List.set_cons_succ]
                  refine g_take (i := 2) (d := (some 93)) (v := ?_) rfl rfl (by kernel_rfl) (fun _ _ _ h => h) (by rfl) (fun w' hb' => ?_) ?_
                  rotate_left
                  · (try go_simp); (try with_reducible rfl)
                  try simp only [Act.put, List.setIfInBounds_toArray, List.set_cons_zero, List.set_cons_succ]
                  refine g_take (i := 3) (d := (some 94)) (v := ?_) rfl rfl (by kernel_rfl) (fun _ _ _ h => h) (by rfl) (fun w' hb' => ?_) ?_
                  rotate_left
                  · (try go_simp); (try with_reducible rfl)
                  try simp only [Act.put, List.setIfInBounds_toArray, List.set_cons_zero, List.set_cons_succ]
                  refine g_take (i := 4) (d := (some 95)) (v := ?_) rfl rfl (by kernel_rfl) (fun _ _ _ h => h) (by rfl) (fun w' hb' => ?_) ?_
                  rotate_left
                  · have c0 := (hb'.cell (p := ⟨pb, po + k * 3, none⟩) hpx).trans C0; have c1 := (hb'.cell (p := ⟨pb, po + k * 3 + 1, none⟩) hpx).trans C1; have c2 := (hb'.cell (p := ⟨pb, po + k * 3 + 2, none⟩) hpx).trans C2; obtain ⟨d0, d1, d2, df⟩ := block_cells3 ((hb'.block _ (lt_of_block q1)).trans q1); (try go_simp); (try with_reducible rfl)
                  try simp only [Act.put, List.setIfInBounds_toArray, List.set_cons_zero, List.set_cons_succ]
                  refine g_take (i := 5) (d := (some 96)) (v := ?_) rfl rfl (by kernel_rfl) (fun _ _ _ h => h) (by rfl) (fun w' hb' => ?_) ?_
                  rotate_left
                  · (try go_simp); (try with_reducible rfl)
                  try simp only [Act.put, List.setIfInBounds_toArray, List.set_cons_zero, List.set_cons_succ]
                  refine g_take (i := 6) (d := (some 97)) (v := ?_) rfl rfl (by kernel_rfl) (fun _ _ _ h => h) (by rfl) (fun w' hb' => ?_) ?_
                  rotate_left
                  · have c0 := (hb'.cell (p := ⟨pb, po + k * 3, none⟩) hpx).trans C0; have c1 := (hb'.cell (p := ⟨pb, po + k * 3 + 1, none⟩) hpx).trans C1; have c2 := (hb'.cell (p := ⟨pb, po + k * 3 + 2, none⟩) hpx).trans C2; obtain ⟨d0, d1, d2, df⟩ := block_cells3 ((hb'.block _ (lt_of_block q1)).trans q1); (try go_simp); (try with_reducible rfl)
                  try simp only [Act.put, List.setIfInBounds_toArray, List.set_cons_zero, List.set_cons_succ]
                  refine g_take (i := 7) (d := (some 98)) (v := ?_) rfl rfl (by kernel_rfl) (fun _ _ _ h => h) (by rfl) (fun w' hb' => ?_) ?_
                  rotate_left
                  · (try go_simp); (try with_reducible rfl)
                  try simp only [Act.put, List.setIfInBounds_toArray, List.set_cons_zero, List.set_cons_succ]
                  refine g_done (by kernel_rfl) ?_
                  go_wp2_with fail
                  exact ⟨⟨k + 1, acc, by omega, by push_cast; rfl, by omega, HA2, HN2, own_drew (own_drew (own_drew (own_drew (own_drew HOW.out)))), bel.drew.drew.drew.drew.drew⟩, by simp [intOf]; omega⟩
            · have fe : (ya == a) = false := by simpa using he
              have HA2 := Lib.hid (show acc = l.take P ++ ⟨a, b, c⟩ :: (l.take (k + 1)).filter (fun x => decide (a < x.fr)) by
                rw [HA.out, List.take_succ_eq_append_getElem hlt, ← HY.out, List.filter_append, List.filter_cons, if_neg (by simpa using hg)]; simp)
              have HN2 := Lib.hid (noE_up HN.out hlt (fun e => absurd (show ya = a from (congrArg Vt.fr HY.out).trans e) he))
              clear he
              refine g_start (by kernel_rfl) ?_
              refine g_take (i := 0) (d := (some 42)) (v := ?_) rfl rfl (by kernel_rfl) (fun _ _ _ h => h) (by rfl) (fun w' hb' => ?_) ?_
              rotate_left
              · (try go_simp); (try with_reducible rfl)
              try simp only [Act.put, List.setIfInBounds_toArray, List.set_cons_zero, List.set_cons_succ]
              refine g_take (i := 1) (d := (some 43)) (v := ?_) rfl rfl (by kernel_rfl) (fun _ _ _ h => h) (by rfl) (fun w' hb' => ?_) ?_
              rotate_left
              · (try go_simp); (try with_reducible rfl)
              try simp only [Act.put, List.setIfInBounds_toArray, List.set_cons_zero, List.set_cons_succ]
              refine g_take (i := 2) (d := (some 44)) (v := ?_) rfl rfl (by kernel_rfl) (fun _ _ _ h => h) (by rfl) (fun w' hb' => ?_) ?_
              rotate_left
              · (try go_simp); (try with_reducible rfl)
              try simp only [Act.put, List.setIfInBounds_toArray, List.set_cons_zero, List.set_cons_succ]
              refine g_take (i := 3) (d := (some 45)) (v := ?_) rfl rfl (by kernel_rfl) (fun _ _ _ h => h) (by rfl) (fun w' hb' => ?_) ?_
              rotate_left
              · (try go_simp); (try with_reducible rfl)
              try simp only [Act.put, List.setIfInBounds_toArray, List.set_cons_zero, List.set_cons_succ]
              refine g_take (i := 4) (d := (some 46)) (v := ?_) rfl rfl (by kernel_rfl) (fun _ _ _ h => h) (by rfl) (fun w' hb' => ?_) ?_
              rotate_left
              · have c0 := (hb'.cell (p := ⟨pb, po + k * 3, none⟩) hpx).trans C0; have c1 := (hb'.cell (p := ⟨pb, po + k * 3 + 1, none⟩) hpx).trans C1; have c2 := (hb'.cell (p := ⟨pb, po + k * 3 + 2, none⟩) hpx).trans C2; obtain ⟨d0, d1, d2, df⟩ := block_cells3 ((hb'.block _ (lt_of_block q1)).trans q1); (try go_simp); (try with_reducible rfl)
              try simp only [Act.put, List.setIfInBounds_toArray, List.set_cons_zero, List.set_cons_succ]
              refine g_take (i := 5) (d := (some 47)) (v := ?_) rfl rfl (by kernel_rfl) (fun _ _ _ h => h) (by rfl) (fun w' hb' => ?_) ?_
              rotate_left
              · (try go_simp); (try with_reducible rfl)
              try simp only [Act.put, List.setIfInBounds_toArray, List.set_cons_zero, List.set_cons_succ]
              refine g_take (i := 6) (d := (some 48)) (v := ?_) rfl rfl (by kernel_rfl) (fun _ _ _ h => h) (by rfl) (fun w' hb' => ?_) ?_
              rotate_left
              · have c0 := (hb'.cell (p := ⟨pb, po + k * 3, none⟩) hpx).trans C0; have c1 := (hb'.cell (p := ⟨pb, po + k * 3 + 1, none⟩) hpx).trans C1; have c2 := (hb'.cell (p := ⟨pb, po + k * 3 + 2, none⟩) hpx).trans C2; obtain ⟨d0, d1, d2, df⟩ := block_cells3 ((hb'.block _ (lt_of_block q1)).trans q1); (try go_simp); (try with_reducible rfl)
              try simp only [Act.put, List.setIfInBounds_toArray, List.set_cons_zero, List.set_cons_succ]
              refine g_take (i := 7) (d := (some 49)) (v := ?_) rfl rfl (by kernel_rfl) (fun _ _ _ h => h) (by rfl) (fun w' hb' => ?_) ?_
              rotate_left
              · (try go_simp); (try with_reducible rfl)
              try simp only [Act.put, List.setIfInBounds_toArray, List.set_cons_zero, List.set_cons_succ]
              refine g_done (by kernel_rfl) ?_
              go_wp2_with fail
              refine g_start (by kernel_rfl) ?_
              refine g_take (i := 0) (d := (some 57)) (v := ?_) rfl rfl (by kernel_rfl) (fun _ _ _ h => h) (by rfl) (fun w' hb' => ?_) ?_
              rotate_left
              · (try go_simp); (try with_reducible rfl)
              try simp only [Act.put, List.setIfInBounds_toArray, List.set_cons_zero, List.set_cons_succ]
              refine g_take (i := 1) (d := (some 58)) (v := ?_) rfl rfl (by kernel_rfl) (fun _ _ _ h => h) (by rfl) (fun w' hb' => ?_) ?_
              rotate_left
              · (try go_simp); (try with_reducible rfl)
              try simp only [Act.put, List.setIfInBounds_toArray, List.set_cons_zero, List.set_cons_succ]
              refine g_take (i := 2) (d := (some 59)) (v := ?_) rfl rfl (by kernel_rfl) (fun _ _ _ h => h) (by rfl) (fun w' hb' => ?_) ?_
              rotate_left
              · (try go_simp); (try with_reducible rfl)
              try simp only [Act.put, List.setIfInBounds_toArray, List.set_cons_zero, List.set_cons_succ]
              refine g_take (i := 3) (d := (some 60)) (v := ?_) rfl rfl (by kernel_rfl) (fun _ _ _ h => h) (by rfl) (fun w' hb' => ?_) ?_
              rotate_left
              · (try go_simp); (try with_reducible rfl)
              try simp only [Act.put, List.setIfInBounds_toArray, List.set_cons_zero, List.set_cons_succ]
              refine g_take (i := 4) (d := (some 61)) (v := ?_) rfl rfl (by kernel_rfl) (fun _ _ _ h => h) (by rfl) (fun w' hb' => ?_) ?_
              rotate_left
              · have c0 := (hb'.cell (p := ⟨pb, po + k * 3, none⟩) hpx).trans C0; have c1 := (hb'.cell (p := ⟨pb, po + k * 3 + 1, none⟩) hpx).trans C1; have c2 := (hb'.cell (p := ⟨pb, po + k * 3 + 2, none⟩) hpx).trans C2; obtain ⟨d0, d1, d2, df⟩ := block_cells3 ((hb'.block _ (lt_of_block q1)).trans q1); (try go_simp); (try with_reducible rfl)
              try simp only [Act.put, List.setIfInBounds_toArray, List.set_cons_zero, List.set_cons_succ]
              refine g_take (i := 5) (d := (some 62)) (v := ?_) rfl rfl (by kernel_rfl) (fun _ _ _ h => h) (by rfl) (fun w' hb' => ?_) ?_
              rotate_left
              · (try go_simp); (try with_reducible rfl)
              try simp only [Act.put, List.setIfInBounds_toArray, List.set_cons_zero, List.set_cons_succ]
              refine g_take (i := 6) (d := (some 63)) (v := ?_) rfl rfl (by kernel_rfl) (fun _ _ _ h => h) (by rfl) (fun w' hb' => ?_) ?_
              rotate_left
              · have c0 := (hb'.cell (p := ⟨pb, po + k * 3, none⟩) hpx).trans C0; have c1 := (hb'.cell (p := ⟨pb, po + k * 3 + 1, none⟩) hpx).trans C1; have c2 := (hb'.cell (p := ⟨pb, po + k * 3 + 2, none⟩) hpx).trans C2; obtain ⟨d0, d1, d2, df⟩ := block_cells3 ((hb'.block _ (lt_of_block q1)).trans q1); (try go_simp); (try with_reducible rfl)
              try simp only [Act.put, List.setIfInBounds_toArray, List.set_cons_zero, List.set_cons_succ]
              refine g_take (i := 7) (d := (some 64)) (v := ?_) rfl rfl (by kernel_rfl) (fun _ _ _ h => h) (by rfl) (fun w' hb' => ?_) ?_
              rotate_left
              · (try go_simp); (try with_reducible rfl)
              try simp only [Act.put, List.setIfInBounds_toArray, List.set_cons_zero, List.set_cons_succ]
              refine g_done (by kernel_rfl) ?_
              go_wp2_with fail
              exact ⟨⟨k + 1, acc, by omega, by push_cast; rfl, by omega, HA2, HN2, own_drew (own_drew HOW.out), bel.drew.drew⟩, by simp [intOf]; omega⟩
        · have hk2 : k = l.length := by omega
          subst hk2
          have HC := Lib.hid (noE_end HN.out)
          have HL := Lib.hid (show layL l ⟨a, b, c⟩ = acc by rw [lay_end HS.out, HA.out, List.take_length, ← HP.out])
          have HRR := Lib.hid (own_rdk vtC_len HOW.out)
          obtain ⟨a9, n9, c9, e9⟩ := own_val HOW.out
          subst e9
          go_wp2_with fail
          show Z (.returned _) _
          rw [HZ.out]
          exact ⟨a9, n9, c9, by rw [← HEE.out, HC.out]; rfl, by rw [← HEE.out, HC.out, if_pos rfl, HL.out]; exact HRR.out, chain B0 bel⟩
end Go.Proofs.YtgmblgpfgdfnaaaDoor
