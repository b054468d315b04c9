/- Leaves: the document's With. Written by wip/tools/sed over XK9W (bounds of 2000). -/
/- Span: the document's All, Whole, Head, Turned. Written by wip/tools/gen11f.py. -/
import Derived.Test.YtbdfcgffkonbiaaDoorQST10
import Derived.Test.YtbdfcgffkonbiaaDoorQST27
import Derived.Test.YtbdfcgffkonbiaaDoorQST4
import Derived.Test.YtbdfcgffkonbiaaDoorQST21
namespace Go.Proofs.YtbdfcgffkonbiaaDoor
open Go Go.RowKit
set_option linter.unusedVariables false
set_option linter.unusedSimpArgs false
set_option maxRecDepth 100000 in
set_option maxHeartbeats 4000000 in
theorem refWith11_any (v : Value) (l : List It) (x : It) (w : World) (h : RdI w v l) (hsz : SzI l) (hxk : x.key.length ≤ maxLen) (h66 : l.length ≤ 2000) :
    Calls Tryd.prog 81 #[v, itV x] w (OwnI w (withL l x)) := by
  obtain ⟨i0, hi, hz0, hz1, hz2⟩ := info_parts item_info
  obtain ⟨ao, cap, rfl, hc, hm, hr⟩ := RdK.open h
  obtain ⟨w1, hw1⟩ : ∃ w1, w1 = w.alloc (.cells #[.string (str x.key), .int .i64 x.v.k, .int .i64 x.v.i, .string (str x.v.s), .int .i64 x.ver] 53) := ⟨_, rfl⟩
  have q1 : w1.heap[w.heap.size]? = some (.cells #[.string (str x.key), .int .i64 x.v.k, .int .i64 x.v.i, .string (str x.v.s), .int .i64 x.ver] 53 (0, 0)) := by rw [hw1]; exact heap_alloc_new _ _
  have b1 : Below w.heap.size w w1 := by rw [hw1]; exact (Below.refl _ _).alloc (Nat.le_refl _) _
  have z1 : w1.heap.size = w.heap.size + 1 := by rw [hw1, World.size_alloc]
  have HRD := Lib.hid (show RdI w1 (.slice ao l.length cap) l from RdI.below hr b1 (Nat.le_refl _))
  have HS := Lib.hid hsz
  have Q1 := Lib.hid q1
  have B1 := Lib.hid b1
  have Z1 := Lib.hid z1
  unfold itV
  clear h hr hsz q1 b1 z1
  go_enter Tryd.func81, Tryd.ntmps81
  go_wp2_with fail
  rw [← hw1]
  clear hw1
  go_loopw [5, 6] (fun out i wr => ∃ (j : Nat) (acc : List It), j ≤ l.length ∧ i = .int .i64 (j : Int) ∧ acc.length ≤ j ∧ Hid (acc = (l.take j).filter (fun y => ltB y.key x.key)) ∧ wr.ownsRow w1.heap.size 53 5 out acc.length (acc.flatMap itC) ∧ Below w1.heap.size w1 wr) (fun _ i _ => 3000 - (intOf i).toNat)
  case atStart => exact ⟨0, [], Nat.zero_le _, rfl, Nat.le_refl _, rfl, World.ownsRow_nil _ _ _ _, Below.refl _ _⟩
  case round =>
    obtain ⟨j, acc, hj, rfl, hacc, HA, hown, bel⟩ := hrel
    have qx := (bel.block _ (lt_of_block Q1.out)).trans Q1.out
    obtain ⟨f0, f1, f2, f3, f4, fz⟩ := block_cells5 qx
    by_cases hlt : j < l.length
    · have R1 := HRD.out.below bel (Nat.le_refl _)
      obtain ⟨b, off, rfl, hb, c0, c1, c2, c3, c4⟩ := rdi_cells R1 j hlt
      obtain ⟨y, hy⟩ : ∃ y, y = l[j]'hlt := ⟨_, rfl⟩
      rw [← hy] at c0 c1 c2 c3 c4
      have hyk : y.key.length ≤ maxLen := by rw [hy]; exact (HS.out _ (List.getElem_mem _)).1
      have HY := Lib.hid hy
      have AQ0 := fun W => ahead_q y.key x.key W (by assumption) (by assumption)
      clear hy R1 qx
      cases ho : ltB y.key x.key with
      | true =>
        simp only [ho] at AQ0
        have AQH := Lib.hid AQ0
        have HN := Lib.hid (show acc ++ [y] = (l.take (j + 1)).filter (fun y => ltB y.key x.key) by rw [filter_succ hlt, HA.out, ← HY.out]; simp [ho])
        clear AQ0 ho
        go_wp2_with fail
        go_quiet ((go_at_call 101; exact Calls.quiet_of (AQH.out _)))
        have bel2 := below_drewN (k := nq) bel
        have hown3 := own_draw hown nq
        obtain ⟨wq, hwq⟩ : ∃ wq, wq = wr.drewN nq := ⟨_, rfl⟩
        have c0 : (wr.drewN nq).cell? ⟨b, off + j * 5, none⟩ = some (.string (str y.key)) := c0
        have c1 : (wr.drewN nq).cell? ⟨b, off + j * 5 + 1, none⟩ = some (.int .i64 y.v.k) := c1
        have c2 : (wr.drewN nq).cell? ⟨b, off + j * 5 + 2, none⟩ = some (.int .i64 y.v.i) := c2
        have c3 : (wr.drewN nq).cell? ⟨b, off + j * 5 + 3, none⟩ = some (.string (str y.v.s)) := c3
        have c4 : (wr.drewN nq).cell? ⟨b, off + j * 5 + 4, none⟩ = some (.int .i64 y.ver) := c4
        rw [← hwq] at bel2 hown3 c0 c1 c2 c3 c4 ⊢
        clear hwq hown bel
        go_wp2_with (at_builtin; refine wpList_app1k itC_len (by decide) w1 rfl (.tmp 22) (.tmp 27) 22 rfl w1.heap.size 53 i0 (.agg #[.string ⟨#[]⟩, .int .i64 0, .int .i64 0, .string ⟨#[]⟩, .int .i64 0]) 56 Tryd.underlying22 hi hz0 hz1 hz2 rfl _ _ rfl hown3 _ y _ rfl rfl itC_one (by unfold maxLen; omega) (by omega) (Nat.le_refl _) bel2 ?_; intro v' w9 hown2 hb2 hq2; clear hq2)
        exact ⟨⟨j + 1, acc ++ [y], by omega, by push_cast; rfl, by simp; omega, HN, hown2, hb2⟩, by simp [intOf]; omega⟩
      | false =>
        simp only [ho] at AQ0
        have AQH := Lib.hid AQ0
        have HN := Lib.hid (show acc = (l.take (j + 1)).filter (fun y => ltB y.key x.key) by rw [filter_succ hlt, HA.out, ← HY.out]; simp [ho])
        clear AQ0 ho
        go_wp2_with fail
        go_quiet ((go_at_call 101; exact Calls.quiet_of (AQH.out _)))
        have bel2 := below_drewN (k := nq) bel
        have hown3 := own_draw hown nq
        go_wp2_with fail
        exact ⟨⟨j + 1, acc, by omega, by push_cast; rfl, by omega, HN, hown3, bel2⟩, by simp [intOf]; omega⟩
    · obtain rfl : j = l.length := by omega
      have EP := Lib.hid (show acc = l.filter (fun y => ltB y.key x.key) by rw [HA.out, List.take_length])
      have hPl : acc.length ≤ l.length := by rw [EP.out]; exact List.length_filter_le _ _
      obtain ⟨PP, rfl⟩ : ∃ PP, PP = acc := ⟨_, rfl⟩
      clear HA hacc
      go_wp2_with (at_builtin; refine wpList_app1k itC_len (by decide) w1 rfl (.tmp 29) (.tmp 31) 22 rfl w1.heap.size 53 i0 (.agg #[.string ⟨#[]⟩, .int .i64 0, .int .i64 0, .string ⟨#[]⟩, .int .i64 0]) 56 Tryd.underlying22 hi hz0 hz1 hz2 rfl _ _ rfl hown _ x _ rfl rfl itC_one (by unfold maxLen; omega) (by omega) (Nat.le_refl _) bel ?_; intro v' w9 hown2 hb2 hq2; clear hq2)
      clear hown bel qx f0 f1 f2 f3 f4 fz
      go_loopw [5, 7] (fun out i wr => ∃ (j : Nat) (acc : List It), j ≤ l.length ∧ i = .int .i64 (j : Int) ∧ acc.length ≤ l.length + 1 + j ∧ Hid (acc = PP ++ [x] ++ (l.take j).filter (fun y => ltB x.key y.key)) ∧ wr.ownsRow w1.heap.size 53 5 out acc.length (acc.flatMap itC) ∧ Below w1.heap.size w1 wr) (fun _ i _ => 3000 - (intOf i).toNat)
      case atStart => exact ⟨0, PP ++ [x], Nat.zero_le _, rfl, by simp; omega, Lib.hid (by simp), hown2, hb2⟩
      case round =>
        obtain ⟨j, acc, hj, rfl, hacc, HA, hown, bel⟩ := hrel
        have qx := (bel.block _ (lt_of_block Q1.out)).trans Q1.out
        obtain ⟨f0, f1, f2, f3, f4, fz⟩ := block_cells5 qx
        by_cases hlt : j < l.length
        · have R1 := HRD.out.below bel (Nat.le_refl _)
          obtain ⟨b, off, rfl, hb, c0, c1, c2, c3, c4⟩ := rdi_cells R1 j hlt
          obtain ⟨y, hy⟩ : ∃ y, y = l[j]'hlt := ⟨_, rfl⟩
          rw [← hy] at c0 c1 c2 c3 c4
          have hyk : y.key.length ≤ maxLen := by rw [hy]; exact (HS.out _ (List.getElem_mem _)).1
          have HY := Lib.hid hy
          have AQ0 := fun W => ahead_q x.key y.key W (by assumption) (by assumption)
          clear hy R1 qx
          cases ho : ltB x.key y.key with
          | true =>
            simp only [ho] at AQ0
            have AQH := Lib.hid AQ0
            have HN := Lib.hid (show acc ++ [y] = PP ++ [x] ++ (l.take (j + 1)).filter (fun y => ltB x.key y.key) by rw [filter_succ hlt, HA.out, ← HY.out]; simp [ho])
            clear AQ0 ho
            go_wp2_with fail
            go_quiet ((go_at_call 101; exact Calls.quiet_of (AQH.out _)))
            have bel2 := below_drewN (k := nq) bel
            have hown3 := own_draw hown nq
            obtain ⟨wq, hwq⟩ : ∃ wq, wq = wr.drewN nq := ⟨_, rfl⟩
            have c0 : (wr.drewN nq).cell? ⟨b, off + j * 5, none⟩ = some (.string (str y.key)) := c0
            have c1 : (wr.drewN nq).cell? ⟨b, off + j * 5 + 1, none⟩ = some (.int .i64 y.v.k) := c1
            have c2 : (wr.drewN nq).cell? ⟨b, off + j * 5 + 2, none⟩ = some (.int .i64 y.v.i) := c2
            have c3 : (wr.drewN nq).cell? ⟨b, off + j * 5 + 3, none⟩ = some (.string (str y.v.s)) := c3
            have c4 : (wr.drewN nq).cell? ⟨b, off + j * 5 + 4, none⟩ = some (.int .i64 y.ver) := c4
            rw [← hwq] at bel2 hown3 c0 c1 c2 c3 c4 ⊢
            clear hwq hown bel
            go_wp2_with (at_builtin; refine wpList_app1k itC_len (by decide) w1 rfl (.tmp 47) (.tmp 52) 22 rfl w1.heap.size 53 i0 (.agg #[.string ⟨#[]⟩, .int .i64 0, .int .i64 0, .string ⟨#[]⟩, .int .i64 0]) 56 Tryd.underlying22 hi hz0 hz1 hz2 rfl _ _ rfl hown3 _ y _ rfl rfl itC_one (by unfold maxLen; omega) (by omega) (Nat.le_refl _) bel2 ?_; intro v' w9 hown2 hb2 hq2; clear hq2)
            exact ⟨⟨j + 1, acc ++ [y], by omega, by push_cast; rfl, by simp; omega, HN, hown2, hb2⟩, by simp [intOf]; omega⟩
          | false =>
            simp only [ho] at AQ0
            have AQH := Lib.hid AQ0
            have HN := Lib.hid (show acc = PP ++ [x] ++ (l.take (j + 1)).filter (fun y => ltB x.key y.key) by rw [filter_succ hlt, HA.out, ← HY.out]; simp [ho])
            clear AQ0 ho
            go_wp2_with fail
            go_quiet ((go_at_call 101; exact Calls.quiet_of (AQH.out _)))
            have bel2 := below_drewN (k := nq) bel
            have hown3 := own_draw hown nq
            go_wp2_with fail
            exact ⟨⟨j + 1, acc, by omega, by push_cast; rfl, by omega, HN, hown3, bel2⟩, by simp [intOf]; omega⟩
        · obtain rfl : j = l.length := by omega
          have E := Lib.hid (show withL l x = acc by rw [HA.out, List.take_length, EP.out]; unfold withL; simp)
          go_wp2_with fail
          go_ret
          have e := E.out
          rw [e]
          exact ⟨_, rfl, own_up hown (by rw [Z1.out]; omega), B1.out.trans (bel.mono (by rw [Z1.out]; omega))⟩
end Go.Proofs.YtbdfcgffkonbiaaDoor
namespace Go.Proofs.YtbdfcgffkonbiaaDoor
open Go Go.RowKit
set_option linter.unusedVariables false
set_option linter.unusedSimpArgs false
theorem allN_sz {lv : Nat → List It} (hsz : SzT lv) : SzI (allN lv 16) := fun x hx => by
  obtain ⟨b, hb, hx⟩ := mem_allN hx
  exact hsz b hb x hx
theorem with_sub {l : List It} {x y : It} (h : y ∈ withL l x) : y ∈ l ∨ y = x := by
  rcases with_mem.1 h with ⟨h, _⟩ | h | ⟨h, _⟩
  · exact .inl h
  · exact .inr h
  · exact .inl h
theorem fold_sz : ∀ (l acc : List It), SzI acc → SzI l → SzI (l.foldl withL acc)
  | [], acc, h, _ => h
  | x :: l, acc, h, h2 => fold_sz l (withL acc x) (fun y hy => by
      rcases with_sub hy with e | e
      · exact h y e
      · rw [e]; exact h2 x (by simp)) (fun y hy => h2 y (by simp [hy]))
theorem allS_sz {lv : Nat → List It} (hsz : SzT lv) : SzI (allS lv) := fold_sz _ _ (fun _ h => by cases h) (allN_sz hsz)
set_option maxRecDepth 100000 in
set_option maxHeartbeats 1000000 in
theorem refAll11_any (cs : Array Value) (lv : Nat → List It) (vs : Nat → Int) (w : World) (h : RdT w cs lv vs) (hsz : SzT lv) (h100 : ∀ b, b < 16 → (lv b).length ≤ 100) :
    Calls Tryd.prog 69 #[.agg cs] w (OwnI w (allS lv)) := by
  have hs := infoTc h.size
  have q1 := heap_alloc_new w (.cells cs 26)
  have bel := (Below.refl w.heap.size w).alloc (Nat.le_refl _) (.cells cs 26)
  have AL0 := all_any cs lv vs _ (h.below bel (Nat.le_refl _)) h100
  obtain ⟨Z, hZ⟩ : ∃ Z, Z = OwnI w (allS lv) := ⟨_, rfl⟩
  rw [← hZ]
  have hl1 := allN_len 16 h100
  have hsz1 := allN_sz hsz
  unfold allS at hZ
  obtain ⟨L, hL⟩ : ∃ L, L = allN lv 16 := ⟨_, rfl⟩
  rw [← hL] at AL0 hZ hl1 hsz1
  have AL := Lib.hid AL0
  have HZ := Lib.hid hZ
  have HS := Lib.hid hsz1
  clear h hsz h100 AL0 hZ hL hsz1
  go_enter Tryd.func69, Tryd.ntmps69
  go_wp2_with ((with_reducible refine wpList_load_row (o := ⟨some 6, _, _, _, _, _⟩) rfl 26 (.tmp 1) rfl _ rfl _ cs (0, 0) _ q1 Tryd.underlying26 rfl hs ?_))
  refine AL.out.mono ?_
  rintro e w2 ⟨v, rfl, own, g⟩
  have bel2 := chain bel g
  have RD0 := OwnI.rd (w := w2) own
  obtain ⟨al, cl, rfl, hc1, hc2, RD1⟩ := RdK.open RD0
  have RDL := Lib.hid (show RdI w2 (.slice al L.length cl) L from RD1)
  have BEL := Lib.hid bel2
  clear RD0 RD1 own g bel bel2 q1 AL
  go_wp2_with fail
  go_loopw [3, 5] (fun o i wr => ∃ (j : Nat) (acc : List It), j ≤ L.length ∧ i = .int .i64 (j : Int) ∧ acc.length ≤ j ∧ Hid (acc = (L.take j).foldl withL []) ∧ Hid (SzI acc) ∧ wr.ownsRow w.heap.size 53 5 o acc.length (acc.flatMap itC) ∧ Below w2.heap.size w2 wr) (fun _ i _ => 3000 - (intOf i).toNat)
  case atStart => exact ⟨0, [], Nat.zero_le _, rfl, Nat.le_refl _, Lib.hid rfl, Lib.hid (fun _ h => by cases h), World.ownsRow_nil _ _ _ _, Below.refl _ _⟩
  case round =>
    obtain ⟨j, acc, hj, rfl, hacc, HA, HSA, hown, bel⟩ := hrel
    by_cases hlt : j < L.length
    · have R1 := RDL.out.below bel (Nat.le_refl _)
      obtain ⟨b, off, rfl, hb, c0, c1, c2, c3, c4⟩ := rdi_cells R1 j hlt
      obtain ⟨x, hx⟩ : ∃ x, x = L[j]'hlt := ⟨_, rfl⟩
      rw [← hx] at c0 c1 c2 c3 c4
      have hxm : x ∈ L := by rw [hx]; exact List.getElem_mem _
      have HX := Lib.hid (show withL acc x = (L.take (j + 1)).foldl withL [] by rw [take_snoc11 hlt, List.foldl_append, ← HA.out, ← hx]; rfl)
      have hsx := HS.out x hxm
      have HSN := Lib.hid (show SzI (withL acc x) from fun y hy => by
        rcases with_sub hy with e | e
        · exact HSA.out y e
        · rw [e]; exact hsx)
      have hwl := with_len' acc x
      obtain ⟨oa, on, oc, rfl⟩ := own_slice hown
      have RW0 := refWith11_any (.slice oa on oc) acc x wr (OwnI.rd (w := wr) hown) HSA.out hsx.1 (by omega)
      unfold itV at RW0
      have RW := Lib.hid RW0
      have HOW := Lib.hid hown
      clear RW0 hx R1 hxm hsx hown
      go_wp2_with ((with_reducible refine RW.out.mono ?_); rintro e w5 ⟨v5, rfl, own5, g5⟩)
      exact ⟨⟨j + 1, withL acc x, by omega, by push_cast; rfl, by omega, HX, HSN, own_base own5 (Nat.le_trans BEL.out.size bel.size), chain bel g5⟩, by simp [intOf]; omega⟩
    · obtain rfl : j = L.length := by omega
      have HA2 := Lib.hid (show acc = L.foldl withL [] by rw [HA.out, List.take_length])
      clear HA
      go_wp2_with fail
      show Z (.returned _) _
      rw [HZ.out, ← HA2.out]
      exact ⟨_, rfl, hown, chain BEL.out bel⟩
set_option maxRecDepth 100000 in
set_option maxHeartbeats 1000000 in
theorem whole_any (cs : Array Value) (lv : Nat → List It) (vs : Nat → Int) (f t : List UInt8) (w : World) (tab : TabAt w) (h : RdT w cs lv vs) (hsz : SzT lv) (h100 : ∀ b, b < 16 → (lv b).length ≤ 100) (hm : mayTs lv vs 16 = true) (hf : patB f = true) (ht : patB t = true) (hfl : f.length ≤ maxLen) (htl : t.length ≤ maxLen) :
    Calls Tryd.prog 30 #[.agg cs, .string (str f), .string (str t)] w (OwnI w (rngL lv f t)) := by
  have hs := infoTc h.size
  obtain ⟨i0, hi, hz0, hz1, hz2⟩ := info_parts item_info
  have q1 := heap_alloc_new w (.cells cs 26)
  have bel := (Below.refl w.heap.size w).alloc (Nat.le_refl _) (.cells cs 26)
  have AL0 := refAll11_any cs lv vs _ (h.below bel (Nat.le_refl _)) hsz h100
  obtain ⟨Z, hZ⟩ : ∃ Z, Z = OwnI w (rngL lv f t) := ⟨_, rfl⟩
  rw [← hZ]
  have hl1 := allS_len hm
  have hsz1 := allS_sz hsz
  have hk1 : ∀ x ∈ allS lv, isB x.key = true := fun x hx => allS_key hm hx
  unfold rngL at hZ
  obtain ⟨L, hL⟩ : ∃ L, L = allS lv := ⟨_, rfl⟩
  rw [← hL] at AL0 hZ hl1 hsz1 hk1
  have AL := Lib.hid AL0
  have HZ := Lib.hid hZ
  have HS := Lib.hid hsz1
  have HK := Lib.hid hk1
  have TB := Lib.hid tab
  have HFT := Lib.hid (And.intro hf ht)
  clear h hsz h100 AL0 hZ hL hsz1 hk1 hm tab hf ht
  go_enter Tryd.func30, Tryd.ntmps30
  go_wp2_with ((with_reducible refine wpList_load_row (o := ⟨some 10, _, _, _, _, _⟩) rfl 26 (.tmp 3) rfl _ rfl _ cs (0, 0) _ q1 Tryd.underlying26 rfl hs ?_))
  refine AL.out.mono ?_
  rintro e w2 ⟨v, rfl, own, g⟩
  have bel2 := chain bel g
  have RD0 := OwnI.rd (w := w2) own
  obtain ⟨al, cl, rfl, hc1, hc2, RD1⟩ := RdK.open RD0
  have RDL := Lib.hid (show RdI w2 (.slice al L.length cl) L from RD1)
  have BEL := Lib.hid bel2
  clear RD0 RD1 own g bel bel2 q1 AL
  go_wp2_with fail
  go_loopw [7, 9] (fun o i wr => ∃ (j : Nat) (acc : List It), j ≤ L.length ∧ i = .int .i64 (j : Int) ∧ acc.length ≤ j ∧ Hid (acc = (L.take j).filter (fun x => inK f t x.key)) ∧ wr.ownsRow w2.heap.size 53 5 o acc.length (acc.flatMap itC) ∧ Below w2.heap.size w2 wr) (fun _ i _ => 3000 - (intOf i).toNat)
  case atStart => exact ⟨0, [], Nat.zero_le _, rfl, Nat.le_refl _, Lib.hid rfl, World.ownsRow_nil _ _ _ _, Below.refl _ _⟩
  case round =>
    obtain ⟨j, acc, hj, rfl, hacc, HA, hown, bel⟩ := hrel
    by_cases hlt : j < L.length
    · have R1 := RDL.out.below bel (Nat.le_refl _)
      obtain ⟨b, off, rfl, hb, c0, c1, c2, c3, c4⟩ := rdi_cells R1 j hlt
      obtain ⟨x, hx⟩ : ∃ x, x = L[j]'hlt := ⟨_, rfl⟩
      rw [← hx] at c0 c1 c2 c3 c4
      have hxm : x ∈ L := by rw [hx]; exact List.getElem_mem _
      have e0 : (isB x.key && patB f && patB t && !ltB x.key f && (decide (t = []) || ltB x.key t)) = inK f t x.key := by
        rw [HK.out x hxm, HFT.out.1, HFT.out.2]; unfold inK; rfl
      have IN0 := refIn_any x.key f t (HS.out x hxm).1 hfl htl wr (TB.out.below (chain BEL.out bel))
      rw [e0] at IN0
      have HX := Lib.hid (show (L.take (j + 1)).filter (fun x => inK f t x.key) = acc ++ (if inK f t x.key then [x] else []) by rw [filter_succ hlt, ← HA.out, ← hx])
      have HOW := Lib.hid hown
      have BB := chain BEL.out bel
      clear e0 hx R1 hxm hown
      cases hin : inK f t x.key with
      | true =>
        rw [hin] at IN0
        have IN := Lib.hid IN0
        have HX2 := Lib.hid (show acc ++ [x] = (L.take (j + 1)).filter (fun x => inK f t x.key) by rw [HX.out, hin]; rfl)
        clear IN0 hin HX
        go_wp2_with (first | ((with_reducible refine IN.out.mono ?_); rintro e w5 ⟨rfl, g5⟩; (have c0 := (g5.cell (p := ⟨b, off + j * 5, none⟩) hb).trans c0); (have c1 := (g5.cell (p := ⟨b, off + j * 5 + 1, none⟩) hb).trans c1); (have c2 := (g5.cell (p := ⟨b, off + j * 5 + 2, none⟩) hb).trans c2); (have c3 := (g5.cell (p := ⟨b, off + j * 5 + 3, none⟩) hb).trans c3); (have c4 := (g5.cell (p := ⟨b, off + j * 5 + 4, none⟩) hb).trans c4); (have own5 := own_keep HOW.out g5); (have bel5 := chain bel g5)) | (at_builtin; refine wpList_app1k itC_len (by decide) w2 rfl (.tmp 26) (.tmp 31) 22 rfl w2.heap.size 53 i0 (.agg #[.string ⟨#[]⟩, .int .i64 0, .int .i64 0, .string ⟨#[]⟩, .int .i64 0]) 56 Tryd.underlying22 hi hz0 hz1 hz2 rfl _ _ rfl own5 _ x _ rfl rfl itC_one (by unfold maxLen; omega) (by omega) (Nat.le_refl _) bel5 ?_; intro v' w1 hown2 hb2 hq2; clear hq2))
        exact ⟨⟨j + 1, acc ++ [x], by omega, by push_cast; rfl, by simp; omega, HX2, hown2, hb2⟩, by simp [intOf]; omega⟩
      | false =>
        rw [hin] at IN0
        have IN := Lib.hid IN0
        have HX2 := Lib.hid (show acc = (L.take (j + 1)).filter (fun x => inK f t x.key) by rw [HX.out, hin]; simp)
        clear IN0 hin HX
        go_wp2_with ((with_reducible refine IN.out.mono ?_); rintro e w5 ⟨rfl, g5⟩)
        exact ⟨⟨j + 1, acc, by omega, by push_cast; rfl, by omega, HX2, own_keep HOW.out g5, chain bel g5⟩, by simp [intOf]; omega⟩
    · obtain rfl : j = L.length := by omega
      have HA2 := Lib.hid (show acc = L.filter (fun x => inK f t x.key) by rw [HA.out, List.take_length])
      clear HA
      go_wp2_with fail
      show Z (.returned _) _
      rw [HZ.out, ← HA2.out]
      exact ⟨_, rfl, own_base hown BEL.out.size, chain BEL.out bel⟩
end Go.Proofs.YtbdfcgffkonbiaaDoor
