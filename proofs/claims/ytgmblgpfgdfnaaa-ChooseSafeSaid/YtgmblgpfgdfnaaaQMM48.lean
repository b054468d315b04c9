/- ChooseSafe: the law's walk. Written by wip/tools/gen31p.py. -/
import Derived.Test.YtgmblgpfgdfnaaaQMM46
import Derived.Test.YtgmblgpfgdfnaaaQMM47
namespace Go.Proofs.Ytgmblgpfgdfnaaa
open Go Go.RowKit
set_option linter.unusedVariables false
set_option linter.unusedSimpArgs false
set_option maxRecDepth 100000

theorem str_tl31 (l : List UInt8) : (str l).toList = l := by unfold str; simp
theorem eq_str31 (a b : List UInt8) : ((str a).toList == (str b).toList) = decide (a = b) := by
  rw [str_tl31, str_tl31]
  by_cases h : a = b
  · subst h; simp
  · simp [h]
def lvB (lv : Int) (i : Nat) : Bool := !decide (bits .and .u16 (lv / 2 ^ (min i 16)) 1 = 0)
theorem some_yes {l : List Cg} {lv : Nat → Bool} {need : Int} {k : Nat} (hk : k < l.length) (h : (!lv k || decide (((someT l lv need k).length : Int) + l.length - k - 1 < need)) = true) : someT l lv need (k + 1) = someT l lv need k ++ [l[k]] := by
  conv => lhs; unfold someT
  rw [List.getElem?_eq_getElem hk]
  simp only
  rw [if_pos h]
theorem some_no {l : List Cg} {lv : Nat → Bool} {need : Int} {k : Nat} (hk : k < l.length) (h : (!lv k || decide (((someT l lv need k).length : Int) + l.length - k - 1 < need)) = false) : someT l lv need (k + 1) = someT l lv need k := by
  conv => lhs; unfold someT
  rw [List.getElem?_eq_getElem hk]
  simp only
  rw [h]
  rfl
theorem at_tot (n : Int) (l : List Cg) (v : Value) (seq : Int) (w : World) (h : RdCg w v l) (hm : MayP n l) (hq : seq ≤ 9223372036854775807) :
    Calls Try.prog 25 #[v, .int .i64 n, .int .i64 seq] w fun e w' => (∃ (a0 a1 g : Int) (t : ByteArray) (b : Bool), e = .returned (.tuple #[.agg #[.int .i64 a0, .int .i64 a1, .string t, .bool b], .int .i64 g]) ∧ ((lowZ l).1 < seq ∧ seq - (lowZ l).1 ≤ 16 → g = 0 ∧ #[Value.int .i64 a0, .int .i64 a1, .string t, .bool b] = choA seq (pickO seq (allC l)))) ∧ Below w.heap.size w w' := by
  by_cases hs : (lowZ l).1 < seq ∧ seq - (lowZ l).1 ≤ 16
  · refine (atP_yes n l v seq w h hm hq hs).mono ?_
    rintro e w' ⟨rfl, g⟩
    obtain ⟨a, t, b, hc⟩ := choA_cells seq (pickO seq (allC l))
    rw [hc]
    exact ⟨⟨seq, a, 0, t, b, rfl, fun _ => ⟨rfl, rfl⟩⟩, g⟩
  · refine (atP_no n l v seq w h hm hq (by omega)).mono ?_
    rintro e w' ⟨rfl, g⟩
    exact ⟨⟨0, 0, 22, str [], false, rfl, fun h => absurd h hs⟩, g⟩
theorem acc_snoc (l : List Ce) (x : Ce) : accL (l ++ [x]) = accS (accL l) x := by unfold accL; rw [List.foldl_append]; rfl
theorem at_up {l : List Cg} {k : Nat} {seq : Int} (h : k < l.length) : atL (l.take (k + 1)) seq = atL (l.take k) seq ++ l[k].cs.filter (fun x => decide (x.sq = seq)) := by
  unfold atL; rw [List.take_succ_eq_append_getElem h, List.flatMap_append]; simp
theorem filt_up {cs : List Ce} {j : Nat} {seq : Int} (h : j < cs.length) : (cs.take (j + 1)).filter (fun x => decide (x.sq = seq)) = (cs.take j).filter (fun x => decide (x.sq = seq)) ++ (if cs[j].sq = seq then [cs[j]] else []) := by
  rw [List.take_succ_eq_append_getElem h, List.filter_append]
  congr 1
  by_cases hq : cs[j].sq = seq
  · rw [if_pos hq]; simp [hq]
  · rw [if_neg hq]; simp [hq]
set_option maxHeartbeats 4000000 in
theorem law31_any (l0 : List Cg) (v0 : Value) (n seq lv : Int) (w : World) (h : RdCg w v0 l0) (hq : -9223372036854775808 ≤ seq ∧ seq ≤ 9223372036854775807) (hlv : 0 ≤ lv ∧ lv < 65536) :
    Calls Try.prog 6 #[.agg #[v0, .int .i64 n, .int .i64 seq, .int .u16 lv]] w fun e w' => e = .returned (.bool true) ∧ Below w.heap.size w w' := by
  obtain ⟨i0, hi, hz0, hz1, hz2⟩ := info_parts change_info
  obtain ⟨ao, cap, rfl, hcl, hcm⟩ := rdcg_val h
  obtain ⟨Z, hZ⟩ : ∃ Z : Ending → World → Prop, Z = fun e w' => e = .returned (.bool true) ∧ Below w.heap.size w w' := ⟨_, rfl⟩
  rw [← hZ]
  have HZ := Lib.hid hZ
  have AW := Lib.hid awake31_any
  obtain ⟨n0, hn0⟩ : ∃ k, k = l0.length := ⟨_, rfl⟩
  rw [← hn0] at h hcl ⊢
  have FW := Lib.hid (fun w' (g : Below w.heap.size w w') => few_any31 l0 _ w' (h.below g (Nat.le_refl _)))
  have HQ := Lib.hid hq
  have HLV := Lib.hid hlv
  have FA0 := fun w' => refFaults_any n w'
  have hfc : 0 ≤ fN n ∧ fN n ≤ 5 := by have := fN_cases n; omega
  obtain ⟨f, hf⟩ : ∃ f, f = fN n := ⟨_, rfl⟩
  rw [← hf] at FA0 hfc
  have FA := Lib.hid FA0
  have HF := Lib.hid hf
  obtain ⟨hf0, hf5⟩ := hfc
  have q0 := heap_alloc_new w (.cells #[.slice ao n0 cap, .int .i64 n, .int .i64 seq, .int .u16 lv] 51)
  have b0 := (Below.refl w.heap.size w).alloc (Nat.le_refl _) (.cells #[.slice ao n0 cap, .int .i64 n, .int .i64 seq, .int .u16 lv] 51)
  obtain ⟨W0, hW0⟩ : ∃ W, W = w.alloc (.cells #[.slice ao n0 cap, .int .i64 n, .int .i64 seq, .int .u16 lv] 51) := ⟨_, rfl⟩
  have HW0 := Lib.hid hW0
  rw [← hW0] at q0 b0
  obtain ⟨c0, c1, c2, c3, cf⟩ := block_cells4 q0
  have Q0 := Lib.hid q0
  clear h hZ hn0 hq hlv FA0 hf hW0 q0
  go_enter Try.func6, Try.ntmps6
  go_wp2_with fail
  rw [← HW0.out]
  refine g_start (by kernel_rfl) ?_
  refine g_take (i := 0) (d := (some 23)) (v := ?_) rfl rfl (by kernel_rfl) (fun _ _ _ h => h) (by rfl) (fun w' hb' => ?_) ?_
  rotate_left
  · (try go_simp); (try with_reducible rfl)
  try simp only [Act.put, List.setIfInBounds_toArray, List.set_cons_zero, List.set_cons_succ]
  refine g_take (i := 1) (d := (some 24)) (v := ?_) rfl rfl (by kernel_rfl) (fun _ _ _ h => h) (by rfl) (fun w' hb' => ?_) ?_
  rotate_left
  · have z := (hb'.cell (p := ⟨w.heap.size, 0, none⟩) (lt_of_block Q0.out)).trans c0; (try go_simp); (try with_reducible rfl)
  try simp only [Act.put, List.setIfInBounds_toArray, List.set_cons_zero, List.set_cons_succ]
  refine g_take (i := 3) (d := (some 26)) (v := ?_) rfl rfl (by kernel_rfl) (fun _ _ _ h => h) (by rfl) (fun w' hb' => ?_) ?_
  rotate_left
  · (try go_simp); (try with_reducible rfl)
  try simp only [Act.put, List.setIfInBounds_toArray, List.set_cons_zero, List.set_cons_succ]
  refine g_take (i := 4) (d := (some 27)) (v := ?_) rfl rfl (by kernel_rfl) (fun _ _ _ h => h) (by rfl) (fun w' hb' => ?_) ?_
  rotate_left
  · have z := (hb'.cell (p := ⟨w.heap.size, 1, none⟩) (lt_of_block Q0.out)).trans c1; (try go_simp); (try with_reducible rfl)
  try simp only [Act.put, List.setIfInBounds_toArray, List.set_cons_zero, List.set_cons_succ]
  refine g_take (i := 5) (d := (some 28)) (v := ?_) rfl rfl (by kernel_rfl) (fun _ _ _ h => h) (by rfl) (fun w' hb' => ?_) ?_
  rotate_left
  · (try go_simp); (try with_reducible rfl)
  try simp only [Act.put, List.setIfInBounds_toArray, List.set_cons_zero, List.set_cons_succ]
  refine g_take (i := 6) (d := (some 29)) (v := ?_) rfl rfl (by kernel_rfl) (fun _ _ _ h => h) (by rfl) (fun w' hb' => ?_) ?_
  rotate_left
  · have z := (hb'.cell (p := ⟨w.heap.size, 2, none⟩) (lt_of_block Q0.out)).trans c2; (try go_simp); (try with_reducible rfl)
  try simp only [Act.put, List.setIfInBounds_toArray, List.set_cons_zero, List.set_cons_succ]
  refine g_take (i := 7) (d := (some 30)) (v := ?_) rfl rfl (by kernel_rfl) (fun _ _ _ h => h) (by rfl) (fun w' hb' => ?_) ?_
  rotate_left
  · (try go_simp); (try with_reducible rfl)
  try simp only [Act.put, List.setIfInBounds_toArray, List.set_cons_zero, List.set_cons_succ]
  refine g_take (i := 8) (d := (some 31)) (v := ?_) rfl rfl (by kernel_rfl) (fun _ _ _ h => h) (by rfl) (fun w' hb' => ?_) ?_
  rotate_left
  · have z := (hb'.cell (p := ⟨w.heap.size, 3, none⟩) (lt_of_block Q0.out)).trans c3; (try go_simp); (try with_reducible rfl)
  try simp only [Act.put, List.setIfInBounds_toArray, List.set_cons_zero, List.set_cons_succ]
  refine g_run (i := 2) rfl (by kernel_rfl) (by rfl) (fun K hK => ?_)
  go_simp; refine (FW.out _ (b0.trans (Below.drew (Below.refl _ _)))).mono ?_; rintro e w2 ⟨v', l, rfl, hrd, hl20, hl66, g⟩; have gg := Below.trans (Below.drew (Below.refl W0.heap.size W0)) g; refine hK _ _ ⟨g, ?_⟩; clear hK K
  try simp only [Act.put, List.setIfInBounds_toArray, List.set_cons_zero, List.set_cons_succ]
  refine g_take (i := 9) (d := (some 3)) (v := ?_) rfl rfl (by kernel_rfl) (fun _ _ _ h => h) (by rfl) (fun w' hb' => ?_) ?_
  rotate_left
  · (try go_simp); (try with_reducible rfl)
  try simp only [Act.put, List.setIfInBounds_toArray, List.set_cons_zero, List.set_cons_succ]
  refine g_take (i := 10) (d := (some 4)) (v := ?_) rfl rfl (by kernel_rfl) (fun _ _ _ h => h) (by rfl) (fun w' hb' => ?_) ?_
  rotate_left
  · (try go_simp); (try with_reducible rfl)
  try simp only [Act.put, List.setIfInBounds_toArray, List.set_cons_zero, List.set_cons_succ]
  refine g_take (i := 11) (d := (some 5)) (v := ?_) rfl rfl (by kernel_rfl) (fun _ _ _ h => h) (by rfl) (fun w' hb' => ?_) ?_
  rotate_left
  · (try go_simp); (try with_reducible rfl)
  try simp only [Act.put, List.setIfInBounds_toArray, List.set_cons_zero, List.set_cons_succ]
  refine g_take (i := 12) (d := (some 6)) (v := ?_) rfl rfl (by kernel_rfl) (fun _ _ _ h => h) (by rfl) (fun w' hb' => ?_) ?_
  rotate_left
  · (try go_simp); (try with_reducible rfl)
  try simp only [Act.put, List.setIfInBounds_toArray, List.set_cons_zero, List.set_cons_succ]
  refine g_done (by kernel_rfl) ?_

  clear c0 c1 c2 c3 cf FW
  have bel : Below w.heap.size w w2 := b0.trans (gg.mono b0.size)
  obtain ⟨lo, lcap, rfl, hlc, hlm⟩ := rdcg_val hrd
  have MY := Lib.hid (fun w' (g : Below w2.heap.size w2 w') => refMay31_any n l _ w' (hrd.below g (Nat.le_refl _)))
  have LOW := Lib.hid (show True from trivial)
  have HRD := Lib.hid hrd
  have H20 := Lib.hid hl20
  have H66 := Lib.hid hl66
  clear gg g b0 hrd hl66
  by_cases hz : f = 0
  · go_wp2_with (first | ((with_reducible refine (FA.out _).mono ?_); rintro e w3 ⟨rfl, rfl⟩) | ((with_reducible refine (AW.out _).mono ?_); rintro e w4 ⟨rfl, g4⟩))
    show Z (.returned (.bool true)) _
    rw [HZ.out]
    exact ⟨rfl, chain bel g4⟩
  have z1 : (f == 0) = false := by simpa using hz
  go_wp2_with (first | ((with_reducible refine (FA.out _).mono ?_); rintro e w3 ⟨rfl, rfl⟩))
  refine (MY.out _ (Below.refl _ _)).mono ?_
  rintro e w3 ⟨b, rfl, hb, g3⟩
  have bel := chain bel g3
  cases b with
  | false =>
    clear hb
    go_wp2_with (first | ((with_reducible refine (AW.out _).mono ?_); rintro e w4 ⟨rfl, g4⟩))
    show Z (.returned (.bool true)) _
    rw [HZ.out]
    exact ⟨rfl, chain bel g4⟩
  | true =>
    have MP := Lib.hid (hb rfl)
    have HR3 := Lib.hid (HRD.out.below g3 (Nat.le_refl _))
    clear hb MY HRD g3
    go_wp2_with fail
    clear HW0 Q0
    go_loopw [8, 9, 10, 11, 12, 13] (fun vw tm bd mn on i wr => ∃ (k : Nat) (A : Acc), k ≤ l.length ∧ i = .int .i64 (k : Int) ∧ vw = .int .i64 A.view ∧ tm = .int .i64 A.term ∧ bd = .string (str A.body) ∧ mn = .int .i64 (A.many : Int) ∧ on = .bool A.one ∧ Hid (A = accL (atL (l.take k) seq)) ∧ Hid (A.many ≤ 66 * k) ∧ Below w3.heap.size w3 wr) (fun _ _ _ _ _ i _ => l.length - (intOf i).toNat)
    case atStart => exact ⟨0, acc0, Nat.zero_le _, rfl, rfl, rfl, rfl, rfl, rfl, Lib.hid rfl, Lib.hid (Nat.le_refl _), Below.refl _ _⟩
    case round =>
      obtain ⟨k, ⟨view, term, body, many, one⟩, hk, rfl, rfl, rfl, rfl, rfl, rfl, hA, hmb, bl⟩ := hrel
      by_cases hlt : k < l.length
      · obtain ⟨pb, po, rfl, hpb, C0, C1, C2, C3, C4, C5⟩ := rdcg_cells HR3.out k hlt
        have c5 := (bl.cell (p := ⟨pb, po + k * 6 + 5, none⟩) hpb).trans C5
        have hrc := (HR3.out.2 l[k] (List.getElem_mem hlt)).2
        have h66k := H66.out l[k] (List.getElem_mem hlt)
        have hup := at_up (seq := seq) hlt
        obtain ⟨x, hx⟩ : ∃ x, x = l[k] := ⟨_, rfl⟩
        rw [← hx] at C5 c5 hrc h66k hup
        obtain ⟨fr, vw, st, rt, pr, ⟨ca, cn, ck⟩, cs⟩ := x
        simp only at C5 c5 hrc h66k hup
        obtain ⟨hcn, hck, hck2⟩ := rdcs_len hrc
        subst hcn
        have HRC := Lib.hid hrc
        have HUP := Lib.hid hup
        have C5H := Lib.hid C5
        clear hx C0 C1 C2 C3 C4 C5 hrc hup
        obtain ⟨D, hD⟩ : ∃ D, D = str body := ⟨_, rfl⟩
        rw [← hD]
        have HDB := Lib.hid hD
        clear hD c5
        go_wp2_with fail
        go_loopw [8, 9, 10, 11, 12, 14] (fun vw tm bd mn on i wr => ∃ (j : Nat) (A : Acc), j ≤ cs.length ∧ i = .int .i64 (j : Int) ∧ vw = .int .i64 A.view ∧ tm = .int .i64 A.term ∧ bd = .string (str A.body) ∧ mn = .int .i64 (A.many : Int) ∧ on = .bool A.one ∧ Hid (A = accL (atL (l.take k) seq ++ (cs.take j).filter (fun x => decide (x.sq = seq)))) ∧ Hid (A.many ≤ 66 * k + j) ∧ Below w3.heap.size w3 wr) (fun _ _ _ _ _ i _ => cs.length - (intOf i).toNat)
        case atStart => exact ⟨0, ⟨view, term, body, many, one⟩, Nat.zero_le _, rfl, rfl, rfl, by rw [HDB.out], rfl, rfl, Lib.hid (by rw [hA.out]; simp), hmb, bl⟩
        case round =>
          clear hA hmb bl HDB
          obtain ⟨j, ⟨view, term, body, many, one⟩, hj, rfl, rfl, rfl, rfl, rfl, rfl, hA, hmb, bl⟩ := hrel
          have c5 := (bl.cell (p := ⟨pb, po + k * 6 + 5, none⟩) hpb).trans C5H.out
          by_cases hlj : j < cs.length
          · obtain ⟨qb, qo, rfl, hqb, C0, C1, C2, C3, C4⟩ := rdce_cells HRC.out j hlj
            have c0 := (bl.cell (p := ⟨qb, qo + j * 5, none⟩) hqb).trans C0
            have c1 := (bl.cell (p := ⟨qb, qo + j * 5 + 1, none⟩) hqb).trans C1
            have c2 := (bl.cell (p := ⟨qb, qo + j * 5 + 2, none⟩) hqb).trans C2
            have c3 := (bl.cell (p := ⟨qb, qo + j * 5 + 3, none⟩) hqb).trans C3
            have c4 := (bl.cell (p := ⟨qb, qo + j * 5 + 4, none⟩) hqb).trans C4
            have hfu := filt_up (seq := seq) hlj
            obtain ⟨y, hy⟩ : ∃ y, y = cs[j] := ⟨_, rfl⟩
            rw [← hy] at c0 c1 c2 c3 c4 hfu
            obtain ⟨a, b, c, d, ⟨va, vn, vk⟩⟩ := y
            simp only at c0 c1 c2 c3 c4 hfu
            have HFU := Lib.hid hfu
            obtain ⟨E, hE⟩ : ∃ E, E = str d := ⟨_, rfl⟩
            obtain ⟨D, hD⟩ : ∃ D, D = str body := ⟨_, rfl⟩
            have hed : (E.toList == D.toList) = decide (d = body) := by rw [hE, hD, eq_str31]
            have HED := Lib.hid hed
            rw [← hE] at c3
            rw [← hD]
            have HE := Lib.hid hE
            have HDB := Lib.hid hD
            have x1 := heap_alloc_new wr (.cells #[.int .i64 a, .int .i64 b, .int .i64 c, .string E, .slice va vn vk] 58)
            have B2 := chain bl ((Below.refl wr.heap.size wr).alloc (Nat.le_refl _) (.cells #[.int .i64 a, .int .i64 b, .int .i64 c, .string E, .slice va vn vk] 58))
            obtain ⟨e0, e1, e2, e3, e4, ef⟩ := block_cells5 x1
            have hmb2 := hmb.out
            simp only at hmb2
            clear hy C0 C1 C2 C3 C4 hfu hE hD hed x1
            by_cases hsq : a = seq
            · have hs2 : seq = a := hsq.symm
              have HSQ := Lib.hid hsq
              have hq1 : (a == seq) = true := by simpa using hsq
              have hq2 : (a != seq) = false := by simpa using hsq
              clear hsq hs2
              by_cases hv : view < b
              · have v1 : decide (view < b) = true := decide_eq_true hv
                have hA2 : (⟨b, c, d, 1, true⟩ : Acc) = accL (atL (l.take k) seq ++ (cs.take (j + 1)).filter (fun x => decide (x.sq = seq))) := by
                  rw [HFU.out, if_pos HSQ.out, ← List.append_assoc, acc_snoc, ← hA.out]
                  unfold accS
                  simp [hv]
                have HA2 := Lib.hid hA2
                clear hA2 hmb2
                go_wp2_with fail
                go_quiet (fail)
                have B3 := below_drewN (k := nq) B2
                go_wp2_with fail
                exact ⟨⟨j + 1, ⟨b, c, d, 1, true⟩, by omega, by push_cast; rfl, rfl, rfl, by rw [HE.out], rfl, rfl, HA2, Lib.hid (show 1 ≤ 66 * k + (j + 1) by omega), B3⟩, by simp [intOf]; omega⟩
              · have v1 : decide (view < b) = false := decide_eq_false hv
                by_cases hvb : b = view
                · have v2 : (b == view) = true := by simpa using hvb
                  have HVB := Lib.hid hvb
                  have hup : ∀ o, o = (one && (decide (c = term) && decide (d = body))) → (⟨view, term, body, many + 1, o⟩ : Acc) = accL (atL (l.take k) seq ++ (cs.take (j + 1)).filter (fun x => decide (x.sq = seq))) := fun o ho => by
                    rw [HFU.out, if_pos HSQ.out, ← List.append_assoc, acc_snoc, ← hA.out, ho]
                    unfold accS
                    simp only
                    rw [if_neg hv]
                    simp [HVB.out]
                  have HUPA := Lib.hid hup
                  have hmm : (many : Int) ≤ 100000 := by have := H20.out; omega
                  clear hup hvb hmb2
                  cases one with
                  | false =>
                    have HA2 := Lib.hid (HUPA.out false (by simp))
                    go_wp2_with fail
                    exact ⟨⟨j + 1, ⟨view, term, body, many + 1, false⟩, by omega, by push_cast; rfl, rfl, rfl, by rw [HDB.out], by push_cast; rfl, rfl, HA2, Lib.hid (by have := hmb.out; simp only at this ⊢; omega), B2⟩, by simp [intOf]; omega⟩
                  | true =>
                    by_cases hct : c = term
                    · have t1 : (c == term) = true := by simpa using hct
                      by_cases hdb : d = body
                      · have t2 : (E.toList == D.toList) = true := by rw [HED.out]; simpa using hdb
                        have HA2 := Lib.hid (HUPA.out true (by simp [hct, hdb]))
                        clear hdb hct
                        go_wp2_with fail
                        exact ⟨⟨j + 1, ⟨view, term, body, many + 1, true⟩, by omega, by push_cast; rfl, rfl, rfl, by rw [HDB.out], by push_cast; rfl, rfl, HA2, Lib.hid (by have := hmb.out; simp only at this ⊢; omega), B2⟩, by simp [intOf]; omega⟩
                      · have t2 : (E.toList == D.toList) = false := by rw [HED.out]; simpa using hdb
                        have HA2 := Lib.hid (HUPA.out false (by simp [hdb]))
                        clear hdb hct
                        go_wp2_with fail
                        exact ⟨⟨j + 1, ⟨view, term, body, many + 1, false⟩, by omega, by push_cast; rfl, rfl, rfl, by rw [HDB.out], by push_cast; rfl, rfl, HA2, Lib.hid (by have := hmb.out; simp only at this ⊢; omega), B2⟩, by simp [intOf]; omega⟩
                    · have t1 : (c == term) = false := by simpa using hct
                      have HA2 := Lib.hid (HUPA.out false (by simp [hct]))
                      clear hct
                      go_wp2_with fail
                      exact ⟨⟨j + 1, ⟨view, term, body, many + 1, false⟩, by omega, by push_cast; rfl, rfl, rfl, by rw [HDB.out], by push_cast; rfl, rfl, HA2, Lib.hid (by have := hmb.out; simp only at this ⊢; omega), B2⟩, by simp [intOf]; omega⟩
                · have v2 : (b == view) = false := by simpa using hvb
                  have hA2 : (⟨view, term, body, many, one⟩ : Acc) = accL (atL (l.take k) seq ++ (cs.take (j + 1)).filter (fun x => decide (x.sq = seq))) := by
                    rw [HFU.out, if_pos HSQ.out, ← List.append_assoc, acc_snoc, ← hA.out]
                    unfold accS
                    simp only
                    rw [if_neg hv, if_neg hvb]
                  have HA2 := Lib.hid hA2
                  clear hA2
                  go_wp2_with fail
                  exact ⟨⟨j + 1, ⟨view, term, body, many, one⟩, by omega, by push_cast; rfl, rfl, rfl, by rw [HDB.out], rfl, rfl, HA2, Lib.hid (show many ≤ 66 * k + (j + 1) by omega), B2⟩, by simp [intOf]; omega⟩
            · have hq1 : (a == seq) = false := by simpa using hsq
              have hq2 : (a != seq) = true := by simpa using hsq
              have hA2 : (⟨view, term, body, many, one⟩ : Acc) = accL (atL (l.take k) seq ++ (cs.take (j + 1)).filter (fun x => decide (x.sq = seq))) := by
                rw [HFU.out, if_neg hsq, List.append_nil, hA.out]
              have HA2 := Lib.hid hA2
              clear hA2
              go_wp2_with fail
              exact ⟨⟨j + 1, ⟨view, term, body, many, one⟩, by omega, by push_cast; rfl, rfl, rfl, by rw [HDB.out], rfl, rfl, HA2, Lib.hid (show many ≤ 66 * k + (j + 1) by omega), B2⟩, by simp [intOf]; omega⟩
          · obtain rfl : j = cs.length := by omega
            have hA2 : (⟨view, term, body, many, one⟩ : Acc) = accL (atL (l.take (k + 1)) seq) := by
              rw [HUP.out, hA.out, List.take_length]
            have HA2 := Lib.hid hA2
            obtain ⟨D, hD⟩ : ∃ D, D = str body := ⟨_, rfl⟩
            rw [← hD]
            have HDB := Lib.hid hD
            clear hA2 hD
            go_wp2_with fail
            exact ⟨⟨k + 1, ⟨view, term, body, many, one⟩, by omega, by push_cast; rfl, rfl, rfl, by rw [HDB.out], rfl, rfl, HA2, Lib.hid (by have := hmb.out; simp only at this ⊢; omega), bl⟩, by simp [intOf]; omega⟩
      · obtain rfl : k = l.length := by omega
        have hA2 := hA.out
        rw [List.take_length] at hA2
        have HA := Lib.hid hA2
        obtain ⟨D, hD⟩ : ∃ D, D = str body := ⟨_, rfl⟩
        rw [← hD]
        have HDB := Lib.hid hD
        have HMB := Lib.hid hmb.out
        clear hA hA2 hD hmb hk
        go_wp2_with fail
        go_loopw [16, 17] (fun sm i wr => ∃ k : Nat, k ≤ l.length ∧ i = .int .i64 (k : Int) ∧ wr.ownsRow w3.heap.size 56 6 sm (someT l (lvB lv) (2 * f + 1) k).length ((someT l (lvB lv) (2 * f + 1) k).flatMap cgC) ∧ Below w3.heap.size w3 wr) (fun _ i _ => l.length - (intOf i).toNat)
        case atStart => exact ⟨0, Nat.zero_le _, rfl, World.ownsRow_nil _ _ _ _, bl⟩
        case round =>
          obtain ⟨k, hk, rfl, hown, bl⟩ := hrel
          by_cases hlt : k < l.length
          · obtain ⟨sn, hsn⟩ : ∃ z, z = (someT l (lvB lv) (2 * f + 1) k).length := ⟨_, rfl⟩
            rw [← hsn] at hown
            obtain ⟨va, vc, rfl⟩ := own_val hown
            have HSN := Lib.hid hsn
            have HOW := Lib.hid hown
            have hsk : sn ≤ 20 := by
              have h1 := (some_sub l (lvB lv) (2 * f + 1) k).length_le
              rw [List.length_take] at h1
              omega
            clear hsn hown
            obtain ⟨pb, po, rfl, hpb, C0, C1, C2, C3, C4, C5⟩ := rdcg_cells HR3.out k hlt
            have c0 := (bl.cell (p := ⟨pb, po + k * 6, none⟩) hpb).trans C0
            have c1 := (bl.cell (p := ⟨pb, po + k * 6 + 1, none⟩) hpb).trans C1
            have c2 := (bl.cell (p := ⟨pb, po + k * 6 + 2, none⟩) hpb).trans C2
            have c3 := (bl.cell (p := ⟨pb, po + k * 6 + 3, none⟩) hpb).trans C3
            have c4 := (bl.cell (p := ⟨pb, po + k * 6 + 4, none⟩) hpb).trans C4
            have c5 := (bl.cell (p := ⟨pb, po + k * 6 + 5, none⟩) hpb).trans C5
            have SY := some_yes (lv := lvB lv) (need := 2 * f + 1) hlt
            have SNO := some_no (lv := lvB lv) (need := 2 * f + 1) hlt
            rw [← HSN.out] at SY SNO
            obtain ⟨x, hx⟩ : ∃ x, x = l[k] := ⟨_, rfl⟩
            rw [← hx] at c0 c1 c2 c3 c4 c5 SY
            obtain ⟨fr, vw, st, rt, ⟨pa, pn, pk⟩, ⟨ca, cn, ck⟩, cs⟩ := x
            simp only at c0 c1 c2 c3 c4 c5
            have hlv2 : lvB lv k = !decide (bits .and .u16 (lv / 2 ^ (min k 16)) 1 = 0) := rfl
            rw [hlv2] at SY SNO
            clear hlv2
            obtain ⟨bt, hbt⟩ : ∃ z, z = bits .and .u16 (lv / 2 ^ (min k 16)) 1 := ⟨_, rfl⟩
            rw [← hbt] at SY SNO
            have HBT := Lib.hid hbt.symm
            clear hx C0 C1 C2 C3 C4 C5
            by_cases hb0 : bt = 0
            · have HUP := Lib.hid (SY (by simp [hb0]))
              have y1 : bits .and .u16 (lv / 2 ^ (min k 16)) 1 = 0 := by rw [HBT.out, hb0]
              clear SY SNO hbt hb0
              go_wp2_with (at_builtin; refine wpList_app1kg cgC_len (by decide) w3 rfl (.tmp 126) (.tmp 131) 48 rfl w3.heap.size 56 i0 (.agg #[.int .i64 0, .int .i64 0, .int .i64 0, .int .i64 0, .slice none 0 0, .slice none 0 0]) 80 Try.underlying48 hi hz0 hz1 hz2 rfl _ (someT l (lvB lv) (2 * f + 1) k) rfl (by rw [← HSN.out]; exact HOW.out) _ ⟨fr, vw, st, rt, ⟨pa, pn, pk⟩, ⟨ca, cn, ck⟩, cs⟩ _ rfl rfl cgC_one (by rw [← HSN.out]; unfold maxLen; omega) (by rw [← HSN.out]; omega) (Nat.le_refl _) bl ?_; intro v2 w5 own2 bel5 hgr5)
              exact ⟨⟨k + 1, by omega, by push_cast; rfl, by rw [HUP.out]; exact own2, bel5⟩, by simp [intOf]; omega⟩
            · have y1 : (bits .and .u16 (lv / 2 ^ (min k 16)) 1 == 0) = false := by rw [HBT.out]; simpa using hb0
              by_cases hlow : (sn : Int) + l.length - k - 1 < 2 * f + 1
              · have HUP := Lib.hid (SY (by simp [hb0, hlow]))
                have y2 : decide ((sn : Int) + l.length - k - 1 < 2 * f + 1) = true := decide_eq_true hlow
                clear SY SNO hbt hb0
                go_wp2_with (at_builtin; refine wpList_app1kg cgC_len (by decide) w3 rfl (.tmp 126) (.tmp 131) 48 rfl w3.heap.size 56 i0 (.agg #[.int .i64 0, .int .i64 0, .int .i64 0, .int .i64 0, .slice none 0 0, .slice none 0 0]) 80 Try.underlying48 hi hz0 hz1 hz2 rfl _ (someT l (lvB lv) (2 * f + 1) k) rfl (by rw [← HSN.out]; exact HOW.out) _ ⟨fr, vw, st, rt, ⟨pa, pn, pk⟩, ⟨ca, cn, ck⟩, cs⟩ _ rfl rfl cgC_one (by rw [← HSN.out]; unfold maxLen; omega) (by rw [← HSN.out]; omega) (Nat.le_refl _) bl ?_; intro v2 w5 own2 bel5 hgr5)
                exact ⟨⟨k + 1, by omega, by push_cast; rfl, by rw [HUP.out]; exact own2, bel5⟩, by simp [intOf]; omega⟩
              · have HUP := Lib.hid (SNO (by simp [hb0, hlow]))
                have y2 : decide ((sn : Int) + l.length - k - 1 < 2 * f + 1) = false := decide_eq_false hlow
                clear SY SNO hbt hb0
                go_wp2_with fail
                exact ⟨⟨k + 1, by omega, by push_cast; rfl, by rw [HUP.out, ← HSN.out]; exact HOW.out, bl⟩, by simp [intOf]; omega⟩
          · obtain rfl : k = l.length := by omega
            have hsub0 := some_sub l (lvB lv) (2 * f + 1) l.length
            rw [List.take_length] at hsub0
            have hln := some_len l (lvB lv) (2 * f + 1) (by rw [HF.out]; exact MP.out.len) l.length (Nat.le_refl _)
            obtain ⟨s, hs⟩ : ∃ s, s = someT l (lvB lv) (2 * f + 1) l.length := ⟨_, rfl⟩
            rw [← hs] at hsub0 hln hown
            obtain ⟨va, vc, rfl⟩ := own_val hown
            have hmps : MayP n s := MP.out.sub hsub0 (by rw [← HF.out]; omega)
            have hrs : RdCg wr (.slice va s.length vc) s := ⟨own_rdk cgC_len hown, fun c hc => ⟨(HR3.out.2 c (hsub0.subset hc)).1, ((HR3.out.2 c (hsub0.subset hc)).2).below bl (Nat.le_refl _)⟩⟩
            have hsl := hsub0.length_le
            have LO0 := fun w' (g : Below wr.heap.size wr w') => low_yes n s _ w' (hrs.below g (Nat.le_refl _)) hmps
            have AT0 := fun w' (g : Below wr.heap.size wr w') => at_tot n s _ seq w' (hrs.below g (Nat.le_refl _)) hmps HQ.out.2
            have AY0 := fun hsq w' (g : Below wr.heap.size wr w') => atP_yes n s _ seq w' (hrs.below g (Nat.le_refl _)) hmps HQ.out.2 hsq
            have hlow := lowZ_in hmps
            obtain ⟨R, hR⟩ : ∃ R, R = lowZ s := ⟨_, rfl⟩
            rw [← hR] at LO0 AT0 AY0 hlow
            obtain ⟨ra, rb⟩ := R
            simp only at LO0 AT0 AY0 hlow
            obtain ⟨hl1, hl2⟩ := hlow
            have CS := Lib.hid (fun (hv : 0 ≤ view) (hmn : l.length < many + s.length) (ho : one = true) => (show choA seq (pickO seq (allC s)) = #[.int .i64 seq, .int .i64 term, .string D, .bool false] by
              have hA := HA.out
              have e1 : (accL (atL l seq)).view = view := by rw [← hA]
              have e2 : (accL (atL l seq)).many = many := by rw [← hA]
              have e3 : (accL (atL l seq)).one = one := by rw [← hA]
              have e4 : (accL (atL l seq)).term = term := by rw [← hA]
              have e5 : (accL (atL l seq)).body = body := by rw [← hA]
              obtain ⟨b, eb, h1, h2⟩ := choose_safe (seq := seq) hsub0 (fun c hc => (cgB_parts (MP.out.ok c hc)).2.2.2.2.1) (by rw [e1]; exact hv) (by rw [e2]; exact hmn) (by rw [e3]; exact ho)
              rw [at_all] at eb
              have ep : pickO seq (allC s) = some b := eb
              rw [ep]
              unfold choA
              simp only
              rw [h1, h2, e4, e5, HDB.out]))
            obtain ⟨sl, hsl2⟩ : ∃ z, z = s.length := ⟨_, rfl⟩
            rw [← hsl2] at LO0 AT0 AY0 CS hsl ⊢
            have LO := Lib.hid LO0
            have AT := Lib.hid AT0
            have AY := Lib.hid AY0
            have HQ2 := HQ.out.2
            have HQ1 := HQ.out.1
            have B9 := chain bel bl
            have hmany : (many : Int) ≤ 100000 := by have := HMB.out; omega
            clear LO0 AT0 AY0 hR hs hown hmps hrs hln hsub0 hsl2 bl HR3
            by_cases c1 : view < 0
            · have y1 : decide (view < 0) = true := decide_eq_true c1
              go_wp2_with (first | ((with_reducible refine (LO.out _ (Below.refl _ _)).mono ?_); rintro e w5 ⟨rfl, g5⟩) | ((with_reducible refine (AT.out _ g5).mono ?_); rintro e w6 ⟨⟨a0, a1, gg, t, bb, rfl, -⟩, g6⟩; (have B10 := (chain (chain B9 g5) g6).alloc (chain (chain B9 g5) g6).size (.cells #[.int .i64 a0, .int .i64 a1, .string t, .bool bb] 63))) | ((with_reducible refine (AW.out _).mono ?_); rintro e w7 ⟨rfl, g7⟩))
              show Z (.returned (.bool true)) _
              rw [HZ.out]
              exact ⟨rfl, chain B10 g7⟩
            have y1 : decide (view < 0) = false := decide_eq_false c1
            by_cases c2 : (many : Int) ≤ (l.length : Int) - (sl : Int)
            · have y2 : decide ((many : Int) ≤ (l.length : Int) - (sl : Int)) = true := decide_eq_true c2
              go_wp2_with (first | ((with_reducible refine (LO.out _ (Below.refl _ _)).mono ?_); rintro e w5 ⟨rfl, g5⟩) | ((with_reducible refine (AT.out _ g5).mono ?_); rintro e w6 ⟨⟨a0, a1, gg, t, bb, rfl, -⟩, g6⟩; (have B10 := (chain (chain B9 g5) g6).alloc (chain (chain B9 g5) g6).size (.cells #[.int .i64 a0, .int .i64 a1, .string t, .bool bb] 63))) | ((with_reducible refine (AW.out _).mono ?_); rintro e w7 ⟨rfl, g7⟩))
              show Z (.returned (.bool true)) _
              rw [HZ.out]
              exact ⟨rfl, chain B10 g7⟩
            have y2 : decide ((many : Int) ≤ (l.length : Int) - (sl : Int)) = false := decide_eq_false c2
            cases one with
            | false =>
              go_wp2_with (first | ((with_reducible refine (LO.out _ (Below.refl _ _)).mono ?_); rintro e w5 ⟨rfl, g5⟩) | ((with_reducible refine (AT.out _ g5).mono ?_); rintro e w6 ⟨⟨a0, a1, gg, t, bb, rfl, -⟩, g6⟩; (have B10 := (chain (chain B9 g5) g6).alloc (chain (chain B9 g5) g6).size (.cells #[.int .i64 a0, .int .i64 a1, .string t, .bool bb] 63))) | ((with_reducible refine (AW.out _).mono ?_); rintro e w7 ⟨rfl, g7⟩))
              show Z (.returned (.bool true)) _
              rw [HZ.out]
              exact ⟨rfl, chain B10 g7⟩
            | true =>
              by_cases c4 : seq ≤ ra
              · have y4 : decide (seq ≤ ra) = true := decide_eq_true c4
                go_wp2_with (first | ((with_reducible refine (LO.out _ (Below.refl _ _)).mono ?_); rintro e w5 ⟨rfl, g5⟩) | ((with_reducible refine (AT.out _ g5).mono ?_); rintro e w6 ⟨⟨a0, a1, gg, t, bb, rfl, -⟩, g6⟩; (have B10 := (chain (chain B9 g5) g6).alloc (chain (chain B9 g5) g6).size (.cells #[.int .i64 a0, .int .i64 a1, .string t, .bool bb] 63))) | ((with_reducible refine (AW.out _).mono ?_); rintro e w7 ⟨rfl, g7⟩))
                show Z (.returned (.bool true)) _
                rw [HZ.out]
                exact ⟨rfl, chain B10 g7⟩
              have y4 : decide (seq ≤ ra) = false := decide_eq_false c4
              by_cases c5 : ra + 16 < seq
              · have y5 : decide (ra + 16 < seq) = true := decide_eq_true c5
                go_wp2_with (first | ((with_reducible refine (LO.out _ (Below.refl _ _)).mono ?_); rintro e w5 ⟨rfl, g5⟩) | ((with_reducible refine (AT.out _ g5).mono ?_); rintro e w6 ⟨⟨a0, a1, gg, t, bb, rfl, -⟩, g6⟩; (have B10 := (chain (chain B9 g5) g6).alloc (chain (chain B9 g5) g6).size (.cells #[.int .i64 a0, .int .i64 a1, .string t, .bool bb] 63))) | ((with_reducible refine (AW.out _).mono ?_); rintro e w7 ⟨rfl, g7⟩))
                show Z (.returned (.bool true)) _
                rw [HZ.out]
                exact ⟨rfl, chain B10 g7⟩
              have y5 : decide (ra + 16 < seq) = false := decide_eq_false c5
              have AZ0 := fun w' g => AY.out ⟨by omega, by omega⟩ w' g
              rw [CS.out (by omega) (by omega) rfl] at AZ0
              have AZ := Lib.hid AZ0
              clear AZ0 AT AY
              go_wp2_with (first | ((with_reducible refine (LO.out _ (Below.refl _ _)).mono ?_); rintro e w5 ⟨rfl, g5⟩) | ((with_reducible refine (AZ.out _ g5).mono ?_); rintro e w6 ⟨rfl, g6⟩; (have B10 := (chain (chain B9 g5) g6).alloc (chain (chain B9 g5) g6).size (.cells #[.int .i64 seq, .int .i64 term, .string D, .bool false] 63)); (obtain ⟨m0, m1, m2, m3, mf⟩ := block_cells4 (heap_alloc_new w6 (.cells #[.int .i64 seq, .int .i64 term, .string D, .bool false] 63)))) | ((with_reducible refine (AW.out _).mono ?_); rintro e w7 ⟨rfl, g7⟩))
              show Z (.returned (.bool true)) _
              rw [HZ.out]
              exact ⟨rfl, chain B10 g7⟩
end Go.Proofs.Ytgmblgpfgdfnaaa
