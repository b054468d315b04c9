/- Span: items; the contract of its iterator. Written by wip/tools/gen11i.py. -/
import Derived.Test.YtbdfcgffkonbiaaDoorQST29
namespace Go.Proofs.YtbdfcgffkonbiaaDoor
open Go Go.RowKit
set_option linter.unusedVariables false
set_option linter.unusedSimpArgs false
set_option maxRecDepth 100000
attribute [local go_sem] Oper.semAt_some
theorem items_any (cs : Array Value) (hs : cs.size = 32) (f t : List UInt8) (w : World) :
    Calls Tryd.prog 100 #[.agg cs, .string (str f), .string (str t)] w fun e w' => e = .returned (.func (.func 121) #[] #[.pointer (some ⟨w.heap.size, 0, none⟩), .pointer (some ⟨w.heap.size + 1, 0, none⟩), .pointer (some ⟨w.heap.size + 1 + 1, 0, none⟩)]) ∧ w' = ((w.alloc (.cells cs 26)).alloc (.cells #[.string (str f)] 9)).alloc (.cells #[.string (str t)] 9) := by
  go_enter Tryd.func100, Tryd.ntmps100
  go_wp2_with fail
  go_ret
  exact ⟨rfl, rfl⟩
set_option maxHeartbeats 1000000 in
theorem items_gives (n : Nat) (hn : 1 ≤ n) (Bt Bf Bo : Nat) (cs : Array Value) (lv : Nat → List It) (vs : Nat → Int) (f t : List UInt8) (w0 w : World) (h : RdT w0 cs lv vs) (hm : mayTs lv vs 16 = true) (hb0 : Below w0.heap.size w0 w)
    (q1 : w.heap[Bt]? = some (.cells cs 26 (0, 0))) (q2 : w.heap[Bf]? = some (.cells #[.string (str f)] 9 (0, 0))) (q3 : w.heap[Bo]? = some (.cells #[.string (str t)] 9 (0, 0))) :
    Gives Fence.wide n Tryd.prog 121 #[.pointer (some ⟨Bt, 0, none⟩), .pointer (some ⟨Bf, 0, none⟩), .pointer (some ⟨Bo, 0, none⟩)] (fun x : It × Nat => #[.int .i64 (x.2 : Int), .agg #[.string (str x.1.key), .int .i64 x.1.v.k, .int .i64 x.1.v.i, .string (str x.1.v.s), .int .i64 x.1.ver]]) (Tw11 w0.heap.size) (Kp11 w0.heap.size) (fun xs => xs = ixs (rngL lv f t)) (fun pre => ∃ k, pre = ixs ((rngL lv f t).take (k + 1)) ∧ k < (rngL lv f t).length) 2000 w := by
  intro l J Jx W hW hJT hJxT hY h0
  have hs32 := h.size
  have hb0 := chain hb0 hW
  have q1 := (hW.block _ (lt_of_block q1)).trans q1
  have q2 := (hW.block _ (lt_of_block q2)).trans q2
  have q3 := (hW.block _ (lt_of_block q3)).trans q3
  have HT := Lib.hid h
  have HM := Lib.hid hm
  have x1 := heap_alloc_new W (.cells zN 24)
  have bx := (Below.refl W.heap.size W).alloc (Nat.le_refl _) (.cells zN 24)
  have hJ0 := hJT _ _ _ h0 (Tw11.of_below bx)
  obtain ⟨N, hN⟩ : ∃ N, N = W.heap.size := ⟨_, rfl⟩
  have hB1 : Bt ≠ N := by have := lt_of_block q1; omega
  have hB2 : Bf ≠ N := by have := lt_of_block q2; omega
  have hB3 : Bo ≠ N := by have := lt_of_block q3; omega
  have hMN : w0.heap.size ≤ N := by rw [hN]; exact hb0.size
  have q1 := (bx.block _ (lt_of_block q1)).trans q1
  have q2 := (bx.block _ (lt_of_block q2)).trans q2
  have q3 := (bx.block _ (lt_of_block q3)).trans q3
  rw [← hN] at x1
  have its0 : Its w0 Bt Bo N cs t zN (W.alloc (.cells zN 24)) := ⟨Nat.le_trans hb0.size bx.size, fun g hg => (bx.block _ (by omega)).trans (hb0.block g hg), q1, q3, x1⟩
  have hrg := arr16_range q1
  have hs16 := info16 hs32
  have hsT := infoTc hs32
  obtain ⟨L, hL⟩ : ∃ L, L = fromL lv f := ⟨_, rfl⟩
  have LS := Lib.hid (show SrtI L by rw [hL]; exact from_sorted hm f)
  have LB := Lib.hid (show ∀ x ∈ L, bkI x < 16 by rw [hL]; exact fun x hx => (from_bk hm f hx).1)
  have hLn : L.length ≤ 1024 := by rw [hL]; exact from_len hm f
  obtain ⟨RL, hRL⟩ : ∃ RL, RL = rngL lv f t := ⟨_, rfl⟩
  have RW := Lib.hid (show RL = L.takeWhile (endK t) by rw [hRL, hL]; exact rng_while hm f t)
  have IV0 := Lib.hid (show Inv bkI lv (fun b => posL (lv b) f) L by rw [hL]; exact inv_start hm f)
  have H64 := Lib.hid (show ∀ b, b < 16 → (lv b).length ≤ 64 from fun b hb => isL_len (isT hm hb))
  have HSO := Lib.hid (show ∀ b, b < 16 → SrtI (lv b) from fun b hb => isL_sorted (isT hm hb))
  rw [← hRL]
  have hYH := Lib.hid hY
  refine callsIn_of_wp Tryd.func121 rfl trivial ?_ rfl
  simp only [Tryd.ntmps121, List.size_toArray, List.length_cons, List.length_nil, Nat.reduceAdd, Nat.reduceSub, Array.replicate_succ, Array.replicate_zero, List.push_toArray, List.append_toArray, List.nil_append, List.cons_append]
  clear hW h hm hb0 h0 q3 x1 bx hL hRL hY
  gi_wp2_with ((with_reducible refine wpListIn_load_mid (op := ⟨some 12, _, _, _, _, _⟩) rfl 23 (.tmp 11) rfl _ 0 rfl (arr16 cs) _ hrg Tryd.underlying23 rfl hs16 ?_))
  obtain ⟨W1, hW1⟩ : ∃ V, V = W.alloc (.cells zN 24) := ⟨_, rfl⟩
  rw [← hW1] at q1 q2 its0 hJ0 ⊢
  rw [← hN]
  obtain ⟨A, hA⟩ : ∃ A, A = (arr16 cs).toArray := ⟨_, rfl⟩
  rw [← hA]
  have HA := Lib.hid hA
  clear hA hrg hs16 hW1 hN q1
  gi_loopw [13] (fun i wr => ∃ (k : Nat) (ns : Array Value), k ≤ 16 ∧ i = .int .i64 (k : Int) ∧ Hid (Its w0 Bt Bo N cs t ns wr) ∧ Hid (RdN ns (fun b => if b < k then posL (lv b) f else 0)) ∧ Hid (wr.heap[Bf]? = some (.cells #[.string (str f)] 9 (0, 0))) ∧ J [] wr) (fun i _ => 20 - (intOf i).toNat)
  case atStart => exact ⟨0, zN, by omega, rfl, Lib.hid its0, Lib.hid zN_rd, Lib.hid q2, hJ0⟩
  case round =>
    clear hJ0 its0 q2
    obtain ⟨k, ns, hk, rfl, ITS, NSR, QF, hJ⟩ := hrel
    by_cases hlt : k < 16
    · have hlti : (k : Int) < 16 := by omega
      obtain ⟨u, hu, hru⟩ := (ITS.out.rdt HT.out).leaf k hlt
      have hX := fun W => ix16 A k u hlt (by rw [HA.out, arr16_at hlt]; exact hu) W
      have SE := Lib.hid (search11_any u (lv k) f wr hru (H64.out k hlt) (HSO.out k hlt))
      have hcf := block_cell QF.out 0
      simp only [List.getElem?_toArray, List.getElem?_cons_zero] at hcf
      obtain ⟨P, hP⟩ : ∃ P, P = posL (lv k) f := ⟨_, rfl⟩
      rw [← hP] at SE
      have HPq := Lib.hid hP
      clear hu hru hP
      gi_wp2_with (refine ⟨trivial, ?_⟩; gi_at_call 122; refine (callsIn_wide.2 SE.out).mono ?_; rintro e w2 ⟨⟨bb, rfl⟩, g⟩; (have its2 := ITS.out.below g); (have QF2 := (g.block _ (lt_of_block QF.out)).trans QF.out); (have hJ2 := hJT _ _ _ hJ (Tw11.of_below g)); (have cz := (block_cell its2.bn k).trans (NSR.out.2 k hlt)); (have fz := block_frozen its2.bn k))
      have its3 := Lib.hid (its2.set hMN hB1 hB3 k (.int .i64 (P : Int)))
      have hJ3 := hJT _ _ _ hJ2 (Tw11.set its2.bn hMN k (.int .i64 (P : Int)))
      have NS3 := Lib.hid (show RdN (ns.setIfInBounds k (.int .i64 (P : Int))) (fun b => if b < k + 1 then posL (lv b) f else 0) by
        have h := NSR.out.set k P
        refine ⟨h.1, fun b hb => (h.2 b hb).trans ?_⟩
        by_cases e : b = k
        · subst e; rw [HPq.out]; simp
        · simp only [e, if_false]
          by_cases e2 : b < k
          · rw [if_pos e2, if_pos (by omega)]
          · rw [if_neg e2, if_neg (by omega)])
      have QF3 := Lib.hid (show (w2.setCell ⟨N, k, none⟩ (.int .i64 (P : Int))).heap[Bf]? = some (.cells #[.string (str f)] 9 (0, 0)) from (set_old hB2).trans QF2)
      clear its2 QF2 hJ2 cz fz hcf hX SE hJ
      go_roundw
      case rel => exact ⟨k + 1, _, by omega, by push_cast; rfl, its3, NS3, QF3, hJ3⟩
      case measure => simp [intOf]; omega
    · obtain rfl : k = 16 := by omega
      have NS0 := Lib.hid (show RdN ns (fun b => if b < 16 then posL (lv b) f else 0) from NSR.out)
      have IV1 := Lib.hid (show Inv bkI lv (fun b => if b < 16 then posL (lv b) f else 0) (L.drop 0) from fun b hb => by simp only [hb, if_true, List.drop_zero]; exact IV0.out b hb)
      clear NSR
      rw [show ((16 : Nat) : Int) = 16 from rfl]
      gi_wp2
      gi_loopw [8] (fun i wr => ∃ (j : Nat) (ns : Array Value) (nx : Nat → Nat), j ≤ L.length ∧ i = .int .i64 (j : Int) ∧ Hid (Inv bkI lv nx (L.drop j)) ∧ Hid (∀ x ∈ L.take j, endK t x = true) ∧ Hid (Its w0 Bt Bo N cs t ns wr) ∧ Hid (RdN ns nx) ∧ J (ixs (L.take j)) wr) (fun i _ => 2000 - (intOf i).toNat)
      case atStart => exact ⟨0, ns, _, Nat.zero_le _, rfl, IV1, Lib.hid (fun x hx => by simp at hx), ITS, NS0, hJ⟩
      case round =>
        clear IV1 NS0 ITS QF hJ
        obtain ⟨j, ns, nx, hj, rfl, IV, AE, ITS, NSR, hJ⟩ := hrel
        have it1 := ITS.out.bt
        have it2 := ITS.out.bn
        have hsN : (Tryd.prog.info? 24).map (·.size) = some ns.size := by rw [NSR.out.1]; kernel_rfl
        have SD : SrtI (L.drop j) := LS.out.sublist (List.drop_sublist _ _)
        have LE := Lib.hid (least_any cs ns lv vs nx (L.drop j) wr (ITS.out.rdt HT.out) NSR.out IV.out SD H64.out (fun x hx => LB.out x (List.mem_of_mem_drop hx)))
        by_cases hlt : j < L.length
        · obtain ⟨x, hx⟩ : ∃ x, x = L[j]'hlt := ⟨_, rfl⟩
          have hxb := LB.out x (by rw [hx]; exact List.getElem_mem _)
          have ed : L.drop j = x :: L.drop (j + 1) := by rw [hx]; exact List.drop_eq_getElem_cons hlt
          have LE0 := LE.out
          rw [ed, best_cons hxb] at LE0
          have IVX := IV.out
          rw [ed] at IVX
          obtain ⟨hpl, hpx, IVN⟩ := inv_step bkI IVX hxb
          have HIV := Lib.hid IVN
          have hp64 := H64.out _ hxb
          obtain ⟨b, hb⟩ : ∃ b, b = bkI x := ⟨_, rfl⟩
          rw [← hb] at LE0
          have LE := Lib.hid LE0
          obtain ⟨u, hu, hru0⟩ := HT.out.leaf b (by rw [hb]; exact hxb)
          have hb16 : b < 16 := by rw [hb]; exact hxb
          have hbi : (b : Int) < 16 := by omega
          obtain ⟨p, hp⟩ : ∃ p, p = nx b := ⟨_, rfl⟩
          have hpl2 : p < (lv b).length := by rw [hp, hb]; exact hpl
          have hpx2 : (lv b)[p]'hpl2 = x := by
            have : ∀ (c : Nat) (e : c = bkI x) (q : Nat) (e2 : q = nx c) (h1 : q < (lv c).length) (h2 : nx (bkI x) < (lv (bkI x)).length), (lv c)[q]'h1 = (lv (bkI x))[nx (bkI x)]'h2 := fun c e q e2 h1 h2 => by subst e; subst e2; rfl
            rw [this b hb p hp hpl2 hpl]; exact hpx
          obtain ⟨ua, uc, rfl, huc, hum, hru1⟩ := RdK.open hru0
          have hru0 : RdI w0 (.slice ua (lv b).length uc) (lv b) := hru1
          have CU := Lib.hid hu
          have CN := Lib.hid (show ns[b]? = some (.int .i64 (p : Int)) by rw [hp]; exact NSR.out.2 b hb16)
          have HX := Lib.hid hx
          have HP := Lib.hid (show p = nx b from hp)
          have HB := Lib.hid (show b = bkI x from hb)
          have HRU := Lib.hid hru0
          have HPX := Lib.hid (show ∃ h : p < (lv b).length, (lv b)[p]'h = x from ⟨hpl2, hpx2⟩)
          have k64 : (lv b).length ≤ 64 := by rw [hb]; exact hp64
          obtain ⟨ln, hln⟩ : ∃ ln, ln = (lv b).length := ⟨_, rfl⟩
          have hp3 : p < ln := by rw [hln]; exact hpl2
          have hln64 : ln ≤ 64 := by rw [hln]; exact k64
          rw [← hln] at CU huc HRU
          clear LE0 IVX IVN hpl hpx hx ed hu hru0 hru1 hb hp hpx2 hp64 k64 hxb SD hpl2 hln
          gi_wp2_with (first | ((with_reducible refine wpListIn_load_row (o := ⟨some 28, _, _, _, _, _⟩) rfl 26 (.tmp 1) rfl _ rfl _ cs (0, 0) _ it1 Tryd.underlying26 rfl hsT ?_)) | ((with_reducible refine wpListIn_load_row (o := ⟨some 29, _, _, _, _, _⟩) rfl 24 (.tmp 5) rfl _ rfl _ ns (0, 0) _ it2 Tryd.underlying24 rfl hsN ?_)) | (refine ⟨trivial, ?_⟩; gi_at_call 125; refine (callsIn_wide.2 LE.out).mono ?_; rintro e w2 ⟨rfl, g⟩; (have its2 := ITS.out.below g); (have hJ2 := hJT _ _ _ hJ (Tw11.of_below g))))
          have ru2 : RdI w2 (.slice ua ln uc) (lv b) := (HRU.out).keep its2.size its2.old
          obtain ⟨hq, hqx⟩ := HPX.out
          obtain ⟨pb, po, hpb0, hpb, C0, C1, C2, C3, C4⟩ := rdi_cells ru2 p hq
          cases hpb0
          rw [hqx] at C0 C1 C2 C3 C4
          have SH : w2.drew.heap[Bt]? = some (.cells cs 26 (0, 0)) ∧ w2.drew.heap[N]? = some (.cells ns 24 (0, 0)) ∧ (w2.drew.cell? ⟨pb, po + p * 5, none⟩ = some (.string (str x.key)) ∧ w2.drew.cell? ⟨pb, po + p * 5 + 1, none⟩ = some (.int .i64 x.v.k) ∧ w2.drew.cell? ⟨pb, po + p * 5 + 2, none⟩ = some (.int .i64 x.v.i) ∧ w2.drew.cell? ⟨pb, po + p * 5 + 3, none⟩ = some (.string (str x.v.s)) ∧ w2.drew.cell? ⟨pb, po + p * 5 + 4, none⟩ = some (.int .i64 x.ver)) := ⟨its2.bt, its2.bn, C0, C1, C2, C3, C4⟩
          have ITS2 := Lib.hid its2
          have qa := heap_alloc_new w2.drew (.cells #[.string { data := #[] }, .int .i64 0, .int .i64 0, .string { data := #[] }, .int .i64 0] 53)
          have ba := (Below.refl w2.drew.heap.size w2.drew).alloc (Nat.le_refl _) (.cells #[.string { data := #[] }, .int .i64 0, .int .i64 0, .string { data := #[] }, .int .i64 0] 53)
          clear C0 C1 C2 C3 C4 ru2 it1 it2 hsN LE its2
          refine j_start (ro := none) 10 (fun w' => w'.heap[Bt]? = some (.cells cs 26 (0, 0)) ∧ w'.heap[N]? = some (.cells ns 24 (0, 0)) ∧ (w'.cell? ⟨pb, po + p * 5, none⟩ = some (.string (str x.key)) ∧ w'.cell? ⟨pb, po + p * 5 + 1, none⟩ = some (.int .i64 x.v.k) ∧ w'.cell? ⟨pb, po + p * 5 + 2, none⟩ = some (.int .i64 x.v.i) ∧ w'.cell? ⟨pb, po + p * 5 + 3, none⟩ = some (.string (str x.v.s)) ∧ w'.cell? ⟨pb, po + p * 5 + 4, none⟩ = some (.int .i64 x.ver))) (by rintro ⟨_, _, h⟩; obtain ⟨⟨_, h⟩, _⟩ := h; cases h) (by kernel_rfl) (by kernel_rfl) ?_
          refine v_take (i := 0) (d := (some 33)) (v := ?_) rfl rfl (by kernel_rfl) (fun _ _ _ h => h) (by rfl) SH (fun w' hb' => ?_) ?_
          rotate_left
          · (try go_simp); (try with_reducible rfl)
          try simp only [Act.put, List.setIfInBounds_toArray, List.set_cons_zero, List.set_cons_succ]
          refine v_take (i := 1) (d := (some 34)) (v := ?_) rfl rfl (by kernel_rfl) (fun _ _ _ h => h) (by rfl) SH (fun w' hb' => ?_) ?_
          rotate_left
          · (try go_simp); (try with_reducible rfl)
          try simp only [Act.put, List.setIfInBounds_toArray, List.set_cons_zero, List.set_cons_succ]
          refine v_take (i := 2) (d := (some 35)) (v := ?_) rfl rfl (by kernel_rfl) (fun _ _ _ h => h) (by rfl) SH (fun w' hb' => ?_) ?_
          rotate_left
          · (try go_simp); (try with_reducible rfl)
          try simp only [Act.put, List.setIfInBounds_toArray, List.set_cons_zero, List.set_cons_succ]
          refine v_take (i := 3) (d := (some 36)) (v := ?_) rfl rfl (by kernel_rfl) (fun _ _ _ h => h) (by rfl) SH (fun w' hb' => ?_) ?_
          rotate_left
          · have z := (block_cell hb'.1 b).trans CU.out; (try go_simp); (try with_reducible rfl)
          try simp only [Act.put, List.setIfInBounds_toArray, List.set_cons_zero, List.set_cons_succ]
          refine v_take (i := 4) (d := (some 37)) (v := ?_) rfl rfl (by kernel_rfl) (fun _ _ _ h => h) (by rfl) SH (fun w' hb' => ?_) ?_
          rotate_left
          · (try go_simp); (try with_reducible rfl)
          try simp only [Act.put, List.setIfInBounds_toArray, List.set_cons_zero, List.set_cons_succ]
          refine v_take (i := 5) (d := (some 38)) (v := ?_) rfl rfl (by kernel_rfl) (fun _ _ _ h => h) (by rfl) SH (fun w' hb' => ?_) ?_
          rotate_left
          · (try go_simp); (try with_reducible rfl)
          try simp only [Act.put, List.setIfInBounds_toArray, List.set_cons_zero, List.set_cons_succ]
          refine v_take (i := 6) (d := (some 39)) (v := ?_) rfl rfl (by kernel_rfl) (fun _ _ _ h => h) (by rfl) SH (fun w' hb' => ?_) ?_
          rotate_left
          · have z := (block_cell hb'.2.1 b).trans CN.out; (try go_simp); (try with_reducible rfl)
          try simp only [Act.put, List.setIfInBounds_toArray, List.set_cons_zero, List.set_cons_succ]
          refine v_take (i := 7) (d := (some 40)) (v := ?_) rfl rfl (by kernel_rfl) (fun _ _ _ h => h) (by rfl) SH (fun w' hb' => ?_) ?_
          rotate_left
          · (try go_simp); (try with_reducible rfl)
          try simp only [Act.put, List.setIfInBounds_toArray, List.set_cons_zero, List.set_cons_succ]
          refine v_take (i := 8) (d := (some 41)) (v := ?_) rfl rfl (by kernel_rfl) (fun _ _ _ h => h) (by rfl) SH (fun w' hb' => ?_) ?_
          rotate_left
          · obtain ⟨z0, z1, z2, z3, z4⟩ := hb'.2.2; (try go_simp); (try with_reducible rfl)
          try simp only [Act.put, List.setIfInBounds_toArray, List.set_cons_zero, List.set_cons_succ]
          refine v_run (i := 9) rfl (by kernel_rfl) (by kernel_rfl) (by rfl) (fun K hK => ?_)
          go_simp; refine hK _ _ ⟨⟨(@heap_alloc_old _ _ _ (lt_of_block SH.1)).trans SH.1, (@heap_alloc_old _ _ _ (lt_of_block SH.2.1)).trans SH.2.1, ⟨(ba.cell (p := ⟨pb, po + p * 5, none⟩) hpb).trans SH.2.2.1, (ba.cell (p := ⟨pb, po + p * 5 + 1, none⟩) hpb).trans SH.2.2.2.1, (ba.cell (p := ⟨pb, po + p * 5 + 2, none⟩) hpb).trans SH.2.2.2.2.1, (ba.cell (p := ⟨pb, po + p * 5 + 3, none⟩) hpb).trans SH.2.2.2.2.2.1, (ba.cell (p := ⟨pb, po + p * 5 + 4, none⟩) hpb).trans SH.2.2.2.2.2.2⟩⟩, ?_⟩; clear hK K
          try simp only [Act.put, List.setIfInBounds_toArray, List.set_cons_zero, List.set_cons_succ]
          refine v_last (i := 10) rfl (by kernel_rfl) (by kernel_rfl) (by kernel_rfl) (by rfl) (fun K hK => ?_)
          obtain ⟨y0, y1, y2, y3, y4, yf⟩ := block_cells5 qa; go_simp; refine hK _ _ ?_; clear hK K

          have its3 := Lib.hid (show Its w0 Bt Bo N cs t ns ((w2.alloc (.cells #[.string (str x.key), .int .i64 x.v.k, .int .i64 x.v.i, .string (str x.v.s), .int .i64 x.ver] 53)).drew) from ITS2.out.below (Below.drew ((Below.refl _ w2).alloc (Nat.le_refl _) _)))
          have hJ3 : J (ixs (L.take j)) ((w2.alloc (.cells #[.string (str x.key), .int .i64 x.v.k, .int .i64 x.v.i, .string (str x.v.s), .int .i64 x.ver] 53)).drew) := hJT _ _ _ hJ2 (Tw11.of_below (Below.drew ((Below.refl _ w2).alloc (Nat.le_refl _) _)))
          have qx : ((w2.alloc (.cells #[.string (str x.key), .int .i64 x.v.k, .int .i64 x.v.i, .string (str x.v.s), .int .i64 x.ver] 53)).drew).heap[w2.heap.size]? = some (.cells #[.string (str x.key), .int .i64 x.v.k, .int .i64 x.v.i, .string (str x.v.s), .int .i64 x.ver] 53 (0, 0)) := heap_alloc_new w2 _
          obtain ⟨W3, hW3⟩ : ∃ V, V = (w2.alloc (.cells #[.string (str x.key), .int .i64 x.v.k, .int .i64 x.v.i, .string (str x.v.s), .int .i64 x.ver] 53)).drew := ⟨_, rfl⟩
          rw [← hW3] at its3 hJ3 qx ⊢
          obtain ⟨xb, hxb⟩ : ∃ b, b = w2.heap.size := ⟨_, rfl⟩
          rw [← hxb] at qx ⊢
          obtain ⟨x0, x1, x2, x3, x4, xf⟩ := block_cells5 qx
          have ct := block_cell its3.out.bo 0
          simp only [List.getElem?_toArray, List.getElem?_cons_zero] at ct
          have HYX := Lib.hid (show _ from fun h => hYH.out (ixs (L.take j)) (x, j) W3 hJ3 h)
          have hlen : (ixs (L.take j)).length < 2000 := by rw [ixs_len, List.length_take]; omega
          have fE := emp_eq t
          have GQ := fun w => geq_str x.key t w
          have hPRE : ixs (L.take j) ++ [(x, j)] = ixs (L.take (j + 1)) := by
            rw [take_snoc11 hlt, ixs_snoc, HX.out, List.length_take, Nat.min_eq_left (by omega)]
          have HPRE := Lib.hid hPRE
          have HEK := Lib.hid (show endK t x = (decide (t = []) || ltB x.key t) from rfl)
          have HAE1 := Lib.hid (show endK t x = true → ∀ y ∈ L.take (j + 1), endK t y = true from fun h y hy => by
            rw [take_snoc11 hlt] at hy
            rcases List.mem_append.1 hy with h1 | h1
            · exact AE.out y h1
            · rw [List.mem_singleton.1 h1, ← HX.out]; exact h)
          have HST := Lib.hid (show endK t x = false → RL = L.take j from fun h => by
            rw [RW.out]; exact while_stop (by omega) AE.out (fun h2 => by rw [← HX.out]; exact h))
          have HSP := Lib.hid (show endK t x = true → ixs (L.take (j + 1)) = ixs (RL.take (j + 1)) ∧ j < RL.length from fun h => by
            have hp := while_part (i := j + 1) (by omega) (HAE1.out h)
            rw [← RW.out] at hp
            have h1 := List.prefix_iff_eq_take.1 hp
            have h2 := hp.length_le
            rw [List.length_take, Nat.min_eq_left (by omega)] at h1 h2
            exact ⟨by rw [← h1], by omega⟩)
          clear hPRE hW3 hxb hJ2 g qx qa ba SH IV AE
          cases hte : decide (t = []) with
          | true =>
            rw [hte] at fE
            have HE := Lib.hid (show endK t x = true by rw [HEK.out, hte]; rfl)
            clear hte GQ HST
            obtain ⟨fn, tmps, assign, body, hy, hR⟩ := HYX.out hlen
            simp only at hy
            gi_wp2
            refine hR.mono ?_
            rintro e W4 (⟨rfl, hJ4, hk4⟩ | ⟨rfl, hJx4⟩)
            · have its4 := its3.out.kp hk4
              have cz := (block_cell its4.bn b).trans CN.out
              have fz := block_frozen its4.bn b
              have its5 := Lib.hid (its4.set hMN hB1 hB3 b (.int .i64 ((p : Int) + 1)))
              have hJ5 := hJT _ _ _ hJ4 (Tw11.set its4.bn hMN b (.int .i64 ((p : Int) + 1)))
              rw [HPRE.out] at hJ5
              have NS5 := Lib.hid (show RdN (ns.setIfInBounds b (.int .i64 ((p : Int) + 1))) (fun c => if c = bkI x then nx c + 1 else nx c) by
                have h := NSR.out.set b (p + 1)
                rw [show ((p + 1 : Nat) : Int) = (p : Int) + 1 by push_cast; rfl] at h
                refine ⟨h.1, fun c hc => (h.2 c hc).trans ?_⟩
                rw [← HB.out]
                by_cases e : c = b
                · subst e; rw [HP.out]; (first | done | simp)
                · simp [e])
              have AE5 := Lib.hid (HAE1.out HE.out)
              clear hy hR its4 hk4 hJ4 x0 x1 x2 x3 x4 xf ct hJ3 fE
              gi_wp2
              go_roundw
              case rel => exact ⟨j + 1, _, _, by omega, by push_cast; rfl, HIV, AE5, its5, NS5, hJ5⟩
              case measure => simp [intOf]; omega
            · clear hy hR x0 x1 x2 x3 x4 xf ct hJ3 fE
              rw [HPRE.out] at hJx4
              gi_wp2
              refine bodyPost_ret (results_none rfl _ _ _) rfl ?_
              exact ⟨⟨_, rfl⟩, .inr ⟨_, ⟨j, HSP.out HE.out⟩, hJx4⟩⟩
          | false =>
            rw [hte] at fE
            cases hlk : ltB x.key t with
            | true =>
              rw [hlk] at GQ
              have HE := Lib.hid (show endK t x = true by rw [HEK.out, hte, hlk]; rfl)
              clear hte hlk HST
              obtain ⟨fn, tmps, assign, body, hy, hR⟩ := HYX.out hlen
              simp only at hy
              gi_wp2
              refine hR.mono ?_
              rintro e W4 (⟨rfl, hJ4, hk4⟩ | ⟨rfl, hJx4⟩)
              · have its4 := its3.out.kp hk4
                have cz := (block_cell its4.bn b).trans CN.out
                have fz := block_frozen its4.bn b
                have its5 := Lib.hid (its4.set hMN hB1 hB3 b (.int .i64 ((p : Int) + 1)))
                have hJ5 := hJT _ _ _ hJ4 (Tw11.set its4.bn hMN b (.int .i64 ((p : Int) + 1)))
                rw [HPRE.out] at hJ5
                have NS5 := Lib.hid (show RdN (ns.setIfInBounds b (.int .i64 ((p : Int) + 1))) (fun c => if c = bkI x then nx c + 1 else nx c) by
                  have h := NSR.out.set b (p + 1)
                  rw [show ((p + 1 : Nat) : Int) = (p : Int) + 1 by push_cast; rfl] at h
                  refine ⟨h.1, fun c hc => (h.2 c hc).trans ?_⟩
                  rw [← HB.out]
                  by_cases e : c = b
                  · subst e; rw [HP.out]; (first | done | simp)
                  · simp [e])
                have AE5 := Lib.hid (HAE1.out HE.out)
                clear hy hR its4 hk4 hJ4 x0 x1 x2 x3 x4 xf ct hJ3 fE
                gi_wp2
                go_roundw
                case rel => exact ⟨j + 1, _, _, by omega, by push_cast; rfl, HIV, AE5, its5, NS5, hJ5⟩
                case measure => simp [intOf]; omega
              · clear hy hR x0 x1 x2 x3 x4 xf ct hJ3 fE
                rw [HPRE.out] at hJx4
                gi_wp2
                refine bodyPost_ret (results_none rfl _ _ _) rfl ?_
                exact ⟨⟨_, rfl⟩, .inr ⟨_, ⟨j, HSP.out HE.out⟩, hJx4⟩⟩
            | false =>
              rw [hlk] at GQ
              have HE := Lib.hid (show endK t x = false by rw [HEK.out, hte, hlk]; rfl)
              clear hte hlk
              gi_wp2_with (with_reducible refine ⟨fun f h => (by cases h), ?_⟩)
              refine bodyPost_ret (results_none rfl _ _ _) rfl ?_
              refine ⟨⟨_, rfl⟩, .inl ⟨ixs (L.take j), ?_, hJ3⟩⟩
              rw [HST.out HE.out]
        · obtain rfl : j = L.length := by omega
          have LE0 := LE.out
          rw [List.drop_length, best_nil] at LE0
          have LE := Lib.hid LE0
          clear LE0 SD
          gi_wp2_with (first | ((with_reducible refine wpListIn_load_row (o := ⟨some 28, _, _, _, _, _⟩) rfl 26 (.tmp 1) rfl _ rfl _ cs (0, 0) _ it1 Tryd.underlying26 rfl hsT ?_)) | ((with_reducible refine wpListIn_load_row (o := ⟨some 29, _, _, _, _, _⟩) rfl 24 (.tmp 5) rfl _ rfl _ ns (0, 0) _ it2 Tryd.underlying24 rfl hsN ?_)) | (refine ⟨trivial, ?_⟩; gi_at_call 125; refine (callsIn_wide.2 LE.out).mono ?_; rintro e w2 ⟨rfl, g⟩; (have hJ2 := hJT _ _ _ hJ (Tw11.of_below g))))
          refine bodyPost_ret (results_none rfl _ _ _) rfl ?_
          refine ⟨⟨_, rfl⟩, .inl ⟨ixs (L.take L.length), ?_, hJ2⟩⟩
          rw [RW.out, while_stop (Nat.le_refl _) AE.out (fun h => absurd h (Nat.lt_irrefl _))]
end Go.Proofs.YtbdfcgffkonbiaaDoor
