/- Stores: the document's Undo. Written by wip/tools/gen13y.py. -/
import Derived.Test.YtbdfcgffkonbiaaDoorQST42
import Derived.Test.YtbdfcgffkonbiaaDoorQSU2
import Derived.Test.YtbdfcgffkonbiaaDoorQSU3
import Derived.Laws.AppendOwnNone
namespace Go.Proofs.YtbdfcgffkonbiaaDoor
open Go Go.RowKit
set_option linter.unusedVariables false
set_option linter.unusedSimpArgs false
theorem drew_both {n : Nat} {w w' : World} (h : Below n w w') : Below n w.drew w'.drew := ⟨h.os, h.tape, h.output, h.size, h.block⟩
/-- A region has come to its end: some slots are written; what holds of the world. -/
def MidP (ds : Nat → List (Option Tmp × Value)) (M : Nat → World → Prop) (a : Act) (e : Exit) (x : Act) (y : World) : Prop := e = .normal ∧ ∃ i, x = (ds i).foldl (fun a d => a.put d.1 d.2) a ∧ M i y
theorem MidP.no {ds : Nat → List (Option Tmp × Value)} {M : Nat → World → Prop} {a0 : Act} {d : Option Tmp} {v : Value} : ∀ c a w, MidP ds M a0 (.panic c) (a.put d v) w → MidP ds M a0 (.panic c) a w := by
  rintro c a w ⟨h, -⟩; cases h
theorem region_puts {P : Program} {c : Code} {Q : Exit → Act → World → Prop} {a : Act} {w : World} (ds : Nat → List (Option Tmp × Value)) (M : Nat → World → Prop) (h : c.wp P (MidP ds M a) a w)
    (k : ∀ i y, M i y → Q .normal ((ds i).foldl (fun a d => a.put d.1 d.2) a) y) : c.wp P Q a w :=
  Code.wp_mono (by rintro e x y ⟨rfl, i, rfl, hm⟩; exact k i y hm) h
set_option maxRecDepth 100000 in
theorem app_its (w : World) (base : Nat) (v : Value) (L : List It) (own : w.ownsRow base 53 5 v L.length (L.flatMap itC)) (u : Value) (M : List It) (hr : RdI w u M) (hbase : base ≤ w.heap.size) (hL : L.length + M.length ≤ 4000) :
    ∃ v' w', (Builtin.append_ #[22, 22] 22 #[v, u]).run Tryd.prog w = .ok v' w' ∧ w'.ownsRow base 53 5 v' (L ++ M).length ((L ++ M).flatMap itC) ∧ w.grownBy w' v.ownBlock := by
  obtain ⟨i0, hi, hz0, hz1, hz2⟩ := info_parts item_info
  obtain ⟨ao, cap, rfl, h2, h3, h4, h5⟩ := hr
  cases ao with
  | none =>
    have h6 := h4 rfl
    obtain rfl : M = [] := List.eq_nil_of_length_eq_zero (by omega)
    subst h6
    exact ⟨v, w, run_append_owned_none (P := Tryd.prog) (w := w) base 22 22 53 i0 5 Tryd.underlying22 hi v L.length _ own, by simpa using own, grown_reflB⟩
  | some ad =>
    obtain ⟨v', w', g1, g2, g3, -, -⟩ := run_append_own_at (P := Tryd.prog) w base 22 22 53 i0 _ 5 56 Tryd.underlying22 hi hz0 hz1 hz2 rfl (by decide) v L.length (L.flatMap itC) own ad M.length cap (M.flatMap itC) (flat_len itC_len M) (fun j u hj => by
      have hjl : j < M.length * 5 := by have := (List.getElem?_eq_some_iff.1 hj).1; rwa [flat_len itC_len] at this
      obtain ⟨b, off, e, hb, hc⟩ := h5 (by omega)
      injection e with e
      subst e
      rw [Addr.add_lit, hc j hjl]; exact hj) (fun u hu => by
      obtain ⟨x, _, hx⟩ := List.mem_flatMap.1 hu
      exact itC_one x u hx) (by unfold maxLen; omega) (by omega) hbase
    refine ⟨v', w', g1, ?_, g3⟩
    rw [List.length_append, List.flatMap_append]
    exact g2
set_option maxRecDepth 100000 in
set_option maxHeartbeats 4000000 in
theorem refUndo13_any (ca cb : Array Value) (s t : St) (w : World) (ha : RdS w ca s) (hb : RdS w cb t) (hsz : SzT s.lv) (hsz2 : SzT t.lv) (hms : mayS s = true) (hmt : mayS t = true) :
    Calls Tryd.prog 37 #[.agg ca, .agg cb] w fun e w' => ∃ v, e = .returned v ∧ w'.ownsRow w.heap.size 68 4 v (undoM (allS s.lv) (allS t.lv)).length ((undoM (allS s.lv) (allS t.lv)).flatMap edC) ∧ Below w.heap.size w w' := by
  have hsa := ha.size
  have hsb := hb.size
  obtain ⟨q1, q2, z2, -⟩ := two_allocs w (.cells ca 28) (.cells cb 28)
  have bel : Below w.heap.size w ((w.alloc (.cells ca 28)).alloc (.cells cb 28)) := ((Below.refl _ w).alloc (Nat.le_refl _) _).alloc (by simp) _
  have AA := Lib.hid (fun W (g : Below w.heap.size w W) => refAll11_any (tC ca) s.lv s.vs W (ha.tr.below g (Nat.le_refl _)) hsz (WfS_len hms))
  have AB := Lib.hid (fun W (g : Below w.heap.size w W) => refAll11_any (tC cb) t.lv t.vs W (hb.tr.below g (Nat.le_refl _)) hsz2 (WfS_len hmt))
  have GA := Lib.hid (fun (k : List UInt8) W (g : Below w.heap.size w W) => refGet10_any (tC ca) s.lv s.vs k W (ha.tr.below g (Nat.le_refl _)) (mayS_t hms))
  have GB := Lib.hid (fun (k : List UInt8) W (g : Below w.heap.size w W) => refGet10_any (tC cb) t.lv t.vs k W (hb.tr.below g (Nat.le_refl _)) (mayS_t hmt))
  have HL := Lib.hid (show (allS s.lv).length + (allS t.lv).length ≤ 4000 by have h1 := allS_len (mayS_t hms); have h2 := allS_len (mayS_t hmt); omega)
  have HLSZ := Lib.hid (show SzI (allS s.lv ++ allS t.lv) from fun x hx => by
    rcases List.mem_append.1 hx with h | h
    · exact allS_sz hsz x h
    · exact allS_sz hsz2 x h)
  obtain ⟨UL, hUL⟩ : ∃ L, L = undoM (allS s.lv) (allS t.lv) := ⟨_, rfl⟩
  obtain ⟨LL, hLL⟩ : ∃ L, L = allS s.lv ++ allS t.lv := ⟨_, rfl⟩
  have HUL := Lib.hid (show (LL.foldl withL []).flatMap (edR s.lv t.lv) = UL by rw [hLL, hUL]; exact refUndo_eq (mayS_t hms) (mayS_t hmt))
  rw [← hUL]
  rw [← hLL] at HLSZ
  have HLL := Lib.hid hLL
  obtain ⟨Z, hZ⟩ : ∃ Z : Ending → World → Prop, Z = fun e w' => ∃ v, e = .returned v ∧ w'.ownsRow w.heap.size 68 4 v UL.length (UL.flatMap edC) ∧ Below w.heap.size w w' := ⟨_, rfl⟩
  rw [← hZ]
  have HZ := Lib.hid hZ
  obtain ⟨W0, hW0⟩ : ∃ W, W = (w.alloc (.cells ca 28)).alloc (.cells cb 28) := ⟨_, rfl⟩
  rw [← hW0] at q1 q2 z2 bel
  have HB0 := Lib.hid bel
  clear hZ hUL hLL ha hb hsz hsz2 hms hmt
  go_enter Tryd.func37, Tryd.ntmps37
  go_wp2_with fail
  rw [← hW0]
  clear hW0
  have SH : W0.drew.heap[w.heap.size]? = some (.cells ca 28 (0, 0)) ∧ W0.drew.heap[w.heap.size + 1]? = some (.cells cb 28 (0, 0)) := ⟨q1, q2⟩
  refine gs_start (S := (fun W => W.heap[w.heap.size]? = some (.cells ca 28 (0, 0)) ∧ W.heap[w.heap.size + 1]? = some (.cells cb 28 (0, 0)))) (by kernel_rfl) ?_
  refine gs_take (i := 0) (d := (some 14)) (v := ?_) rfl rfl (by kernel_rfl) (fun _ _ _ h => h) (by rfl) SH (fun w' hb' => ?_) ?_
  rotate_left
  · (try go_simp); (try with_reducible rfl)
  try simp only [Act.put, List.setIfInBounds_toArray, List.set_cons_zero, List.set_cons_succ]
  refine gs_take (i := 1) (d := (some 15)) (v := ?_) rfl rfl (by kernel_rfl) (fun _ _ _ h => h) (by rfl) SH (fun w' hb' => ?_) ?_
  rotate_left
  · (refine load_partO_op _ _ (.tmp 14) ?_ ?_ (tC_range hb'.1) Tryd.underlying26 ?_ (tC_infoA hsa) <;> rfl); (try go_simp); (try with_reducible rfl)
  try simp only [Act.put, List.setIfInBounds_toArray, List.set_cons_zero, List.set_cons_succ]
  refine gs_take (i := 3) (d := (some 17)) (v := ?_) rfl rfl (by kernel_rfl) (fun _ _ _ h => h) (by rfl) SH (fun w' hb' => ?_) ?_
  rotate_left
  · (try go_simp); (try with_reducible rfl)
  try simp only [Act.put, List.setIfInBounds_toArray, List.set_cons_zero, List.set_cons_succ]
  refine gs_take (i := 4) (d := (some 18)) (v := ?_) rfl rfl (by kernel_rfl) (fun _ _ _ h => h) (by rfl) SH (fun w' hb' => ?_) ?_
  rotate_left
  · (refine load_partO_op _ _ (.tmp 17) ?_ ?_ (tC_range hb'.2) Tryd.underlying26 ?_ (tC_infoA hsb) <;> rfl); (try go_simp); (try with_reducible rfl)
  try simp only [Act.put, List.setIfInBounds_toArray, List.set_cons_zero, List.set_cons_succ]
  refine gs_run (i := 2) rfl (by kernel_rfl) (by rfl) (fun K hK => ?_)
  go_simp
  refine (AA.out _ bel.drew).mono ?_
  rintro e w1 ⟨va, rfl, own1, g⟩
  have bel1 := chain bel.drew g
  have cc1 : Below W0.heap.size W0 w1 := (Below.refl W0.heap.size W0).drew.trans g
  refine hK _ _ (and_keep ⟨(g.block _ (lt_of_block q1)).trans q1, (g.block _ (lt_of_block q2)).trans q2⟩ fun SH2 => ?_)
  clear hK K g SH
  have SH := SH2
  clear SH2
  try simp only [Act.put, List.setIfInBounds_toArray, List.set_cons_zero, List.set_cons_succ]
  refine gs_run (i := 5) rfl (by kernel_rfl) (by rfl) (fun K hK => ?_)
  go_simp
  refine (AB.out _ bel1).mono ?_
  rintro e w2 ⟨vb, rfl, own2, g⟩
  have bel2 := chain bel1 g
  have own1 := own_keep own1 g
  have cc2 : Below W0.heap.size W0 w2 := cc1.trans (g.mono cc1.size)
  refine hK _ _ (and_keep ⟨(g.block _ (lt_of_block SH.1)).trans SH.1, (g.block _ (lt_of_block SH.2)).trans SH.2⟩ fun SH2 => ?_)
  clear hK K g SH
  have SH := SH2
  clear SH2
  try simp only [Act.put, List.setIfInBounds_toArray, List.set_cons_zero, List.set_cons_succ]
  refine gs_run (i := 6) rfl (by kernel_rfl) (by rfl) (fun K hK => ?_)
  obtain ⟨v9, W9, hrun, own9, gr⟩ := app_its _ _ _ _ own1 _ _ (own_rdk itC_len own2) (show W0.heap.size ≤ _ from cc2.size) HL.out
  have bel9 : Below W0.heap.size W0 W9 := grown_below cc2 (Nat.le_refl _) (show w2.ownsRow W0.heap.size 53 5 va _ _ from own1) gr
  obtain ⟨ol, nl, cl, rfl⟩ := own_slice own9
  refine op_append (.tmp 16) (.tmp 19) 22 22 rfl rfl _ _ (.slice ol nl cl) W9 rfl rfl hrun ?_
  refine hK _ _ (and_keep ⟨(bel9.block _ (by omega)).trans q1, (bel9.block _ (by omega)).trans q2⟩ fun SH2 => ?_)
  clear hK K SH hrun gr own1 own2
  have SH := SH2
  clear SH2
  try simp only [Act.put, List.setIfInBounds_toArray, List.set_cons_zero, List.set_cons_succ]
  refine gs_take (i := 7) (d := (some 6)) (v := ?_) rfl rfl (by kernel_rfl) (fun _ _ _ h => h) (by rfl) SH (fun w' hb' => ?_) ?_
  rotate_left
  · (try go_simp); (try with_reducible rfl)
  try simp only [Act.put, List.setIfInBounds_toArray, List.set_cons_zero, List.set_cons_succ]
  refine gs_done (by kernel_rfl) ?_

  have RL := own_rdk itC_len own9
  have hnl := own_count own9
  rw [← HLL.out] at RL hnl
  subst hnl
  have HRL := Lib.hid (show RdI W9 (.slice ol LL.length cl) LL from RL)
  have B9 := Lib.hid (HB0.out.trans (bel9.mono HB0.out.size))
  have QA := Lib.hid SH.1
  have QB := Lib.hid SH.2
  have HLN := Lib.hid (show LL.length ≤ 4000 by rw [HLL.out, List.length_append]; exact HL.out)
  clear RL own9 bel9 bel1 bel2 cc1 cc2 SH q1 q2 bel z2 AA AB
  go_wp2_with fail
  go_loopw [5, 7] (fun kv i wr => ∃ (k nk ck : Nat) (ak : Option Addr) (K : List It), k ≤ LL.length ∧ i = .int .i64 (k : Int) ∧ kv = .slice ak nk ck ∧ Hid (K = (LL.take k).foldl withL []) ∧ Hid (RdI wr (.slice ak nk ck) K) ∧ Hid (Below W9.heap.size W9 wr)) (fun _ i _ => LL.length + 1 - (intOf i).toNat)
  case atStart => exact ⟨0, 0, 0, none, [], Nat.zero_le _, rfl, rfl, Lib.hid rfl, Lib.hid (rdk_nil _), Lib.hid (Below.refl _ _)⟩
  case round =>
    obtain ⟨k, nk, ck, ak, K, hk, rfl, rfl, HK, RK, BK⟩ := hrel
    by_cases hlt : k < LL.length
    · have hlti : (k : Int) < (LL.length : Int) := by omega
      have hln := HLN.out
      have R0 := HRL.out
      have R1 : RdI wr (.slice ol LL.length cl) LL := R0.below BK.out (Nat.le_refl _)
      obtain ⟨b, off, rfl, hb, c0, c1, c2, c3, c4⟩ := rdi_cells R1 k hlt
      obtain ⟨x, hx⟩ : ∃ x, x = LL[k]'hlt := ⟨_, rfl⟩
      rw [← hx] at c0 c1 c2 c3 c4
      have hxm : x ∈ LL := by rw [hx]; exact List.getElem_mem _
      have hKl : K.length ≤ 4000 := by rw [HK.out]; exact Nat.le_trans (fold_len _ _) (by simp; have := HLN.out; omega)
      have hKs : SzI K := by rw [HK.out]; exact fold_sz _ _ (fun _ h => by cases h) (fun z hz => HLSZ.out z (List.mem_of_mem_take hz))
      have WI0 := refWith13_any (.slice ak nk ck) K x wr RK.out hKs (HLSZ.out x hxm).1 (by omega)
      have HKN := Lib.hid (show withL K x = (LL.take (k + 1)).foldl withL [] by rw [take_snoc11 hlt, List.foldl_append, ← HK.out, hx]; rfl)
      unfold itV at WI0
      have WI := Lib.hid WI0
      clear WI0 R0 R1 hx hxm hKl hKs
      go_wp2_with fail
      refine WI.out.mono ?_
      rintro e w3 ⟨vk, rfl, own, g⟩
      obtain ⟨ak2, nk2, ck2, rfl⟩ := own_slice own
      have RK2 := Lib.hid (show RdI w3 (.slice ak2 nk2 ck2) (withL K x) from own_rdk itC_len own)
      have BK2 := Lib.hid (BK.out.trans (g.mono BK.out.size))
      clear own g
      go_wp2_with fail
      exact ⟨⟨k + 1, nk2, ck2, ak2, _, by omega, by push_cast; rfl, rfl, HKN, RK2, BK2⟩, by simp [intOf]; omega⟩
    · obtain rfl : k = LL.length := by omega
      obtain ⟨KK, hKK⟩ : ∃ L, L = K := ⟨_, rfl⟩
      have HKF := Lib.hid (show K.flatMap (edR s.lv t.lv) = UL by rw [HK.out, List.take_length]; exact HUL.out)
      have hKl : Hid (K.length ≤ 4000) := Lib.hid (by rw [HK.out]; exact Nat.le_trans (fold_len _ _) (by simp; have := HLN.out; omega))
      obtain ⟨_, cap, e9, hck, -⟩ := RK.out
      cases e9
      have QA2 := Lib.hid ((BK.out.block _ (lt_of_block QA.out)).trans QA.out)
      have QB2 := Lib.hid ((BK.out.block _ (lt_of_block QB.out)).trans QB.out)
      have BW := Lib.hid (B9.out.trans (BK.out.mono B9.out.size))
      clear hKK HK BK QA QB B9 HUL HLL HRL
      go_wp2_with fail
      obtain ⟨wl, hwl⟩ : ∃ wl, wl = wr := ⟨_, rfl⟩
      rw [← hwl] at RK QA2 QB2 BW ⊢
      clear hwl
      go_loopw [8, 9] (fun o i wx => ∃ (k : Nat) (acc : List Ed), k ≤ K.length ∧ i = .int .i64 (k : Int) ∧ wx.ownsRow wl.heap.size 68 4 o acc.length (acc.flatMap edC) ∧ Hid (acc = (K.take k).flatMap (edR s.lv t.lv)) ∧ Hid (acc.length ≤ k) ∧ Hid (Below wl.heap.size wl wx)) (fun _ i _ => K.length + 1 - (intOf i).toNat)
      case atStart => exact ⟨0, [], Nat.zero_le _, rfl, World.ownsRow_nil _ _ _ _, Lib.hid rfl, Lib.hid (Nat.le_refl _), Lib.hid (Below.refl _ _)⟩
      case round =>
        obtain ⟨k, acc, hk, rfl, own, HA, HAL, BL⟩ := hrel
        by_cases hlt : k < K.length
        · have hlti : (k : Int) < (K.length : Int) := by omega
          have hKl2 := hKl.out
          have R1 : RdI wr (.slice ak K.length ck) K := RK.out.below BL.out (Nat.le_refl _)
          obtain ⟨b, off, rfl, hb, c0, -, -, -, -⟩ := rdi_cells R1 k hlt
          obtain ⟨x, hx⟩ : ∃ x, x = K[k]'hlt := ⟨_, rfl⟩
          rw [← hx] at c0
          have q1 := (BL.out.block _ (lt_of_block QA2.out)).trans QA2.out
          have q2 := (BL.out.block _ (lt_of_block QB2.out)).trans QB2.out
          have BWR := Lib.hid (chain BW.out BL.out)
          obtain ⟨xa, hxa⟩ : ∃ x', x' = gTI s.lv x.key := ⟨_, rfl⟩
          obtain ⟨xb, hxb⟩ : ∃ x', x' = gTI t.lv x.key := ⟨_, rfl⟩
          obtain ⟨ba, hba⟩ : ∃ b, b = gTB s.lv x.key := ⟨_, rfl⟩
          obtain ⟨bb, hbb⟩ : ∃ b, b = gTB t.lv x.key := ⟨_, rfl⟩
          have GA1 := GA.out x.key
          have GB1 := GB.out x.key
          rw [← hxa, ← hba] at GA1
          rw [← hxb, ← hbb] at GB1
          unfold itV at GA1 GB1
          have GA2 := Lib.hid GA1
          have GB2 := Lib.hid GB1
          have HED := Lib.hid (show edR s.lv t.lv x = if vB xa.v xb.v = true then [] else [⟨x.key, xa.v⟩] by rw [hxa, hxb]; rfl)
          have HKS := Lib.hid (show (K.take (k + 1)).flatMap (edR s.lv t.lv) = acc ++ edR s.lv t.lv x by rw [take_snoc11 hlt, List.flatMap_append, ← HA.out, hx]; simp)
          clear GA1 GB1 R1 hx hxa hxb hba hbb
          go_wp2_with fail
          refine region_puts (fun B9 : Nat => [(some 40, .pointer (some ⟨w.heap.size, 0, none⟩)), (some 41, .agg (tC ca)), (some 42, .slice (some ⟨b, off, none⟩) K.length ck), (some 43, .int .i64 (k : Int)), (some 44, .pointer (some ⟨b, off + k * 5, none⟩)), (some 45, .pointer (some ⟨b, off + k * 5, none⟩)), (some 46, .string (str x.key)), (some 47, .tuple #[.agg #[.string (str xa.key), .int .i64 xa.v.k, .int .i64 xa.v.i, .string (str xa.v.s), .int .i64 xa.ver], .bool ba]), (some 39, .tuple #[.agg #[.string (str xa.key), .int .i64 xa.v.k, .int .i64 xa.v.i, .string (str xa.v.s), .int .i64 xa.ver], .bool ba]), (some 48, .agg #[.string (str xa.key), .int .i64 xa.v.k, .int .i64 xa.v.i, .string (str xa.v.s), .int .i64 xa.ver]), (some 49, .bool ba), (some 10, .pointer (some ⟨B9, 0, none⟩)), (some 11, .bool ba)]) (fun B9 y => y.heap[B9]? = some (.cells #[.string (str xa.key), .int .i64 xa.v.k, .int .i64 xa.v.i, .string (str xa.v.s), .int .i64 xa.ver] 53 (0, 0)) ∧ Below wr.heap.size wr y ∧ wr.heap.size ≤ B9) ?_ ?_
          · have hS : Below wr.heap.size wr wr.drew := (Below.refl _ _).drew
            refine gs_start (S := (fun W => Below wr.heap.size wr W)) (by kernel_rfl) ?_
            refine gs_take (i := 0) (d := (some 40)) (v := ?_) rfl rfl (by kernel_rfl) MidP.no (by rfl) hS (fun w' hb' => ?_) ?_
            rotate_left
            · (try go_simp); (try with_reducible rfl)
            try simp only [Act.put, List.setIfInBounds_toArray, List.set_cons_zero, List.set_cons_succ]
            refine gs_take (i := 1) (d := (some 41)) (v := ?_) rfl rfl (by kernel_rfl) MidP.no (by rfl) hS (fun w' hb' => ?_) ?_
            rotate_left
            · (refine load_partO_op _ _ (.tmp 40) ?_ ?_ (tC_range ((hb'.block _ (lt_of_block q1)).trans q1)) Tryd.underlying26 ?_ (tC_infoA hsa) <;> rfl); (try go_simp); (try with_reducible rfl)
            try simp only [Act.put, List.setIfInBounds_toArray, List.set_cons_zero, List.set_cons_succ]
            refine gs_take (i := 2) (d := (some 42)) (v := ?_) rfl rfl (by kernel_rfl) MidP.no (by rfl) hS (fun w' hb' => ?_) ?_
            rotate_left
            · (try go_simp); (try with_reducible rfl)
            try simp only [Act.put, List.setIfInBounds_toArray, List.set_cons_zero, List.set_cons_succ]
            refine gs_take (i := 3) (d := (some 43)) (v := ?_) rfl rfl (by kernel_rfl) MidP.no (by rfl) hS (fun w' hb' => ?_) ?_
            rotate_left
            · (try go_simp); (try with_reducible rfl)
            try simp only [Act.put, List.setIfInBounds_toArray, List.set_cons_zero, List.set_cons_succ]
            refine gs_take (i := 4) (d := (some 44)) (v := ?_) rfl rfl (by kernel_rfl) MidP.no (by rfl) hS (fun w' hb' => ?_) ?_
            rotate_left
            · (try go_simp); (try with_reducible rfl)
            try simp only [Act.put, List.setIfInBounds_toArray, List.set_cons_zero, List.set_cons_succ]
            refine gs_take (i := 5) (d := (some 45)) (v := ?_) rfl rfl (by kernel_rfl) MidP.no (by rfl) hS (fun w' hb' => ?_) ?_
            rotate_left
            · (try go_simp); (try with_reducible rfl)
            try simp only [Act.put, List.setIfInBounds_toArray, List.set_cons_zero, List.set_cons_succ]
            refine gs_take (i := 6) (d := (some 46)) (v := ?_) rfl rfl (by kernel_rfl) MidP.no (by rfl) hS (fun w' hb' => ?_) ?_
            rotate_left
            · have zz := (hb'.cell (p := ⟨b, off + k * 5, none⟩) hb).trans c0; (try go_simp); (try with_reducible rfl)
            try simp only [Act.put, List.setIfInBounds_toArray, List.set_cons_zero, List.set_cons_succ]
            refine gs_run2 (i := 7) (k := 11) rfl rfl (by kernel_rfl) (by rfl) (by rfl) (fun K hK => ?_) (fun K hK => ?_)
            · skip
              go_simp
              refine (GA2.out _ (chain BWR.out hS)).mono ?_
              rintro e wc ⟨rfl, g⟩
              have hS2 := hS.trans (g.mono hS.size)
              have hcs := hS2.size
              have hG := hS2
              refine hK _ _ ⟨hS2, ?_⟩
              clear hK K g hS
              have hS := hS2
              clear hS2
              try simp only [Act.put, List.setIfInBounds_toArray, List.set_cons_zero, List.set_cons_succ]
              refine gs_take (i := 8) (d := (some 39)) (v := ?_) rfl rfl (by kernel_rfl) MidP.no (by rfl) hS (fun w' hb' => ?_) ?_
              rotate_left
              · (try go_simp); (try with_reducible rfl)
              try simp only [Act.put, List.setIfInBounds_toArray, List.set_cons_zero, List.set_cons_succ]
              refine gs_take (i := 9) (d := (some 48)) (v := ?_) rfl rfl (by kernel_rfl) MidP.no (by rfl) hS (fun w' hb' => ?_) ?_
              rotate_left
              · (try go_simp); (try with_reducible rfl)
              try simp only [Act.put, List.setIfInBounds_toArray, List.set_cons_zero, List.set_cons_succ]
              refine gs_take (i := 10) (d := (some 49)) (v := ?_) rfl rfl (by kernel_rfl) MidP.no (by rfl) hS (fun w' hb' => ?_) ?_
              rotate_left
              · (try go_simp); (try with_reducible rfl)
              try simp only [Act.put, List.setIfInBounds_toArray, List.set_cons_zero, List.set_cons_succ]
              refine gs_run (i := 11) rfl (by kernel_rfl) (by rfl) (fun K hK => ?_)
              go_simp
              have hS2 := hS.alloc hS.size (.cells #[.string (str []), .int .i64 0, .int .i64 0, .string (str []), .int .i64 0] 53)
              have qz := heap_alloc_new wc (.cells #[.string (str []), .int .i64 0, .int .i64 0, .string (str []), .int .i64 0] 53)
              refine hK _ _ ⟨hS2, ?_⟩
              clear hK K hS
              have hS := hS2
              clear hS2
              try simp only [Act.put, List.setIfInBounds_toArray, List.set_cons_zero, List.set_cons_succ]
              refine gs_run (i := 12) rfl (by kernel_rfl) (by rfl) (fun K hK => ?_)
              go_simp
              refine hK _ _ (and_keep (hG.alloc hG.size _) fun hS2 => ?_)
              clear hK K hS
              have hS := hS2
              clear hS2
              try simp only [Act.put, List.setIfInBounds_toArray, List.set_cons_zero, List.set_cons_succ]
              refine gs_take (i := 13) (d := (some 11)) (v := ?_) rfl rfl (by kernel_rfl) MidP.no (by rfl) hS (fun w' hb' => ?_) ?_
              rotate_left
              · (try go_simp); (try with_reducible rfl)
              try simp only [Act.put, List.setIfInBounds_toArray, List.set_cons_zero, List.set_cons_succ]
              refine gs_done (by kernel_rfl) ?_
              refine ⟨rfl, wc.heap.size, ?_, ?_, hS, hcs⟩
              · simp only [List.foldl_cons, List.foldl_nil, Act.put, List.setIfInBounds_toArray, List.set_cons_zero, List.set_cons_succ]
              · first | exact heap_alloc_new wc (.cells #[.string (str xa.key), .int .i64 xa.v.k, .int .i64 xa.v.i, .string (str xa.v.s), .int .i64 xa.ver] 53) | (simp only [drew_heapE]; exact heap_alloc_new wc (.cells #[.string (str xa.key), .int .i64 xa.v.k, .int .i64 xa.v.i, .string (str xa.v.s), .int .i64 xa.ver] 53))
            · skip
              go_simp
              have hS2 := hS.alloc hS.size (.cells #[.string (str []), .int .i64 0, .int .i64 0, .string (str []), .int .i64 0] 53)
              have qz := heap_alloc_new wr (.cells #[.string (str []), .int .i64 0, .int .i64 0, .string (str []), .int .i64 0] 53)
              refine hK _ _ ⟨hS2, ?_⟩
              clear hK K hS
              have hS := hS2
              clear hS2
              try simp only [Act.put, List.setIfInBounds_toArray, List.set_cons_zero, List.set_cons_succ]
              refine gs_run (i := 7) rfl (by kernel_rfl) (by rfl) (fun K hK => ?_)
              go_simp
              refine (GA2.out _ (chain BWR.out hS)).mono ?_
              rintro e wc ⟨rfl, g⟩
              have qz := (g.block _ (lt_of_block qz)).trans qz
              have hS2 := hS.trans (g.mono hS.size)
              have hcs := hS2.size
              have hG := hS2
              refine hK _ _ ⟨hS2, ?_⟩
              clear hK K g hS
              have hS := hS2
              clear hS2
              try simp only [Act.put, List.setIfInBounds_toArray, List.set_cons_zero, List.set_cons_succ]
              refine gs_take (i := 8) (d := (some 39)) (v := ?_) rfl rfl (by kernel_rfl) MidP.no (by rfl) hS (fun w' hb' => ?_) ?_
              rotate_left
              · (try go_simp); (try with_reducible rfl)
              try simp only [Act.put, List.setIfInBounds_toArray, List.set_cons_zero, List.set_cons_succ]
              refine gs_take (i := 9) (d := (some 48)) (v := ?_) rfl rfl (by kernel_rfl) MidP.no (by rfl) hS (fun w' hb' => ?_) ?_
              rotate_left
              · (try go_simp); (try with_reducible rfl)
              try simp only [Act.put, List.setIfInBounds_toArray, List.set_cons_zero, List.set_cons_succ]
              refine gs_take (i := 10) (d := (some 49)) (v := ?_) rfl rfl (by kernel_rfl) MidP.no (by rfl) hS (fun w' hb' => ?_) ?_
              rotate_left
              · (try go_simp); (try with_reducible rfl)
              try simp only [Act.put, List.setIfInBounds_toArray, List.set_cons_zero, List.set_cons_succ]
              refine gs_run (i := 12) rfl (by kernel_rfl) (by rfl) (fun K hK => ?_)
              have z0 := block_cell qz 0
              have z1 := block_cell qz 1
              have z2 := block_cell qz 2
              have z3 := block_cell qz 3
              have z4 := block_cell qz 4
              have zf := fun i => block_frozen qz i
              go_simp
              refine hK _ _ (and_keep (((((hS.setCell (p := ⟨wr.heap.size, 0, none⟩) (Nat.le_refl _) (.string (str xa.key))).setCell (p := ⟨wr.heap.size, 1, none⟩) (Nat.le_refl _) (.int .i64 xa.v.k)).setCell (p := ⟨wr.heap.size, 2, none⟩) (Nat.le_refl _) (.int .i64 xa.v.i)).setCell (p := ⟨wr.heap.size, 3, none⟩) (Nat.le_refl _) (.string (str xa.v.s))).setCell (p := ⟨wr.heap.size, 4, none⟩) (Nat.le_refl _) (.int .i64 xa.ver)) fun hS2 => ?_)
              clear hK K hS z0 z1 z2 z3 z4 zf
              have hS := hS2
              clear hS2
              try simp only [Act.put, List.setIfInBounds_toArray, List.set_cons_zero, List.set_cons_succ]
              refine gs_take (i := 13) (d := (some 11)) (v := ?_) rfl rfl (by kernel_rfl) MidP.no (by rfl) hS (fun w' hb' => ?_) ?_
              rotate_left
              · (try go_simp); (try with_reducible rfl)
              try simp only [Act.put, List.setIfInBounds_toArray, List.set_cons_zero, List.set_cons_succ]
              refine gs_done (by kernel_rfl) ?_
              refine ⟨rfl, wr.heap.size, ?_, ?_, hS, Nat.le_refl _⟩
              · simp only [List.foldl_cons, List.foldl_nil, Act.put, List.setIfInBounds_toArray, List.set_cons_zero, List.set_cons_succ]
              · first | exact (set_at (i := 4) (u := .int .i64 xa.ver) (set_at (i := 3) (u := .string (str xa.v.s)) (set_at (i := 2) (u := .int .i64 xa.v.i) (set_at (i := 1) (u := .int .i64 xa.v.k) (set_at (i := 0) (u := .string (str xa.key)) qz))))) | (simp only [drew_heapE]; exact (set_at (i := 4) (u := .int .i64 xa.ver) (set_at (i := 3) (u := .string (str xa.v.s)) (set_at (i := 2) (u := .int .i64 xa.v.i) (set_at (i := 1) (u := .int .i64 xa.v.k) (set_at (i := 0) (u := .string (str xa.key)) qz))))))
          rintro Ba wa ⟨qa, ga, la⟩
          simp only [List.foldl_cons, List.foldl_nil, Act.put, List.setIfInBounds_toArray, List.set_cons_zero, List.set_cons_succ]
          replace q2 := (ga.block _ (lt_of_block q2)).trans q2
          replace c0 := (ga.cell (p := ⟨b, off + k * 5, none⟩) hb).trans c0
          replace hb := Nat.lt_of_lt_of_le hb ga.size
          replace BWR := Lib.hid (chain BWR.out ga)
          go_wp2_with fail
          refine region_puts (fun B9 : Nat => [(some 51, .pointer (some ⟨w.heap.size + 1, 0, none⟩)), (some 52, .agg (tC cb)), (some 53, .slice (some ⟨b, off, none⟩) K.length ck), (some 54, .int .i64 (k : Int)), (some 55, .pointer (some ⟨b, off + k * 5, none⟩)), (some 56, .pointer (some ⟨b, off + k * 5, none⟩)), (some 57, .string (str x.key)), (some 58, .tuple #[.agg #[.string (str xb.key), .int .i64 xb.v.k, .int .i64 xb.v.i, .string (str xb.v.s), .int .i64 xb.ver], .bool bb]), (some 50, .tuple #[.agg #[.string (str xb.key), .int .i64 xb.v.k, .int .i64 xb.v.i, .string (str xb.v.s), .int .i64 xb.ver], .bool bb]), (some 59, .agg #[.string (str xb.key), .int .i64 xb.v.k, .int .i64 xb.v.i, .string (str xb.v.s), .int .i64 xb.ver]), (some 60, .bool bb), (some 12, .pointer (some ⟨B9, 0, none⟩)), (some 13, .bool bb)]) (fun B9 y => y.heap[B9]? = some (.cells #[.string (str xb.key), .int .i64 xb.v.k, .int .i64 xb.v.i, .string (str xb.v.s), .int .i64 xb.ver] 53 (0, 0)) ∧ Below wa.heap.size wa y ∧ wa.heap.size ≤ B9) ?_ ?_
          · have hS : Below wa.heap.size wa wa.drew := (Below.refl _ _).drew
            refine gs_start (S := (fun W => Below wa.heap.size wa W)) (by kernel_rfl) ?_
            refine gs_take (i := 0) (d := (some 51)) (v := ?_) rfl rfl (by kernel_rfl) MidP.no (by rfl) hS (fun w' hb' => ?_) ?_
            rotate_left
            · (try go_simp); (try with_reducible rfl)
            try simp only [Act.put, List.setIfInBounds_toArray, List.set_cons_zero, List.set_cons_succ]
            refine gs_take (i := 1) (d := (some 52)) (v := ?_) rfl rfl (by kernel_rfl) MidP.no (by rfl) hS (fun w' hb' => ?_) ?_
            rotate_left
            · (refine load_partO_op _ _ (.tmp 51) ?_ ?_ (tC_range ((hb'.block _ (lt_of_block q2)).trans q2)) Tryd.underlying26 ?_ (tC_infoA hsb) <;> rfl); (try go_simp); (try with_reducible rfl)
            try simp only [Act.put, List.setIfInBounds_toArray, List.set_cons_zero, List.set_cons_succ]
            refine gs_take (i := 2) (d := (some 53)) (v := ?_) rfl rfl (by kernel_rfl) MidP.no (by rfl) hS (fun w' hb' => ?_) ?_
            rotate_left
            · (try go_simp); (try with_reducible rfl)
            try simp only [Act.put, List.setIfInBounds_toArray, List.set_cons_zero, List.set_cons_succ]
            refine gs_take (i := 3) (d := (some 54)) (v := ?_) rfl rfl (by kernel_rfl) MidP.no (by rfl) hS (fun w' hb' => ?_) ?_
            rotate_left
            · (try go_simp); (try with_reducible rfl)
            try simp only [Act.put, List.setIfInBounds_toArray, List.set_cons_zero, List.set_cons_succ]
            refine gs_take (i := 4) (d := (some 55)) (v := ?_) rfl rfl (by kernel_rfl) MidP.no (by rfl) hS (fun w' hb' => ?_) ?_
            rotate_left
            · (try go_simp); (try with_reducible rfl)
            try simp only [Act.put, List.setIfInBounds_toArray, List.set_cons_zero, List.set_cons_succ]
            refine gs_take (i := 5) (d := (some 56)) (v := ?_) rfl rfl (by kernel_rfl) MidP.no (by rfl) hS (fun w' hb' => ?_) ?_
            rotate_left
            · (try go_simp); (try with_reducible rfl)
            try simp only [Act.put, List.setIfInBounds_toArray, List.set_cons_zero, List.set_cons_succ]
            refine gs_take (i := 6) (d := (some 57)) (v := ?_) rfl rfl (by kernel_rfl) MidP.no (by rfl) hS (fun w' hb' => ?_) ?_
            rotate_left
            · have zz := (hb'.cell (p := ⟨b, off + k * 5, none⟩) hb).trans c0; (try go_simp); (try with_reducible rfl)
            try simp only [Act.put, List.setIfInBounds_toArray, List.set_cons_zero, List.set_cons_succ]
            refine gs_run2 (i := 7) (k := 11) rfl rfl (by kernel_rfl) (by rfl) (by rfl) (fun K hK => ?_) (fun K hK => ?_)
            · skip
              go_simp
              refine (GB2.out _ (chain BWR.out hS)).mono ?_
              rintro e wc ⟨rfl, g⟩
              have hS2 := hS.trans (g.mono hS.size)
              have hcs := hS2.size
              have hG := hS2
              refine hK _ _ ⟨hS2, ?_⟩
              clear hK K g hS
              have hS := hS2
              clear hS2
              try simp only [Act.put, List.setIfInBounds_toArray, List.set_cons_zero, List.set_cons_succ]
              refine gs_take (i := 8) (d := (some 50)) (v := ?_) rfl rfl (by kernel_rfl) MidP.no (by rfl) hS (fun w' hb' => ?_) ?_
              rotate_left
              · (try go_simp); (try with_reducible rfl)
              try simp only [Act.put, List.setIfInBounds_toArray, List.set_cons_zero, List.set_cons_succ]
              refine gs_take (i := 9) (d := (some 59)) (v := ?_) rfl rfl (by kernel_rfl) MidP.no (by rfl) hS (fun w' hb' => ?_) ?_
              rotate_left
              · (try go_simp); (try with_reducible rfl)
              try simp only [Act.put, List.setIfInBounds_toArray, List.set_cons_zero, List.set_cons_succ]
              refine gs_take (i := 10) (d := (some 60)) (v := ?_) rfl rfl (by kernel_rfl) MidP.no (by rfl) hS (fun w' hb' => ?_) ?_
              rotate_left
              · (try go_simp); (try with_reducible rfl)
              try simp only [Act.put, List.setIfInBounds_toArray, List.set_cons_zero, List.set_cons_succ]
              refine gs_run (i := 11) rfl (by kernel_rfl) (by rfl) (fun K hK => ?_)
              go_simp
              have hS2 := hS.alloc hS.size (.cells #[.string (str []), .int .i64 0, .int .i64 0, .string (str []), .int .i64 0] 53)
              have qz := heap_alloc_new wc (.cells #[.string (str []), .int .i64 0, .int .i64 0, .string (str []), .int .i64 0] 53)
              refine hK _ _ ⟨hS2, ?_⟩
              clear hK K hS
              have hS := hS2
              clear hS2
              try simp only [Act.put, List.setIfInBounds_toArray, List.set_cons_zero, List.set_cons_succ]
              refine gs_run (i := 12) rfl (by kernel_rfl) (by rfl) (fun K hK => ?_)
              go_simp
              refine hK _ _ (and_keep (hG.alloc hG.size _) fun hS2 => ?_)
              clear hK K hS
              have hS := hS2
              clear hS2
              try simp only [Act.put, List.setIfInBounds_toArray, List.set_cons_zero, List.set_cons_succ]
              refine gs_take (i := 13) (d := (some 13)) (v := ?_) rfl rfl (by kernel_rfl) MidP.no (by rfl) hS (fun w' hb' => ?_) ?_
              rotate_left
              · (try go_simp); (try with_reducible rfl)
              try simp only [Act.put, List.setIfInBounds_toArray, List.set_cons_zero, List.set_cons_succ]
              refine gs_done (by kernel_rfl) ?_
              refine ⟨rfl, wc.heap.size, ?_, ?_, hS, hcs⟩
              · simp only [List.foldl_cons, List.foldl_nil, Act.put, List.setIfInBounds_toArray, List.set_cons_zero, List.set_cons_succ]
              · first | exact heap_alloc_new wc (.cells #[.string (str xb.key), .int .i64 xb.v.k, .int .i64 xb.v.i, .string (str xb.v.s), .int .i64 xb.ver] 53) | (simp only [drew_heapE]; exact heap_alloc_new wc (.cells #[.string (str xb.key), .int .i64 xb.v.k, .int .i64 xb.v.i, .string (str xb.v.s), .int .i64 xb.ver] 53))
            · skip
              go_simp
              have hS2 := hS.alloc hS.size (.cells #[.string (str []), .int .i64 0, .int .i64 0, .string (str []), .int .i64 0] 53)
              have qz := heap_alloc_new wa (.cells #[.string (str []), .int .i64 0, .int .i64 0, .string (str []), .int .i64 0] 53)
              refine hK _ _ ⟨hS2, ?_⟩
              clear hK K hS
              have hS := hS2
              clear hS2
              try simp only [Act.put, List.setIfInBounds_toArray, List.set_cons_zero, List.set_cons_succ]
              refine gs_run (i := 7) rfl (by kernel_rfl) (by rfl) (fun K hK => ?_)
              go_simp
              refine (GB2.out _ (chain BWR.out hS)).mono ?_
              rintro e wc ⟨rfl, g⟩
              have qz := (g.block _ (lt_of_block qz)).trans qz
              have hS2 := hS.trans (g.mono hS.size)
              have hcs := hS2.size
              have hG := hS2
              refine hK _ _ ⟨hS2, ?_⟩
              clear hK K g hS
              have hS := hS2
              clear hS2
              try simp only [Act.put, List.setIfInBounds_toArray, List.set_cons_zero, List.set_cons_succ]
              refine gs_take (i := 8) (d := (some 50)) (v := ?_) rfl rfl (by kernel_rfl) MidP.no (by rfl) hS (fun w' hb' => ?_) ?_
              rotate_left
              · (try go_simp); (try with_reducible rfl)
              try simp only [Act.put, List.setIfInBounds_toArray, List.set_cons_zero, List.set_cons_succ]
              refine gs_take (i := 9) (d := (some 59)) (v := ?_) rfl rfl (by kernel_rfl) MidP.no (by rfl) hS (fun w' hb' => ?_) ?_
              rotate_left
              · (try go_simp); (try with_reducible rfl)
              try simp only [Act.put, List.setIfInBounds_toArray, List.set_cons_zero, List.set_cons_succ]
              refine gs_take (i := 10) (d := (some 60)) (v := ?_) rfl rfl (by kernel_rfl) MidP.no (by rfl) hS (fun w' hb' => ?_) ?_
              rotate_left
              · (try go_simp); (try with_reducible rfl)
              try simp only [Act.put, List.setIfInBounds_toArray, List.set_cons_zero, List.set_cons_succ]
              refine gs_run (i := 12) rfl (by kernel_rfl) (by rfl) (fun K hK => ?_)
              have z0 := block_cell qz 0
              have z1 := block_cell qz 1
              have z2 := block_cell qz 2
              have z3 := block_cell qz 3
              have z4 := block_cell qz 4
              have zf := fun i => block_frozen qz i
              go_simp
              refine hK _ _ (and_keep (((((hS.setCell (p := ⟨wa.heap.size, 0, none⟩) (Nat.le_refl _) (.string (str xb.key))).setCell (p := ⟨wa.heap.size, 1, none⟩) (Nat.le_refl _) (.int .i64 xb.v.k)).setCell (p := ⟨wa.heap.size, 2, none⟩) (Nat.le_refl _) (.int .i64 xb.v.i)).setCell (p := ⟨wa.heap.size, 3, none⟩) (Nat.le_refl _) (.string (str xb.v.s))).setCell (p := ⟨wa.heap.size, 4, none⟩) (Nat.le_refl _) (.int .i64 xb.ver)) fun hS2 => ?_)
              clear hK K hS z0 z1 z2 z3 z4 zf
              have hS := hS2
              clear hS2
              try simp only [Act.put, List.setIfInBounds_toArray, List.set_cons_zero, List.set_cons_succ]
              refine gs_take (i := 13) (d := (some 13)) (v := ?_) rfl rfl (by kernel_rfl) MidP.no (by rfl) hS (fun w' hb' => ?_) ?_
              rotate_left
              · (try go_simp); (try with_reducible rfl)
              try simp only [Act.put, List.setIfInBounds_toArray, List.set_cons_zero, List.set_cons_succ]
              refine gs_done (by kernel_rfl) ?_
              refine ⟨rfl, wa.heap.size, ?_, ?_, hS, Nat.le_refl _⟩
              · simp only [List.foldl_cons, List.foldl_nil, Act.put, List.setIfInBounds_toArray, List.set_cons_zero, List.set_cons_succ]
              · first | exact (set_at (i := 4) (u := .int .i64 xb.ver) (set_at (i := 3) (u := .string (str xb.v.s)) (set_at (i := 2) (u := .int .i64 xb.v.i) (set_at (i := 1) (u := .int .i64 xb.v.k) (set_at (i := 0) (u := .string (str xb.key)) qz))))) | (simp only [drew_heapE]; exact (set_at (i := 4) (u := .int .i64 xb.ver) (set_at (i := 3) (u := .string (str xb.v.s)) (set_at (i := 2) (u := .int .i64 xb.v.i) (set_at (i := 1) (u := .int .i64 xb.v.k) (set_at (i := 0) (u := .string (str xb.key)) qz))))))
          rintro Bb wb ⟨qb, gb, lb⟩
          simp only [List.foldl_cons, List.foldl_nil, Act.put, List.setIfInBounds_toArray, List.set_cons_zero, List.set_cons_succ]
          have qa := (gb.block _ (lt_of_block qa)).trans qa
          have hS := chain ga gb
          have a1 := block_cell qa 1
          have a2 := block_cell qa 2
          have a3 := block_cell qa 3
          have b1 := block_cell qb 1
          have b2 := block_cell qb 2
          have b3 := block_cell qb 3
          have hb2 : b < wb.heap.size := Nat.lt_of_lt_of_le hb gb.size
          have d0 := (gb.cell (p := ⟨b, off + k * 5, none⟩) hb).trans c0
          have own := own_keep own hS
          have BLN := Lib.hid (chain BL.out hS)
          have hab : wl.heap.size ≤ wb.heap.size := BLN.out.size
          clear c0 hb q1 q2 ga gb la lb hS BL BWR
          cases hv : vB xa.v xb.v with
          | true =>
            have HV := Lib.hid (show vB xa.v xb.v = !false from hv)
            have HN := Lib.hid (show acc = (K.take (k + 1)).flatMap (edR s.lv t.lv) by rw [HKS.out, HED.out, if_pos hv]; simp)
            clear hv
            go_wp2_with ((with_reducible refine wpList_run (o := ⟨some 65, _, _, _, _, _⟩) rfl (.bool false) (valE_neq_op _ _ (.tmp 62) (.tmp 64) 43 xa.v xb.v false HV.out rfl rfl rfl _) ?_))
            exact ⟨⟨k + 1, acc, by omega, by push_cast; rfl, own, HN, Lib.hid (by have := HAL.out; omega), BLN⟩, by simp [intOf]; omega⟩
          | false =>
            have HV := Lib.hid (show vB xa.v xb.v = !true from hv)
            have HN := Lib.hid (show acc ++ [⟨x.key, xa.v⟩] = (K.take (k + 1)).flatMap (edR s.lv t.lv) by rw [HKS.out, HED.out, if_neg (by rw [hv]; decide)])
            clear hv
            go_wp2_with ((with_reducible refine wpList_run (o := ⟨some 65, _, _, _, _, _⟩) rfl (.bool true) (valE_neq_op _ _ (.tmp 62) (.tmp 64) 43 xa.v xb.v true HV.out rfl rfl rfl _) ?_))
            clear b1 b2 b3
            simp only [Act.put, List.setIfInBounds_toArray, List.set_cons_zero, List.set_cons_succ]
            have lBa := lt_of_block qa
            refine t_start 10 (by kernel_rfl) ?_
            refine t_take (i := 0) (d := (some 66)) (v := ?_) rfl rfl (by kernel_rfl) (fun _ _ _ h => h) (by rfl) (fun w' hb' => ?_) ?_
            rotate_left
            · (try go_simp); (try with_reducible rfl)
            try simp only [Act.put, List.setIfInBounds_toArray, List.set_cons_zero, List.set_cons_succ]
            refine t_take (i := 1) (d := (some 67)) (v := ?_) rfl rfl (by kernel_rfl) (fun _ _ _ h => h) (by rfl) (fun w' hb' => ?_) ?_
            rotate_left
            · (try go_simp); (try with_reducible rfl)
            try simp only [Act.put, List.setIfInBounds_toArray, List.set_cons_zero, List.set_cons_succ]
            refine t_take (i := 2) (d := (some 68)) (v := ?_) rfl rfl (by kernel_rfl) (fun _ _ _ h => h) (by rfl) (fun w' hb' => ?_) ?_
            rotate_left
            · (try go_simp); (try with_reducible rfl)
            try simp only [Act.put, List.setIfInBounds_toArray, List.set_cons_zero, List.set_cons_succ]
            refine t_take (i := 3) (d := (some 69)) (v := ?_) rfl rfl (by kernel_rfl) (fun _ _ _ h => h) (by rfl) (fun w' hb' => ?_) ?_
            rotate_left
            · (try go_simp); (try with_reducible rfl)
            try simp only [Act.put, List.setIfInBounds_toArray, List.set_cons_zero, List.set_cons_succ]
            refine t_take (i := 4) (d := (some 70)) (v := ?_) rfl rfl (by kernel_rfl) (fun _ _ _ h => h) (by rfl) (fun w' hb' => ?_) ?_
            rotate_left
            · (try go_simp); (try with_reducible rfl)
            try simp only [Act.put, List.setIfInBounds_toArray, List.set_cons_zero, List.set_cons_succ]
            refine t_take (i := 5) (d := (some 71)) (v := ?_) rfl rfl (by kernel_rfl) (fun _ _ _ h => h) (by rfl) (fun w' hb' => ?_) ?_
            rotate_left
            · have zz := (hb'.cell (p := ⟨b, off + k * 5, none⟩) hb2).trans d0; (try go_simp); (try with_reducible rfl)
            try simp only [Act.put, List.setIfInBounds_toArray, List.set_cons_zero, List.set_cons_succ]
            refine t_take (i := 6) (d := (some 72)) (v := ?_) rfl rfl (by kernel_rfl) (fun _ _ _ h => h) (by rfl) (fun w' hb' => ?_) ?_
            rotate_left
            · (try go_simp); (try with_reducible rfl)
            try simp only [Act.put, List.setIfInBounds_toArray, List.set_cons_zero, List.set_cons_succ]
            refine t_take (i := 7) (d := (some 73)) (v := ?_) rfl rfl (by kernel_rfl) (fun _ _ _ h => h) (by rfl) (fun w' hb' => ?_) ?_
            rotate_left
            · have z1 := (hb'.cell (p := ⟨Ba, 1, none⟩) lBa).trans a1; have z2 := (hb'.cell (p := ⟨Ba, 2, none⟩) lBa).trans a2; have z3 := (hb'.cell (p := ⟨Ba, 3, none⟩) lBa).trans a3; (try go_simp); (try with_reducible rfl)
            try simp only [Act.put, List.setIfInBounds_toArray, List.set_cons_zero, List.set_cons_succ]
            refine t_run (i := 8) rfl (by kernel_rfl) (by kernel_rfl) (by rfl) (fun K hK => ?_)
            go_simp
            refine hK _ _ ⟨Below.refl _ _, ?_⟩
            clear hK K
            try simp only [Act.put, List.setIfInBounds_toArray, List.set_cons_zero, List.set_cons_succ]
            refine t_run (i := 9) rfl (by kernel_rfl) (by kernel_rfl) (by rfl) (fun K hK => ?_)
            go_simp
            have bA := ((Below.refl wb.heap.size wb).alloc (Nat.le_refl _) (.cells #[.string (str x.key), .int .i64 xa.v.k, .int .i64 xa.v.i, .string (str xa.v.s)] 68)).drew
            have q8 := heap_alloc_new wb (.cells #[.string (str x.key), .int .i64 xa.v.k, .int .i64 xa.v.i, .string (str xa.v.s)] 68)
            have ownA := own_keep own bA
            refine hK _ _ ⟨drew_both ((Below.refl wb.heap.size wb).alloc (Nat.le_refl _) (.cells #[.string (str x.key), .int .i64 xa.v.k, .int .i64 xa.v.i, .string (str xa.v.s)] 68)), ?_⟩
            clear hK K
            try simp only [Act.put, List.setIfInBounds_toArray, List.set_cons_zero, List.set_cons_succ]
            refine t_into ?_
            refine t_tail (i := 10) rfl (by kernel_rfl) (by kernel_rfl) (by rfl) (fun K hK => ?_)
            obtain ⟨v9, W9, hrun, own9, gr⟩ := app_ed _ _ _ _ ownA _ (⟨x.key, xa.v⟩ : Ed) q8 (by have := bA.size; omega) (by have := HAL.out; omega)
            have BN9 := Lib.hid (grown_below (BLN.out.trans (bA.mono hab)) (Nat.le_refl _) ownA gr)
            obtain ⟨vo, vn, vc, rfl⟩ := own_slice own9
            refine op_append (.tmp 66) (.tmp 75) 57 57 rfl rfl _ _ (.slice vo vn vc) W9 rfl rfl hrun ?_
            refine hK _ _ ?_
            clear hK K hrun gr ownA
            try simp only [Act.put, List.setIfInBounds_toArray, List.set_cons_zero, List.set_cons_succ]
            refine t_tail (i := 11) rfl (by kernel_rfl) (by kernel_rfl) (by rfl) (fun K hK => ?_)
            go_simp
            refine hK _ _ ?_
            clear hK K
            try simp only [Act.put, List.setIfInBounds_toArray, List.set_cons_zero, List.set_cons_succ]
            refine t_over (by kernel_rfl) ?_
            go_wp2_with fail
            exact ⟨⟨k + 1, acc ++ [⟨x.key, xa.v⟩], by omega, by push_cast; rfl, own9, HN, Lib.hid (by have := HAL.out; simp; omega), BN9⟩, by simp [intOf]; omega⟩
        · obtain rfl : k = K.length := by omega
          have HF := Lib.hid (show acc = UL by rw [HA.out, List.take_length]; exact HKF.out)
          have hBs := BW.out.size
          have OW := Lib.hid (own_base own hBs)
          have BF := Lib.hid (BW.out.trans (BL.out.mono hBs))
          clear own
          go_wp2_with fail
          show Z _ _
          rw [HZ.out, ← HF.out]
          exact ⟨_, rfl, OW.out, BF.out⟩
end Go.Proofs.YtbdfcgffkonbiaaDoor
