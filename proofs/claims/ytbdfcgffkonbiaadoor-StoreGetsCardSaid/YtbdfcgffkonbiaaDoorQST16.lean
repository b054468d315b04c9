/- Trunks: Put and Delete. Written by wip/tools/gen10f.py. -/
import Derived.Test.YtbdfcgffkonbiaaDoorQST15
namespace Go.Proofs.YtbdfcgffkonbiaaDoor
open Go Go.RowKit
set_option linter.unusedVariables false
set_option linter.unusedSimpArgs false
theorem allocs3 (w : World) (a b c : Obj) :
    (((w.alloc a).alloc b).alloc c).heap[w.heap.size]? = some a ∧ (((w.alloc a).alloc b).alloc c).heap[w.heap.size + 1]? = some b ∧ (((w.alloc a).alloc b).alloc c).heap[w.heap.size + 2]? = some c ∧ (((w.alloc a).alloc b).alloc c).heap.size = w.heap.size + 3 := by
  have z2 : ((w.alloc a).alloc b).heap.size = w.heap.size + 2 := by simp
  obtain ⟨h1, h2, -, -⟩ := two_allocs w a b
  refine ⟨?_, ?_, ?_, by simp⟩
  · rw [heap_alloc_old _ _ (by omega), h1]
  · rw [heap_alloc_old _ _ (by omega), h2]
  · rw [← z2, heap_alloc_new]
theorem allocs4 (w : World) (a b c d : Obj) :
    ((((w.alloc a).alloc b).alloc c).alloc d).heap[w.heap.size]? = some a ∧ ((((w.alloc a).alloc b).alloc c).alloc d).heap[w.heap.size + 1]? = some b ∧ ((((w.alloc a).alloc b).alloc c).alloc d).heap[w.heap.size + 2]? = some c ∧ ((((w.alloc a).alloc b).alloc c).alloc d).heap[w.heap.size + 3]? = some d ∧ ((((w.alloc a).alloc b).alloc c).alloc d).heap.size = w.heap.size + 4 := by
  obtain ⟨h1, h2, h3, h4⟩ := allocs3 w a b c
  refine ⟨?_, ?_, ?_, ?_, by simp⟩
  · rw [heap_alloc_old _ _ (by omega), h1]
  · rw [heap_alloc_old _ _ (by omega), h2]
  · rw [heap_alloc_old _ _ (by omega), h3]
  · rw [← h4, heap_alloc_new]
def PutP (w : World) (cs : Array Value) (lv : Nat → List It) (vs : Nat → Int) (x : It) : Ending → World → Prop := if putTE lv vs x = 0 then TrO w cs (bkN x.key) (withL (lv (bkN x.key)) x) x.ver else TrZ w (putTE lv vs x)
theorem put_nest (w : World) (cs : Array Value) (lv : Nat → List It) (vs : Nat → Int) (x : It) :
    (if mayTs lv vs 16 = true then (if isB x.key = true then (if putC lv vs (bkN x.key) x = 0 then TrO w cs (bkN x.key) (putR (lv (bkN x.key)) x) x.ver else TrZ w (putC lv vs (bkN x.key) x)) else TrZ w 1) else TrZ w 1) = PutP w cs lv vs x := by
  by_cases h1 : mayTs lv vs 16 = true
  · by_cases h2 : isB x.key = true
    · have e : putTE lv vs x = putC lv vs (bkN x.key) x := by unfold putTE; rw [if_pos ⟨h1, h2⟩]; rfl
      rw [if_pos h1, if_pos h2]
      unfold PutP
      rw [e]
      by_cases h3 : putC lv vs (bkN x.key) x = 0
      · rw [if_pos h3, if_pos h3]
        have h4 : putE (lv (bkN x.key)) x = 0 := by
          unfold putC at h3
          split at h3
          · cases h3
          · exact h3
        unfold putR; rw [if_pos h4]
      · rw [if_neg h3, if_neg h3]
    · have e : putTE lv vs x = 1 := by unfold putTE; rw [if_neg (fun h => h2 h.2)]
      rw [if_pos h1, if_neg h2]; unfold PutP; rw [e, if_neg (by decide)]
  · have e : putTE lv vs x = 1 := by unfold putTE; rw [if_neg (fun h => h1 h.1)]
    rw [if_neg h1]; unfold PutP; rw [e, if_neg (by decide)]
def DelP (w : World) (cs : Array Value) (lv : Nat → List It) (vs : Nat → Int) (k : List UInt8) (ver : Int) : Ending → World → Prop := if delTE lv vs k ver = 0 then TrO w cs (bkN k) (withoutL (lv (bkN k)) k) ver else TrZ w (delTE lv vs k ver)
theorem del_nest (w : World) (cs : Array Value) (lv : Nat → List It) (vs : Nat → Int) (k : List UInt8) (ver : Int) (hv : verB ver = true) :
    (if mayTs lv vs 16 = true then (if isB k = true then (if delC lv vs (bkN k) k ver = 0 then TrO w cs (bkN k) (delR (lv (bkN k)) k) ver else TrZ w (delC lv vs (bkN k) k ver)) else TrZ w 6) else TrZ w 1) = DelP w cs lv vs k ver := by
  by_cases h1 : mayTs lv vs 16 = true
  · by_cases h2 : isB k = true
    · have e : delTE lv vs k ver = delC lv vs (bkN k) k ver := by unfold delTE; rw [if_neg (by simp [hv, h1]), if_neg (by simp [h2])]; rfl
      rw [if_pos h1, if_pos h2]
      unfold DelP
      rw [e]
      by_cases h3 : delC lv vs (bkN k) k ver = 0
      · rw [if_pos h3, if_pos h3]
        have h4 : delE (lv (bkN k)) k = 0 := by
          unfold delC at h3
          split at h3
          · cases h3
          · exact h3
        unfold delR; rw [if_pos h4]
      · rw [if_neg h3, if_neg h3]
    · have e : delTE lv vs k ver = 6 := by unfold delTE; rw [if_neg (by simp [hv, h1]), if_pos (by simpa using h2)]
      rw [if_pos h1, if_neg h2]; unfold DelP; rw [e, if_neg (by decide)]
  · have e : delTE lv vs k ver = 1 := by unfold delTE; rw [if_pos (.inr (by simpa using h1))]
    rw [if_neg h1]; unfold DelP; rw [e, if_neg (by decide)]
set_option maxRecDepth 100000 in
set_option maxHeartbeats 2000000 in
theorem tput_any (cs : Array Value) (lv : Nat → List It) (vs : Nat → Int) (x : It) (w : World) (tab : TabAt w) (h : RdT w cs lv vs) (hsz : SzT lv) (hxk : x.key.length ≤ maxLen) (hxs : x.v.s.length ≤ maxLen) :
    Calls Tryd.prog 104 #[.agg cs, itV x] w (PutP w cs lv vs x) := by
  have hs := infoTc h.size
  have HT := Lib.hid h
  have z0 := zeroT_run
  have z1 := zT_ne
  obtain ⟨q2, q3, q4, zs⟩ := allocs3 w (.cells cs 26) (.cells #[.string (str x.key), .int .i64 x.v.k, .int .i64 x.v.i, .string (str x.v.s), .int .i64 x.ver] 53 ) (.cells zT 26)
  have bel : Below w.heap.size w (((w.alloc (.cells cs 26)).alloc (.cells #[.string (str x.key), .int .i64 x.v.k, .int .i64 x.v.i, .string (str x.v.s), .int .i64 x.ver] 53 )).alloc (.cells zT 26)) := (((Below.refl _ w).alloc (Nat.le_refl _) _).alloc (by simp) _).alloc (by simp; omega) _
  have T0 := tab.below bel
  have W0 := with_put cs lv vs x.key 1 w.heap.size (w.heap.size + 1) (putR (lv (bkN x.key)) x) x.ver (putC lv vs (bkN x.key) x) _ T0 (h.below bel (Nat.le_refl _)) hsz hxk
    (fun _ _ W g => put1_any x w.heap.size (w.heap.size + 1) (bkN x.key) (bkN_lt _) cs lv vs W (T0.below g) ((h.below bel (Nat.le_refl _)).below g (Nat.le_refl _)) hsz ((g.block _ (lt_of_block q2)).trans q2) ((g.block _ (lt_of_block q3)).trans q3) hxk hxs)
  rw [put_nest] at W0
  obtain ⟨Z, hZ⟩ : ∃ Z, Z = PutP w cs lv vs x := ⟨_, rfl⟩
  rw [← hZ]
  unfold PutP at hZ W0
  unfold itV
  by_cases hc : putTE lv vs x = 0
  · rw [if_pos hc] at hZ W0
    have HW := Lib.hid W0
    have HZ := Lib.hid hZ
    clear hZ W0 hc h hsz tab T0
    go_enter Tryd.func104, Tryd.ntmps104
    go_wp2_with (with_reducible refine wpList_load_row (o := ⟨some 6, _, _, _, _, _⟩) rfl 26 (.tmp 2) rfl _ rfl _ cs (0, 0) _ q2 Tryd.underlying26 rfl hs ?_)
    refine (HW.out).mono ?_
    rintro e w1 ⟨u, rfl, own, g⟩
    replace q4 := (g.block _ (lt_of_block q4)).trans q4
    replace bel := chain bel g
    clear g
    obtain ⟨CS, hCS⟩ : ∃ CS, CS = (cs.setIfInBounds (bkN x.key) u).setIfInBounds (16 + (bkN x.key)) (.int .i64 x.ver) := ⟨_, rfl⟩
    rw [← hCS]
    have RT := (HT.out.below bel (Nat.le_refl _)).put (b := (bkN x.key)) (bkN_lt _) (v := x.ver) (own_rdk itC_len own)
    rw [← hCS] at RT
    have HC2 := infoTc RT.size
    have hcs2 : zT.size = CS.size := by rw [RT.size]; rfl
    have hone := RT.one
    have q9 := setRow_heap _ _ _ CS _ _ q4
    have own9 := Lib.hid (own_base (b' := w.heap.size) (own_moved (w' := w1.setRow (w.heap.size + 2) CS) own (fun g hg => by rw [setRow_other _ _ _ _ (by omega)])) (by omega))
    have BEL9 := Lib.hid (below_row (g := w.heap.size + 2) bel (by omega) CS)
    have Q9 := Lib.hid q9
    have HCS := Lib.hid hCS
    clear hCS q9 RT own
    go_wp2_with (with_reducible refine wpList_store_row (o := ⟨none, _, _, _, _, _⟩) rfl 26 (.tmp 4) (.tmp 11) rfl _ CS rfl rfl _ zT q4 HC2 hcs2 hone ?_)
    refine bodyPost_ret (v := .tuple #[.agg CS, .int .i64 0]) (results_row_tmp rfl _ _ _ _ CS (0, 0) _ _ rfl rfl Q9.out Tryd.underlying26 rfl HC2) rfl ?_
    rw [HZ.out]; exact ⟨u, by rw [HCS.out], own9.out, BEL9.out⟩
  · rw [if_neg hc] at hZ W0
    obtain ⟨C, hC⟩ : ∃ C, C = putTE lv vs x := ⟨_, rfl⟩
    rw [← hC] at hZ W0
    have HW := Lib.hid W0
    have HZ := Lib.hid hZ
    clear hZ W0 hc h hsz tab T0 hC
    go_enter Tryd.func104, Tryd.ntmps104
    go_wp2_with (with_reducible refine wpList_load_row (o := ⟨some 6, _, _, _, _, _⟩) rfl 26 (.tmp 2) rfl _ rfl _ cs (0, 0) _ q2 Tryd.underlying26 rfl hs ?_)
    refine (HW.out).mono ?_
    rintro e w1 ⟨rfl, g⟩
    replace q4 := (g.block _ (lt_of_block q4)).trans q4
    replace bel := chain bel g
    clear g
    go_wp2_with (with_reducible refine wpList_store_row (o := ⟨none, _, _, _, _, _⟩) rfl 26 (.tmp 4) (.tmp 11) rfl _ zT rfl rfl _ zT q4 (infoTc zT_size) rfl zT_one ?_)
    rw [setRow_self _ _ _ _ _ q4]
    go_wp2_with fail
    refine bodyPost_ret (v := .tuple #[.agg zT, .int .i64 (C : Int)]) (results_row_tmp rfl _ _ _ _ zT (0, 0) _ _ rfl rfl q4 Tryd.underlying26 rfl (infoTc zT_size)) rfl ?_
    rw [HZ.out]; exact ⟨rfl, bel⟩
set_option maxRecDepth 100000 in
set_option maxHeartbeats 2000000 in
theorem tdel_any (cs : Array Value) (lv : Nat → List It) (vs : Nat → Int) (k : List UInt8) (ver : Int) (w : World) (tab : TabAt w) (h : RdT w cs lv vs) (hsz : SzT lv) (hk : k.length ≤ maxLen) :
    Calls Tryd.prog 103 #[.agg cs, .string (str k), .int .i64 ver] w (DelP w cs lv vs k ver) := by
  have hs := infoTc h.size
  have HT := Lib.hid h
  have z0 := zeroT_run
  have z1 := zT_ne
  obtain ⟨q3, q4, q5, q6, zs⟩ := allocs4 w (.cells cs 26) (.cells #[.string (str k)] 9 ) (.cells #[.int .i64 ver] 3 ) (.cells zT 26)
  have bel : Below w.heap.size w ((((w.alloc (.cells cs 26)).alloc (.cells #[.string (str k)] 9 )).alloc (.cells #[.int .i64 ver] 3 )).alloc (.cells zT 26)) := ((((Below.refl _ w).alloc (Nat.le_refl _) _).alloc (by simp) _).alloc (by simp; omega) _).alloc (by simp; omega) _
  have T0 := tab.below bel
  have VR := isVer_any ver
  obtain ⟨Z, hZ⟩ : ∃ Z, Z = DelP w cs lv vs k ver := ⟨_, rfl⟩
  rw [← hZ]
  cases hv : verB ver with
  | false =>
    have e : delTE lv vs k ver = 1 := by unfold delTE; rw [if_pos (.inl hv)]
    unfold DelP at hZ
    rw [e, if_neg (by decide)] at hZ
    rw [hv] at VR
    have VRH := Lib.hid VR
    have HZ := Lib.hid hZ
    clear hZ e hv VR h hsz tab T0
    go_enter Tryd.func103, Tryd.ntmps103
    go_wp2_with fail
    refine (VRH.out _).mono ?_
    rintro e w1 ⟨rfl, rfl⟩
    go_wp2_with (with_reducible refine wpList_store_row (o := ⟨none, _, _, _, _, _⟩) rfl 26 (.tmp 6) (.tmp 11) rfl _ zT rfl rfl _ zT q6 (infoTc zT_size) rfl zT_one ?_)
    rw [setRow_self _ _ _ _ _ q6]
    go_wp2_with fail
    refine bodyPost_ret (v := .tuple #[.agg zT, .int .i64 1]) (results_row_tmp rfl _ _ _ _ zT (0, 0) _ _ rfl rfl q6 Tryd.underlying26 rfl (infoTc zT_size)) rfl ?_
    rw [HZ.out]; exact ⟨rfl, bel⟩
  | true =>
    have W0 := with_del cs lv vs k 6 w.heap.size (w.heap.size + 1) (w.heap.size + 2) (delR (lv (bkN k)) k) ver (delC lv vs (bkN k) k ver) _ T0 (h.below bel (Nat.le_refl _)) hsz hk
      (fun _ _ W g => del1_any k ver w.heap.size (w.heap.size + 1) (w.heap.size + 2) (bkN k) (bkN_lt _) cs lv vs W (T0.below g) ((h.below bel (Nat.le_refl _)).below g (Nat.le_refl _)) hsz ((g.block _ (lt_of_block q3)).trans q3) ((g.block _ (lt_of_block q4)).trans q4) ((g.block _ (lt_of_block q5)).trans q5))
    rw [del_nest _ _ _ _ _ _ hv] at W0
    rw [hv] at VR
    have VRH := Lib.hid VR
    unfold DelP at hZ W0
    clear hv VR
    by_cases hc : delTE lv vs k ver = 0
    · rw [if_pos hc] at hZ W0
      have HW := Lib.hid W0
      have HZ := Lib.hid hZ
      clear hZ W0 hc h hsz tab T0
      go_enter Tryd.func103, Tryd.ntmps103
      go_wp2_with fail
      refine (VRH.out _).mono ?_
      rintro e w1 ⟨rfl, rfl⟩
      go_wp2_with (with_reducible refine wpList_load_row (o := ⟨some 12, _, _, _, _, _⟩) rfl 26 (.tmp 3) rfl _ rfl _ cs (0, 0) _ q3 Tryd.underlying26 rfl hs ?_)
      refine (HW.out).mono ?_
      rintro e w1 ⟨u, rfl, own, g⟩
      replace q6 := (g.block _ (lt_of_block q6)).trans q6
      replace bel := chain bel g
      clear g
      obtain ⟨CS, hCS⟩ : ∃ CS, CS = (cs.setIfInBounds (bkN k) u).setIfInBounds (16 + (bkN k)) (.int .i64 ver) := ⟨_, rfl⟩
      rw [← hCS]
      have RT := (HT.out.below bel (Nat.le_refl _)).put (b := (bkN k)) (bkN_lt _) (v := ver) (own_rdk itC_len own)
      rw [← hCS] at RT
      have HC2 := infoTc RT.size
      have hcs2 : zT.size = CS.size := by rw [RT.size]; rfl
      have hone := RT.one
      have q9 := setRow_heap _ _ _ CS _ _ q6
      have own9 := Lib.hid (own_base (b' := w.heap.size) (own_moved (w' := w1.setRow (w.heap.size + 3) CS) own (fun g hg => by rw [setRow_other _ _ _ _ (by omega)])) (by omega))
      have BEL9 := Lib.hid (below_row (g := w.heap.size + 3) bel (by omega) CS)
      have Q9 := Lib.hid q9
      have HCS := Lib.hid hCS
      clear hCS q9 RT own
      go_wp2_with (with_reducible refine wpList_store_row (o := ⟨none, _, _, _, _, _⟩) rfl 26 (.tmp 6) (.tmp 16) rfl _ CS rfl rfl _ zT q6 HC2 hcs2 hone ?_)
      refine bodyPost_ret (v := .tuple #[.agg CS, .int .i64 0]) (results_row_tmp rfl _ _ _ _ CS (0, 0) _ _ rfl rfl Q9.out Tryd.underlying26 rfl HC2) rfl ?_
      rw [HZ.out]; exact ⟨u, by rw [HCS.out], own9.out, BEL9.out⟩
    · rw [if_neg hc] at hZ W0
      obtain ⟨C, hC⟩ : ∃ C, C = delTE lv vs k ver := ⟨_, rfl⟩
      rw [← hC] at hZ W0
      have HW := Lib.hid W0
      have HZ := Lib.hid hZ
      clear hZ W0 hc h hsz tab T0 hC
      go_enter Tryd.func103, Tryd.ntmps103
      go_wp2_with fail
      refine (VRH.out _).mono ?_
      rintro e w1 ⟨rfl, rfl⟩
      go_wp2_with (with_reducible refine wpList_load_row (o := ⟨some 12, _, _, _, _, _⟩) rfl 26 (.tmp 3) rfl _ rfl _ cs (0, 0) _ q3 Tryd.underlying26 rfl hs ?_)
      refine (HW.out).mono ?_
      rintro e w1 ⟨rfl, g⟩
      replace q6 := (g.block _ (lt_of_block q6)).trans q6
      replace bel := chain bel g
      clear g
      go_wp2_with (with_reducible refine wpList_store_row (o := ⟨none, _, _, _, _, _⟩) rfl 26 (.tmp 6) (.tmp 16) rfl _ zT rfl rfl _ zT q6 (infoTc zT_size) rfl zT_one ?_)
      rw [setRow_self _ _ _ _ _ q6]
      go_wp2_with fail
      refine bodyPost_ret (v := .tuple #[.agg zT, .int .i64 (C : Int)]) (results_row_tmp rfl _ _ _ _ zT (0, 0) _ _ rfl rfl q6 Tryd.underlying26 rfl (infoTc zT_size)) rfl ?_
      rw [HZ.out]; exact ⟨rfl, bel⟩
end Go.Proofs.YtbdfcgffkonbiaaDoor
