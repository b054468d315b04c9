/- Snaps: Drop, Keep, Changed. Written by wip/tools/gen14g.py. -/
/- Snaps: Keep, where it refuses at once. Written by wip/tools/gen14g.py. -/
import Derived.Test.YtbdfcgffkonbiaaDoorQSN38
import Derived.Test.YtbdfcgffkonbiaaDoorQSN39
namespace Go.Proofs.YtbdfcgffkonbiaaDoor
open Go Go.RowKit
set_option linter.unusedVariables false
set_option linter.unusedSimpArgs false
/-- What is left of a list without the snaps ahead of a number. -/
def dropN (L : List Sn) (q : Int) : Nat := min (ltN L q) (L.length - 1)
def DropP (w : World) (L : List Sn) (q : Int) (e : Ending) (w' : World) : Prop := (isSn L = false → e = .returned (.tuple #[.slice none 0 0, .int .i64 1])) ∧ (isSn L = true → ∃ v', e = .returned (.tuple #[v', .int .i64 0]) ∧ w'.ownsRow w.heap.size 77 36 v' (L.drop (dropN L q)).length ((L.drop (dropN L q)).flatMap snC)) ∧ Below w.heap.size w w'
set_option maxRecDepth 100000 in
set_option maxHeartbeats 1000000 in
theorem drop14_any (v : Value) (L : List Sn) (q : Int) (w : World) (tab : TabAt w) (h : RdK 36 snC w v L) (hrs : RdSn w L) (hsz : SzSn L) (hln : LenSn L) :
    Calls Tryd.prog 49 #[v, .int .i64 q] w (DropP w L q) := by
  obtain ⟨i0, hi0, hz0, hz1, hz2⟩ := snap_info
  have IS0 := is14_any v L w tab h hrs hsz hln
  have FD := Lib.hid (fun W (g : Below w.heap.size w W) (hi : isSn L = true) => find14_any v L q W (h.below g (Nat.le_refl _)) (by have := (isSn_all hi).1; omega) (isSn_srt hi))
  obtain ⟨ao, cap, rfl, hc, hm, hr⟩ := RdK.open h
  have HRD := Lib.hid (show RdK 36 snC w (.slice ao L.length cap) L from hr)
  obtain ⟨Z, hZ⟩ : ∃ Z, Z = DropP w L q := ⟨_, rfl⟩
  rw [← hZ]
  have HZ := Lib.hid hZ
  clear h hrs hsz hln hr hZ tab
  cases hi : isSn L with
  | false =>
    have HI := Lib.hid hi
    rw [hi] at IS0
    have IS := Lib.hid IS0
    clear IS0 hi FD HRD
    go_enter Tryd.func49, Tryd.ntmps49
    go_wp2_with fail
    refine IS.out.mono ?_
    rintro e w2 ⟨rfl, g⟩
    have bel := g
    clear g
    go_wp2_with fail
    show Z (.returned _) _
    rw [HZ.out]
    exact ⟨fun _ => rfl, fun h => (by rw [HI.out] at h; cases h), bel⟩
  | true =>
    have FD1 := Lib.hid (fun W (g : Below w.heap.size w W) => FD.out W g hi)
    have H8 := (isSn_all hi).1
    have HI := Lib.hid hi
    rw [hi] at IS0
    have IS := Lib.hid IS0
    clear IS0 hi FD
    go_enter Tryd.func49, Tryd.ntmps49
    go_wp2_with fail
    refine IS.out.mono ?_
    rintro e w2 ⟨rfl, g⟩
    have bel := g
    clear g
    go_wp2_with fail
    refine (FD1.out _ bel).mono ?_
    rintro e w3 ⟨⟨n, bb, rfl, hF⟩, g⟩
    have bel := chain bel g
    have HLT := Lib.hid (fnd_lt hF)
    have hnl := hF.1
    clear g hF
    obtain ⟨d, hd⟩ : ∃ d, d = min n (L.length - 1) := ⟨_, rfl⟩
    have hdl : d ≤ L.length := by omega
    have HD := Lib.hid (show dropN L q = d by unfold dropN; rw [HLT.out, hd])
    have e1 : IntKind.i64.wrap ((L.length : Int) - 1) = (L.length : Int) - 1 := by rw [IntKind.wrap_i64]; omega
    have e2 : max 0 (min (n : Int) ((L.length : Int) - 1)) = (d : Int) := by omega
    clear hd
    go_wp2_with (refine wpList_slice_rdk snC_len rfl 70 77 (.tmp 17) (some (.tmp 23)) none rfl i0 Tryd.underlying70 hi0 hz1 ao cap L rfl (HRD.out.below bel (Nat.le_refl _)) d L.length (.inr ⟨.tmp 23, .i64, rfl, rfl⟩) (.inl ⟨rfl, rfl⟩) hdl (Nat.le_refl _) ?_; intro ao2 cap2 hr2; have HR2 := Lib.hid hr2; clear hr2)
    refine (clone14_any _ (L.drop d) w3 (by have h := HR2.out; rwa [List.take_of_length_le (by simp)] at h) (by simp; omega)).mono ?_
    rintro e w4 ⟨v4, rfl, own, g⟩
    have own5 := own_base own bel.size
    have bel := chain bel g
    clear own g
    go_wp2_with fail
    show Z (.returned _) _
    rw [HZ.out]
    exact ⟨fun h => (by rw [HI.out] at h; cases h), fun _ => ⟨v4, rfl, by rw [HD.out]; exact own5⟩, bel⟩
theorem build2_op {P : Program} (op : Oper) (a : Act) {t : TypeId} (x y : Operand) {u v r : Value} {w : World} (ho : op.op = .build t #[(0, x), (1, y)]) (hx : a.eval x = u) (hy : a.eval y = v)
    (hrun : (Instr.build t #[(0, u), (1, v)]).run P w = .ok r w) : (execOp a.eval op).run P w = .ok (.value r) w := by
  unfold execOp
  simp [ho, hx, hy, hrun, Result.andThen]
theorem op_build1 {P : Program} {Q : Exit → Act → World → Prop} {o : Oper} {a : Act} {w : World} {K : Act → World → Prop} (t : TypeId) (x : Operand) (ho : o.op = .buildSlice t 1 #[(0, x)]) (cs : Array Value) (hx : a.eval x = .agg cs) (r : Value) (w' : World)
    (hrun : (Instr.buildSlice t 1 #[(0, .agg cs)]).run P w = .ok r w') (hK : K (a.put o.dst r) w') : o.wp P a w K Q := by
  unfold Oper.wp execOp
  simp [ho, hx, hrun, Result.andThen]
  exact hK
/-- What is kept: the list, the error. -/
def keepL (L : List Sn) (x : Sn) : List Sn := (if L.length = 8 then L.drop 1 else L) ++ [x]
def keepE (L : List Sn) (x : Sn) : Nat := if isSn L = false then 1 else if 0 < L.length ∧ x.q ≤ (L.getD (L.length - 1) sn0).q then 18 else (chk14 (keepL L x)).1
def KeepP (w : World) (L : List Sn) (x : Sn) (e : Ending) (w' : World) : Prop := (keepE L x = 0 → ∃ v', e = .returned (.tuple #[v', .int .i64 0]) ∧ w'.ownsRow w.heap.size 77 36 v' (keepL L x).length ((keepL L x).flatMap snC)) ∧ (keepE L x ≠ 0 → e = .returned (.tuple #[.slice none 0 0, .int .i64 (keepE L x : Int)])) ∧ Below w.heap.size w w'
theorem app_sn (w : World) (base : Nat) (v : Value) (L : List Sn) (own : w.ownsRow base 77 36 v L.length (L.flatMap snC)) (B : Nat) (x : Sn) (hB : w.heap[B]? = some (.cells (snV x) 77 (0, 0))) (hbase : base ≤ w.heap.size) (hL : L.length ≤ 100) :
    ∃ v' w', (Builtin.append_ #[70, 70] 70 #[v, .slice (some ⟨B, 0, none⟩) 1 1]).run Tryd.prog w = .ok v' w' ∧ w'.ownsRow base 77 36 v' (L ++ [x]).length ((L ++ [x]).flatMap snC) ∧ w.grownBy w' v.ownBlock := by
  obtain ⟨i0, hi, hz0, hz1, hz2⟩ := snap_info
  obtain ⟨v', w', h1, h2, h3, -, -⟩ := run_append_own_at (P := Tryd.prog) w base 70 70 77 i0 (.agg zSN) 36 544 Tryd.underlying70 hi hz0 hz1 hz2 rfl (by decide) v L.length (L.flatMap snC) own ⟨B, 0, none⟩ 1 1 (snC x) (by rw [snC_len]) (fun j u hj => by
    rw [Addr.add_lit, Nat.zero_add, block_cell hB j]
    simpa [snV] using hj) (snC_one x) (by unfold maxLen; omega) (by omega) hbase
  refine ⟨v', w', h1, ?_, h3⟩
  rw [List.length_append, List.flatMap_append]
  simpa using h2
theorem built_snap {q : Int} {cs : Array Value} {s : St} (h : cs.size = 35) (h1 : ∀ u ∈ cs.toList, u.oneCell' = true) : Tryd.prog.built 77 [(0, .int .i64 q), (1, .agg cs)] = some (snV (mkSn q cs s)) := by
  obtain ⟨i0, hi, hz0, hz1, hz2⟩ := snap_info
  rw [built_struct (places := [(0, 1), (1, 35)]) hi hz0 (by kernel_rfl)]
  show Instr.fill _ zSN _ = _
  rw [fill_one (cs := #[.int .i64 q]) (off := 0) (size := 1) (by simp) rfl rfl (by rw [zSN_size]; omega), fill_one (cs := cs) (off := 1) (size := 35) (by simp) rfl h (by rw [putA_size, zSN_size]; decide), Instr.fill]
  refine congrArg some ?_
  apply Array.ext_getElem?
  intro i
  have hA := mkSn_A (q := q) (s := s) h h1
  rcases i with _ | i
  · rw [putA_out _ _ _ _ (.inl (by omega))]
    have := putA_in [Value.int .i64 q] 0 zSN 0 (by simp [zSN_size]) (by simp)
    simp at this
    rw [snV_0]
    exact this
  · rw [snV_at, hA]
    rcases Nat.lt_or_ge i 35 with hi2 | hi2
    · have := putA_in cs.toList 1 (putA zSN 0 #[Value.int .i64 q].toList) i (by rw [putA_size, zSN_size]; simp; omega) (by simp; omega)
      rw [Nat.add_comm 1 i] at this
      rw [this]; simp
    · rw [Array.getElem?_eq_none (by rw [putA_size, putA_size, zSN_size]; omega), Array.getElem?_eq_none (by omega)]
theorem hbs_one (x : Sn) (w : World) : (Instr.buildSlice 70 1 #[(0, .agg (snV x))]).run Tryd.prog w = .ok (.slice (some ⟨w.heap.size, 0, none⟩) 1 1) (w.alloc (.cells (snV x) 77)) := by
  obtain ⟨i0, hi, hz0, hz1, hz2⟩ := snap_info
  exact slice_one w 70 77 (snV x) zSN i0 36 Tryd.underlying70 hi hz0 hz1 (snV_size x) (by decide) (by decide)
theorem RdSn.keep {w : World} {L : List Sn} {x : Sn} (h : RdSn w L) (hx : RdS w (snA x) x.s) : RdSn w (keepL L x) := fun y hy => by
  unfold keepL at hy
  rcases List.mem_append.1 hy with h1 | h1
  · refine h y ?_
    split at h1
    · exact List.mem_of_mem_drop h1
    · exact h1
  · rw [List.mem_singleton.1 h1]; exact hx
theorem keep_all {p : Sn → Prop} {L : List Sn} {x : Sn} (h : ∀ y ∈ L, p y) (hx : p x) : ∀ y ∈ keepL L x, p y := fun y hy => by
  unfold keepL at hy
  rcases List.mem_append.1 hy with h1 | h1
  · refine h y ?_
    split at h1
    · exact List.mem_of_mem_drop h1
    · exact h1
  · rw [List.mem_singleton.1 h1]; exact hx
end Go.Proofs.YtbdfcgffkonbiaaDoor
namespace Go.Proofs.YtbdfcgffkonbiaaDoor
open Go Go.RowKit
set_option linter.unusedVariables false
set_option linter.unusedSimpArgs false
set_option maxRecDepth 100000 in
set_option maxHeartbeats 1000000 in
theorem keep_bad (v : Value) (L : List Sn) (q : Int) (cs : Array Value) (s : St) (w : World) (tab : TabAt w) (h : RdK 36 snC w v L) (hrs : RdSn w L) (hsz : SzSn L) (hln : LenSn L) (hx : RdS w cs s) (hxz : SzT s.lv) (hxw : WfT s.lv) (hxl : ∀ b, b < 16 → (s.lv b).length ≤ 100) (hi : isSn L = false) :
    Calls Tryd.prog 42 #[v, .int .i64 q, .agg cs] w (KeepP w L (mkSn q cs s)) := by
  obtain ⟨i0, hi0, hz0, hz1, hz2⟩ := snap_info
  have q5 := heap_alloc_new w (.cells cs 28)
  have bel := (Below.refl w.heap.size w).alloc (Nat.le_refl _) (.cells cs 28)
  have hiS := infoS hx.size
  have hA : snA (mkSn q cs s) = cs := mkSn_A hx.size hx.one
  have HBd : ∀ w, (Instr.build 77 #[(0, .int .i64 q), (1, .agg cs)]).run Tryd.prog w = .ok (.agg (snV (mkSn q cs s))) w := fun w => run_build w _ _ _ (built_snap hx.size hx.one)
  have HXR := Lib.hid (show RdS w (snA (mkSn q cs s)) (mkSn q cs s).s by rw [hA]; exact hx)
  have HXZ := Lib.hid (show SzT (mkSn q cs s).s.lv ∧ WfT (mkSn q cs s).s.lv from ⟨hxz, hxw⟩)
  have HXL := Lib.hid (show ∀ b, b < 16 → ((mkSn q cs s).s.lv b).length ≤ 100 from hxl)
  obtain ⟨x, hxm⟩ : ∃ x, x = mkSn q cs s := ⟨_, rfl⟩
  have hxq : x.q = q := by rw [hxm]; rfl
  rw [← hxm] at HBd HXR HXZ HXL ⊢
  have HBs := hbs_one x
  have IS0 := is14_any v L (w.alloc (.cells cs 28)) (tab.below bel) (h.below bel (Nat.le_refl _)) (hrs.below bel (Nat.le_refl _)) hsz hln
  obtain ⟨ao, cap, rfl, hc, hm, hr⟩ := RdK.open h
  have HRD := Lib.hid (show RdK 36 snC w (.slice ao L.length cap) L from hr)
  have HRS := Lib.hid hrs
  have HSZ := Lib.hid hsz
  have HLN := Lib.hid hln
  have HTAB := Lib.hid tab
  obtain ⟨Z, hZ⟩ : ∃ Z, Z = KeepP w L x := ⟨_, rfl⟩
  rw [← hZ]
  have HZ := Lib.hid hZ
  clear h hrs hsz hln hr hZ tab hx hxz hxw hxl hA hxm
  have HKE := Lib.hid (show keepE L x = 1 by unfold keepE; rw [if_pos hi])
  rw [hi] at IS0
  have IS := Lib.hid IS0
  clear IS0 hi HRD HRS HSZ HLN HTAB HXR HXZ HXL HBd HBs
  go_enter Tryd.func42, Tryd.ntmps42
  go_wp2_with fail
  refine IS.out.mono ?_
  rintro e w2 ⟨rfl, g⟩
  have q5 := (g.block _ (lt_of_block q5)).trans q5
  have bel := chain bel g
  clear g
  go_wp2_with fail
  show Z (.returned _) _
  rw [HZ.out]
  exact ⟨fun h => absurd (HKE.out.symm.trans h) (by decide), fun _ => by rw [HKE.out]; rfl, bel⟩
set_option maxRecDepth 100000 in
set_option maxHeartbeats 1000000 in
theorem keep_old (v : Value) (L : List Sn) (q : Int) (cs : Array Value) (s : St) (w : World) (tab : TabAt w) (h : RdK 36 snC w v L) (hrs : RdSn w L) (hsz : SzSn L) (hln : LenSn L) (hx : RdS w cs s) (hxz : SzT s.lv) (hxw : WfT s.lv) (hxl : ∀ b, b < 16 → (s.lv b).length ≤ 100) (hi : isSn L = true) (h0 : 0 < L.length) (hq : q ≤ (L.getD (L.length - 1) sn0).q) :
    Calls Tryd.prog 42 #[v, .int .i64 q, .agg cs] w (KeepP w L (mkSn q cs s)) := by
  obtain ⟨i0, hi0, hz0, hz1, hz2⟩ := snap_info
  have q5 := heap_alloc_new w (.cells cs 28)
  have bel := (Below.refl w.heap.size w).alloc (Nat.le_refl _) (.cells cs 28)
  have hiS := infoS hx.size
  have hA : snA (mkSn q cs s) = cs := mkSn_A hx.size hx.one
  have HBd : ∀ w, (Instr.build 77 #[(0, .int .i64 q), (1, .agg cs)]).run Tryd.prog w = .ok (.agg (snV (mkSn q cs s))) w := fun w => run_build w _ _ _ (built_snap hx.size hx.one)
  have HXR := Lib.hid (show RdS w (snA (mkSn q cs s)) (mkSn q cs s).s by rw [hA]; exact hx)
  have HXZ := Lib.hid (show SzT (mkSn q cs s).s.lv ∧ WfT (mkSn q cs s).s.lv from ⟨hxz, hxw⟩)
  have HXL := Lib.hid (show ∀ b, b < 16 → ((mkSn q cs s).s.lv b).length ≤ 100 from hxl)
  obtain ⟨x, hxm⟩ : ∃ x, x = mkSn q cs s := ⟨_, rfl⟩
  have hxq : x.q = q := by rw [hxm]; rfl
  rw [← hxm] at HBd HXR HXZ HXL ⊢
  have HBs := hbs_one x
  have IS0 := is14_any v L (w.alloc (.cells cs 28)) (tab.below bel) (h.below bel (Nat.le_refl _)) (hrs.below bel (Nat.le_refl _)) hsz hln
  obtain ⟨ao, cap, rfl, hc, hm, hr⟩ := RdK.open h
  have HRD := Lib.hid (show RdK 36 snC w (.slice ao L.length cap) L from hr)
  have HRS := Lib.hid hrs
  have HSZ := Lib.hid hsz
  have HLN := Lib.hid hln
  have HTAB := Lib.hid tab
  obtain ⟨Z, hZ⟩ : ∃ Z, Z = KeepP w L x := ⟨_, rfl⟩
  rw [← hZ]
  have HZ := Lib.hid hZ
  clear h hrs hsz hln hr hZ tab hx hxz hxw hxl hA hxm
  obtain ⟨m, hm1⟩ : ∃ m, L.length = m + 1 := ⟨L.length - 1, by omega⟩
  have hml : m < L.length := by omega
  have f1 : IntKind.i64.wrap ((L.length : Int) - 1) = (m : Int) := by rw [IntKind.wrap_i64]; omega
  have f2 : (L.length : Int) - 1 = (m : Int) := by omega
  have f5 : IntKind.i64.wrap (m : Int) = (m : Int) := by rw [IntKind.wrap_i64]; omega
  have f4 : (m : Int) < L.length := by omega
  have f3 : decide (0 < (L.length : Int)) = true := decide_eq_true (by omega)
  have f3n : decide (0 < L.length) = true := decide_eq_true (by omega)
  obtain ⟨y, hy⟩ : ∃ y, y = L[m]'hml := ⟨_, rfl⟩
  have HY := Lib.hid (show (L.getD (L.length - 1) sn0) = y by rw [hm1, Nat.add_sub_cancel, getD_at hml, hy])
  have HM1 := Lib.hid hm1
  have HYL := Lib.hid hy
  clear hy hm1
  rw [HY.out] at hq
  have HKE := Lib.hid (show keepE L x = 18 by unfold keepE; rw [if_neg (by rw [hi]; simp), if_pos ⟨h0, by rw [HY.out, hxq]; exact hq⟩])
  have tq : decide (q ≤ y.q) = true := decide_eq_true hq
  rw [hi] at IS0
  have IS := Lib.hid IS0
  clear IS0 hi HRS HSZ HLN HTAB HXR HXZ HXL HBd HBs hq h0 hxq
  go_enter Tryd.func42, Tryd.ntmps42
  go_wp2_with fail
  refine IS.out.mono ?_
  rintro e w2 ⟨rfl, g⟩
  have q5 := (g.block _ (lt_of_block q5)).trans q5
  have bel := chain bel g
  clear g
  obtain ⟨b, off, rfl, hb, hcy0⟩ := RdK.cell snC_len (HRD.out.below bel (Nat.le_refl _)) m hml
  rw [← HYL.out] at hcy0
  have qm := sn_q (show ∀ i, i < 36 → w2.cell? ⟨b, off + m * 36 + i, none⟩ = (snC y)[i]? from fun i hi => by rw [Nat.add_assoc]; exact hcy0 i hi)
  clear hcy0
  go_wp2_with fail
  show Z (.returned _) _
  rw [HZ.out]
  exact ⟨fun h => absurd (HKE.out.symm.trans h) (by decide), fun _ => by rw [HKE.out]; rfl, bel⟩
end Go.Proofs.YtbdfcgffkonbiaaDoor
