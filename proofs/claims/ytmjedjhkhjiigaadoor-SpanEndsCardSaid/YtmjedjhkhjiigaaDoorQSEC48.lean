/- Span: the law SpanEnds. Written by wip/tools/gen11e.py. -/
import Derived.Test.YtmjedjhkhjiigaaDoorQSEC47
namespace Go.Proofs.YtmjedjhkhjiigaaDoor
open Go Go.RowKit
set_option linter.unusedVariables false
set_option linter.unusedSimpArgs false
set_option maxRecDepth 100000
theorem it_eql_op (op : Oper) (a : Act) (x y : Operand) (T' : TypeId) (p q : It) (r : Bool) (hr : r = itEq p q) (ho : op.op = .binOp .eql 32 x y T') (hx : a.eval x = itV p) (hy : a.eval y = itV q) (w : World) : (execOp a.eval op).run Tryd.prog w = .ok (.value (.bool r)) w := by
  subst hr
  have h : (binOp .eql 32 (itV p) (itV q)).run Tryd.prog w = .ok (.bool (itEq p q)) w := by
    by_cases e : p = q
    · subst e; rw [it_eq_same]; simp [itEq]
    · rw [it_eq_no p q e]; simp [itEq, e]
  have g := it_guard
  have e : (eqGuard .eql 32 x y (itV p) (itV q)).run Tryd.prog w = .ok () w := by
    unfold itV; exact run_eqGuard_agg (hm := g) ..
  simp only [execOp, ho, hx, hy, Sem.run_bind, e, h, Result.andThen_ok, Sem.run_pure]
theorem ck_one {lv : Nat → List It} {vs : Nat → Int} (k : List UInt8) : ckE lv vs [k] = ckE lv vs [k, k] := by unfold ckE; simp
theorem ck_nil {lv : Nat → List It} {vs : Nat → Int} (k : List UInt8) : ckE lv vs [[], k] = ckE lv vs [k, k] := by
  unfold ckE
  have : patB [] = true := rfl
  simp [this]
set_option maxHeartbeats 1000000 in
theorem ends_row (cs : Array Value) (lv : Nat → List It) (vs : Nat → Int) (k : List UInt8) (w : World) (h : RdT w cs lv vs) (hsz : SzT lv) (hwf : WfT lv) (hk : k.length ≤ maxLen) (tab : TabAt w) :
    Calls Tryd.prog 8 #[.agg cs, .string (str k)] w fun e w' => e = .returned (.bool true) ∧ Below w.heap.size w w' := by
  have TAB := Lib.hid tab
  have hs0 := infoTc h.size
  have z0 := zeroT_run
  have z1 := zT_ne
  obtain ⟨ks, hks⟩ : ∃ ks, ks = k.take 60 := ⟨_, rfl⟩
  have SH := fun W => short11_any k W hk
  have kk : ks.length ≤ maxLen := by rw [hks]; exact Nat.le_trans (List.length_take_le _ _) (by decide)
  rw [← hks] at SH
  have SHH := Lib.hid SH
  obtain ⟨lF, hlF⟩ : ∃ lF, lF = fun b => fewL (lv b) := ⟨_, rfl⟩
  have szF : SzT lF := by rw [hlF]; exact fewT_sz lv
  have lenF : ∀ b, b < 16 → (lF b).length ≤ 100 := by rw [hlF]; exact fewT_len lv
  have q2 := heap_alloc_new w (.cells cs 26)
  have bel := (Below.refl w.heap.size w).alloc (Nat.le_refl _) (.cells cs 26)
  have FW0 := few10_any cs lv vs _ (h.below bel (Nat.le_refl _)) hsz
  unfold FewP at FW0
  rw [← hlF] at FW0
  have FW := Lib.hid FW0
  have hsz0 := h.size
  clear h hsz tab hlF FW0 SH hks hwf
  go_enter Tryd.func8, Tryd.ntmps8
  go_wp2_with ((with_reducible refine wpList_load_row (o := ⟨some 12, _, _, _, _, _⟩) rfl 26 (.tmp 2) rfl _ rfl _ cs (0, 0) _ q2 Tryd.underlying26 rfl hs0 ?_))
  refine FW.out.mono ?_
  rintro e v1 ⟨CF, rfl, own, g⟩
  have hl0 : w.heap.size + 1 = (w.alloc (.cells cs 26)).heap.size := by simp
  rw [← hl0] at own
  have q2 := (g.block _ (lt_of_block q2)).trans q2
  have bel := chain bel g
  clear g hl0
  go_wp2_with fail
  refine (SHH.out _).mono ?_
  rintro e w' ⟨rfl, rfl⟩
  have hsF := infoTc own.size
  have hcF : cs.size = CF.size := by rw [own.size]; exact hsz0
  have hoF := own.rd.one
  obtain ⟨X, hX⟩ : ∃ X, X = fiI lF vs ks := ⟨_, rfl⟩
  obtain ⟨EX, hEX⟩ : ∃ X, X = fiE lF vs ks := ⟨_, rfl⟩
  obtain ⟨Y, hY⟩ : ∃ X, X = laI lF vs ks := ⟨_, rfl⟩
  obtain ⟨EY, hEY⟩ : ∃ X, X = laE lF vs ks := ⟨_, rfl⟩
  obtain ⟨E, hE⟩ : ∃ X, X = ckE lF vs [ks, ks] := ⟨_, rfl⟩
  go_wp2_with (first | ((with_reducible refine wpList_load_row (o := ⟨some 17, _, _, _, _, _⟩) rfl 26 (.tmp 2) rfl _ rfl _ CF (0, 0) _ q2 Tryd.underlying26 rfl hsF ?_)) | ((with_reducible refine wpList_store_row (o := ⟨none, _, _, _, _, _⟩) rfl 26 (.tmp 2) (.tmp 13) rfl _ CF rfl rfl _ cs q2 hsF hcF hoF ?_); (obtain ⟨WS, hWS⟩ : ∃ W, W = World.setRow v1 w.heap.size CF := ⟨_, rfl⟩); rw [← hWS]; (have bel := below_row bel (Nat.le_refl _) CF); (have own := own.row q2 CF); (have q2 := setRow_heap v1 w.heap.size _ CF _ _ q2); rw [← hWS] at bel own q2; clear hWS))
  have HT := Lib.hid own.rd
  have Q2 := Lib.hid q2
  have BW := Lib.hid bel
  have TS := Lib.hid (TAB.out.below bel)
  have hS := Below.refl WS.heap.size WS
  clear q2 bel own hcF hoF
  have FI0 := fun W (g : Below WS.heap.size WS W) => first_any CF lF vs ks W (TS.out.below g) (HT.out.below g (Nat.le_refl _)) szF kk
  have LA0 := fun W (g : Below WS.heap.size WS W) => last_any CF lF vs ks W (TS.out.below g) (HT.out.below g (Nat.le_refl _)) szF kk
  have WR0 := fun W (g : Below WS.heap.size WS W) => wrong_any CF lF vs ks ks W (TS.out.below g) (HT.out.below g (Nat.le_refl _)) szF lenF kk kk
  rw [← hX, ← hEX] at FI0
  rw [← hY, ← hEY] at LA0
  rw [← hE] at WR0
  unfold itV at FI0 LA0
  have FI := Lib.hid FI0
  have LA := Lib.hid LA0
  have WR := Lib.hid WR0
  have HX := Lib.hid hX
  have HEX := Lib.hid hEX
  have HY := Lib.hid hY
  have HEY := Lib.hid hEY
  have HE := Lib.hid hE
  clear hX hEX hY hEY hE
  have AW := Lib.hid (fun W (g : Below WS.heap.size WS W) => awake11_any W (TS.out.below g))
  clear FI0 LA0 WR0 z0 z1
  refine (FI.out _ hS).mono ?_
  rintro e v5 ⟨rfl, g⟩
  replace hS := chain hS g
  have q5 := heap_alloc_new v5 (.cells #[.string (str X.key), .int .i64 X.v.k, .int .i64 X.v.i, .string (str X.v.s), .int .i64 X.ver] 32)
  replace hS := hS.alloc hS.size (.cells #[.string (str X.key), .int .i64 X.v.k, .int .i64 X.v.i, .string (str X.v.s), .int .i64 X.ver] 32)
  have q2 := (hS.block _ (lt_of_block Q2.out)).trans Q2.out
  clear g
  go_wp2_with ((with_reducible refine wpList_load_row (o := ⟨some 23, _, _, _, _, _⟩) rfl 26 (.tmp 2) rfl _ rfl _ CF (0, 0) _ q2 Tryd.underlying26 rfl hsF ?_))
  refine (LA.out _ hS).mono ?_
  rintro e v7 ⟨rfl, g⟩
  replace hS := chain hS g
  replace q5 := (g.block _ (lt_of_block q5)).trans q5
  have q7 := heap_alloc_new v7 (.cells #[.string (str Y.key), .int .i64 Y.v.k, .int .i64 Y.v.i, .string (str Y.v.s), .int .i64 Y.ver] 32)
  replace q5 := (@heap_alloc_old v7 (.cells #[.string (str Y.key), .int .i64 Y.v.k, .int .i64 Y.v.i, .string (str Y.v.s), .int .i64 Y.ver] 32) _ (lt_of_block q5)).trans q5
  replace hS := hS.alloc hS.size (.cells #[.string (str Y.key), .int .i64 Y.v.k, .int .i64 Y.v.i, .string (str Y.v.s), .int .i64 Y.ver] 32)
  have q2 := (hS.block _ (lt_of_block Q2.out)).trans Q2.out
  clear g
  go_wp2_with ((with_reducible refine wpList_load_row (o := ⟨some 28, _, _, _, _, _⟩) rfl 26 (.tmp 2) rfl _ rfl _ CF (0, 0) _ q2 Tryd.underlying26 rfl hsF ?_))
  refine (WR.out _ hS).mono ?_
  rintro e v8 ⟨rfl, g⟩
  replace hS := chain hS g
  replace q5 := (g.block _ (lt_of_block q5)).trans q5
  replace q7 := (g.block _ (lt_of_block q7)).trans q7
  have q2 := (g.block _ (lt_of_block q2)).trans q2
  obtain ⟨B5, hB5⟩ : ∃ b, b = v5.heap.size := ⟨_, rfl⟩
  obtain ⟨B7, hB7⟩ : ∃ b, b = v7.heap.size := ⟨_, rfl⟩
  rw [← hB5] at q5 ⊢
  rw [← hB7] at q7 ⊢
  clear g hB5 hB7
  by_cases hc : E = 0
  · have hmp : mayTs lF vs 16 = true ∧ patB ks = true := by
      have h0 := HE.out.symm.trans hc
      cases hm : mayTs lF vs 16 with
      | false => rw [ck_no hm] at h0; exact absurd h0 (by decide)
      | true =>
        cases hp : patB ks with
        | true => exact ⟨rfl, rfl⟩
        | false => rw [ck_form hm (by simp [hp])] at h0; exact absurd h0 (by decide)
    obtain ⟨hmy, hpt⟩ := hmp
    have h8 := Below.refl v8.heap.size v8
    have HT8 := Lib.hid (HT.out.below hS (Nat.le_refl _))
    have TS8 := Lib.hid (TS.out.below hS)
    have BW := Lib.hid (chain BW.out hS)
    have WA0 := fun W (g : Below v8.heap.size v8 W) => whole_any CF lF vs ks [] W (TS8.out.below g) (HT8.out.below g (Nat.le_refl _)) szF lenF hmy hpt rfl kk (by decide)
    have WB0 := fun W (g : Below v8.heap.size v8 W) => whole_any CF lF vs [] ks W (TS8.out.below g) (HT8.out.below g (Nat.le_refl _)) szF lenF hmy rfl hpt (by decide) kk
    have AW := Lib.hid (fun W (g : Below v8.heap.size v8 W) => awake11_any W (TS8.out.below g))
    obtain ⟨L1, hL1⟩ : ∃ L, L = rngL lF ks [] := ⟨_, rfl⟩
    obtain ⟨L2, hL2⟩ : ∃ L, L = rngL lF [] ks := ⟨_, rfl⟩
    have HN2 := Lib.hid (show L2.length ≤ 1024 by rw [hL2]; exact rng_len hmy _ _)
    rw [← hL1] at WA0
    rw [← hL2] at WB0
    have WA := Lib.hid WA0
    have WB := Lib.hid WB0
    have hx1 : X = L1.headD zI := by rw [HX.out, hL1]; unfold fiI; rw [ck_one, ← HE.out, if_pos hc]
    have hx2 : EX = if L1 = [] then 6 else 0 := by rw [HEX.out, hL1]; unfold fiE; rw [ck_one, ← HE.out, if_pos hc]
    have hy1 : Y = L2.getLastD zI := by rw [HY.out, hL2]; unfold laI; rw [ck_nil, ← HE.out, if_pos hc]
    have hy2 : EY = if L2 = [] then 6 else 0 := by rw [HEY.out, hL2]; unfold laE; rw [ck_nil, ← HE.out, if_pos hc]
    obtain ⟨ex, hex0⟩ : ∃ z : Int, z = (EX : Int) := ⟨_, rfl⟩
    obtain ⟨ey, hey0⟩ : ∃ z : Int, z = (EY : Int) := ⟨_, rfl⟩
    rw [← hex0, ← hey0]
    have d1 : ((E : Int) != 0) = false := by simp; omega
    have HL1 : Hid ((L1.length = 0 ∧ X = zI ∧ ex = 6) ∨ (∃ h : 0 < L1.length, L1[0]'h = X ∧ ex = 0)) := by
      apply Lib.hid
      rw [hex0, hx2, hx1]
      cases L1 with
      | nil => left; exact ⟨rfl, rfl, rfl⟩
      | cons x r => right; exact ⟨by simp, rfl, rfl⟩
    have HL2 : Hid ((L2.length = 0 ∧ Y = zI ∧ ey = 6) ∨ (∃ h : 0 < L2.length, L2[L2.length - 1]'(by omega) = Y ∧ ey = 0)) := by
      apply Lib.hid
      rw [hey0, hy2, hy1]
      cases hc2 : L2 with
      | nil => left; exact ⟨rfl, rfl, rfl⟩
      | cons x r => right; exact ⟨by simp, by rw [List.getLastD_eq_getLast?, List.getLast?_eq_getElem?]; simp, rfl⟩
    have Q2 := Lib.hid q2
    have Q5 := Lib.hid q5
    have Q7 := Lib.hid q7
    clear HX HEX HY HEY HE hc FI LA WR WA0 WB0 hL1 hL2 hx1 hx2 hy1 hy2 hex0 hey0 q5 q7 hS HT8 hmy hpt
    go_wp2_with fail
    refine g_start (by kernel_rfl) ?_
    refine g_take (i := 0) (d := (some 55)) (v := ?_) rfl rfl (by kernel_rfl) (fun _ _ _ h => h) (by rfl) (fun w' hb' => ?_) ?_
    rotate_left
    · (refine load_row_op _ _ (.tmp 2) ?_ ?_ ((hb'.block _ (lt_of_block q2)).trans q2) Tryd.underlying26 ?_ hsF <;> rfl); (try go_simp); (try with_reducible rfl)
    try simp only [Act.put, List.setIfInBounds_toArray, List.set_cons_zero, List.set_cons_succ]
    refine g_take (i := 1) (d := (some 56)) (v := ?_) rfl rfl (by kernel_rfl) (fun _ _ _ h => h) (by rfl) (fun w' hb' => ?_) ?_
    rotate_left
    · (try go_simp); (try with_reducible rfl)
    try simp only [Act.put, List.setIfInBounds_toArray, List.set_cons_zero, List.set_cons_succ]
    refine g_take (i := 3) (d := (some 58)) (v := ?_) rfl rfl (by kernel_rfl) (fun _ _ _ h => h) (by rfl) (fun w' hb' => ?_) ?_
    rotate_left
    · (refine load_row_op _ _ (.tmp 2) ?_ ?_ ((hb'.block _ (lt_of_block q2)).trans q2) Tryd.underlying26 ?_ hsF <;> rfl); (try go_simp); (try with_reducible rfl)
    try simp only [Act.put, List.setIfInBounds_toArray, List.set_cons_zero, List.set_cons_succ]
    refine g_take (i := 4) (d := (some 59)) (v := ?_) rfl rfl (by kernel_rfl) (fun _ _ _ h => h) (by rfl) (fun w' hb' => ?_) ?_
    rotate_left
    · (try go_simp); (try with_reducible rfl)
    try simp only [Act.put, List.setIfInBounds_toArray, List.set_cons_zero, List.set_cons_succ]
    refine g_run (i := 2) rfl (by kernel_rfl) (by rfl) (fun K hK => ?_)
    go_simp; refine (WA.out _ (Below.drew h8)).mono ?_; rintro e u1 ⟨vA, rfl, ownA, gg⟩; obtain ⟨aA, cA, rfl, -, -, RA⟩ := RdK.open (OwnI.rd (w := v8) ownA); have h8 := chain (Below.drew h8) gg; have q2 := (h8.block _ (lt_of_block Q2.out)).trans Q2.out; refine hK _ _ ⟨gg, ?_⟩; clear hK K gg ownA
    try simp only [Act.put, List.setIfInBounds_toArray, List.set_cons_zero, List.set_cons_succ]
    refine g_run (i := 5) rfl (by kernel_rfl) (by rfl) (fun K hK => ?_)
    go_simp; refine (WB.out _ h8).mono ?_; rintro e u2 ⟨vB, rfl, ownB, gg⟩; obtain ⟨aB, cB, rfl, -, -, RB⟩ := RdK.open (OwnI.rd (w := v8) ownB); have h8 := chain h8 gg; have RA := RdK.below RA gg (Nat.le_refl _); refine hK _ _ ⟨gg, ?_⟩; clear hK K gg ownB
    try simp only [Act.put, List.setIfInBounds_toArray, List.set_cons_zero, List.set_cons_succ]
    refine g_take (i := 6) (d := (some 10)) (v := ?_) rfl rfl (by kernel_rfl) (fun _ _ _ h => h) (by rfl) (fun w' hb' => ?_) ?_
    rotate_left
    · (try go_simp); (try with_reducible rfl)
    try simp only [Act.put, List.setIfInBounds_toArray, List.set_cons_zero, List.set_cons_succ]
    refine g_take (i := 7) (d := (some 11)) (v := ?_) rfl rfl (by kernel_rfl) (fun _ _ _ h => h) (by rfl) (fun w' hb' => ?_) ?_
    rotate_left
    · (try go_simp); (try with_reducible rfl)
    try simp only [Act.put, List.setIfInBounds_toArray, List.set_cons_zero, List.set_cons_succ]
    refine g_done (by kernel_rfl) ?_
    have q5 := (h8.block _ (lt_of_block Q5.out)).trans Q5.out
    have q7 := (h8.block _ (lt_of_block Q7.out)).trans Q7.out
    have RA : RdI u2 (.slice aA L1.length cA) L1 := RA
    have RB : RdI u2 (.slice aB L2.length cB) L2 := RB
    clear q2
    rcases HL1.out with ⟨hl1, hx, hex⟩ | ⟨hl1, hx, hex⟩
    · subst hx
      subst hex
      rw [hl1]
      clear hl1 HL1
      replace q5 : _ = some (Obj.cells #[.string ⟨#[]⟩, .int .i64 0, .int .i64 0, .string ⟨#[]⟩, .int .i64 0] 32) := q5
      rcases HL2.out with ⟨hl2, hy, hey⟩ | ⟨hm, hy, hey⟩
      · subst hy
        subst hey
        rw [hl2]
        clear HL2 hl2 RA RB
        replace q7 : _ = some (Obj.cells #[.string ⟨#[]⟩, .int .i64 0, .int .i64 0, .string ⟨#[]⟩, .int .i64 0] 32) := q7
        go_wp2_with (first | ((with_reducible refine wpList_load_row (o := ⟨some 64, _, _, _, _, _⟩) rfl 32 (.tmp 5) rfl _ rfl _ #[.string ⟨#[]⟩, .int .i64 0, .int .i64 0, .string ⟨#[]⟩, .int .i64 0] (0, 0) _ q5 Tryd.underlying32 rfl infoI ?_)) | ((with_reducible refine wpList_load_row (o := ⟨some 83, _, _, _, _, _⟩) rfl 32 (.tmp 7) rfl _ rfl _ #[.string ⟨#[]⟩, .int .i64 0, .int .i64 0, .string ⟨#[]⟩, .int .i64 0] (0, 0) _ q7 Tryd.underlying32 rfl infoI ?_)) | ((with_reducible refine (AW.out _ h8).mono ?_); rintro e uz ⟨rfl, gz⟩; (replace h8 := chain h8 gz)))
      
        go_ret
        exact ⟨rfl, chain BW.out h8⟩
      · subst hey
        obtain ⟨pb, po, hpo, hpb, l0, l1, l2, l3, l4⟩ := rdi_cells RB (L2.length - 1) (by omega)
        cases hpo
        rw [hy] at l0 l1 l2 l3 l4
        clear hy
        obtain ⟨n2, hn2⟩ : ∃ n, n = L2.length := ⟨_, rfl⟩
        rw [← hn2] at l0 l1 l2 l3 l4 hm ⊢
        obtain ⟨m, hm2⟩ : ∃ m, m = n2 - 1 := ⟨_, rfl⟩
        rw [← hm2] at l0 l1 l2 l3 l4
        have hmn : m < n2 := by omega
        have hn0 : (n2 == 0) = false := by simp; omega
        have hn0i : ((n2 : Int) == 0) = false := by simp; omega
        have hle : n2 ≤ 2000 := by have := HN2.out; omega
        have E97 := Lib.hid (show IntKind.i64.wrap ((n2 : Int) - 1) = (m : Int) by rw [IntKind.wrap_i64]; omega)
        clear RA RB HL2 hn2 hm2
        go_wp2_with ((with_reducible refine wpList_load_row (o := ⟨some 64, _, _, _, _, _⟩) rfl 32 (.tmp 5) rfl _ rfl _ #[.string ⟨#[]⟩, .int .i64 0, .int .i64 0, .string ⟨#[]⟩, .int .i64 0] (0, 0) _ q5 Tryd.underlying32 rfl infoI ?_))
        refine g_start (by kernel_rfl) ?_
        refine g_take (i := 0) (d := (some 93)) (v := ?_) rfl rfl (by kernel_rfl) (fun _ _ _ h => h) (by rfl) (fun w' hb' => ?_) ?_
        rotate_left
        · (obtain ⟨y0, y1, y2, y3, y4, yf⟩ := block_cells5 ((hb'.block _ (lt_of_block q7)).trans q7)); (try go_simp); (try with_reducible rfl)
        try simp only [Act.put, List.setIfInBounds_toArray, List.set_cons_zero, List.set_cons_succ]
        refine g_take (i := 1) (d := (some 94)) (v := ?_) rfl rfl (by kernel_rfl) (fun _ _ _ h => h) (by rfl) (fun w' hb' => ?_) ?_
        rotate_left
        · (try go_simp); (try with_reducible rfl)
        try simp only [Act.put, List.setIfInBounds_toArray, List.set_cons_zero, List.set_cons_succ]
        refine g_take (i := 2) (d := (some 95)) (v := ?_) rfl rfl (by kernel_rfl) (fun _ _ _ h => h) (by rfl) (fun w' hb' => ?_) ?_
        rotate_left
        · (try go_simp); (try with_reducible rfl)
        try simp only [Act.put, List.setIfInBounds_toArray, List.set_cons_zero, List.set_cons_succ]
        refine g_take (i := 3) (d := (some 96)) (v := ?_) rfl rfl (by kernel_rfl) (fun _ _ _ h => h) (by rfl) (fun w' hb' => ?_) ?_
        rotate_left
        · (try go_simp); (try with_reducible rfl)
        try simp only [Act.put, List.setIfInBounds_toArray, List.set_cons_zero, List.set_cons_succ]
        refine g_take (i := 4) (d := (some 97)) (v := ?_) rfl rfl (by kernel_rfl) (fun _ _ _ h => h) (by rfl) (fun w' hb' => ?_) ?_
        rotate_left
        · (have e97 := E97.out); (try go_simp); (try with_reducible rfl)
        try simp only [Act.put, List.setIfInBounds_toArray, List.set_cons_zero, List.set_cons_succ]
        refine g_take (i := 5) (d := (some 98)) (v := ?_) rfl rfl (by kernel_rfl) (fun _ _ _ h => h) (by rfl) (fun w' hb' => ?_) ?_
        rotate_left
        · (try go_simp); (try with_reducible rfl)
        try simp only [Act.put, List.setIfInBounds_toArray, List.set_cons_zero, List.set_cons_succ]
        refine g_take (i := 6) (d := (some 99)) (v := ?_) rfl rfl (by kernel_rfl) (fun _ _ _ h => h) (by rfl) (fun w' hb' => ?_) ?_
        rotate_left
        · (have l0 := (hb'.cell (p := ⟨pb, po + m * 5, none⟩) hpb).trans l0; have l1 := (hb'.cell (p := ⟨pb, po + m * 5 + 1, none⟩) hpb).trans l1; have l2 := (hb'.cell (p := ⟨pb, po + m * 5 + 2, none⟩) hpb).trans l2; have l3 := (hb'.cell (p := ⟨pb, po + m * 5 + 3, none⟩) hpb).trans l3; have l4 := (hb'.cell (p := ⟨pb, po + m * 5 + 4, none⟩) hpb).trans l4); (try go_simp); (try with_reducible rfl)
        try simp only [Act.put, List.setIfInBounds_toArray, List.set_cons_zero, List.set_cons_succ]
        refine g_take (i := 7) (d := (some 100)) (v := ?_) rfl rfl (by kernel_rfl) (fun _ _ _ h => h) (by rfl) (fun w' hb' => ?_) ?_
        rotate_left
        · (refine it_eql_op _ _ (.tmp 93) (.tmp 99) 32 Y Y true (by simp [itEq]) ?_ ?_ ?_ _ <;> rfl); (try go_simp); (try with_reducible rfl)
        try simp only [Act.put, List.setIfInBounds_toArray, List.set_cons_zero, List.set_cons_succ]
        refine g_take (i := 8) (d := (some 101)) (v := ?_) rfl rfl (by kernel_rfl) (fun _ _ _ h => h) (by rfl) (fun w' hb' => ?_) ?_
        rotate_left
        · (try go_simp); (try with_reducible rfl)
        try simp only [Act.put, List.setIfInBounds_toArray, List.set_cons_zero, List.set_cons_succ]
        refine g_take (i := 9) (d := (some 102)) (v := ?_) rfl rfl (by kernel_rfl) (fun _ _ _ h => h) (by rfl) (fun w' hb' => ?_) ?_
        rotate_left
        · (try go_simp); (try with_reducible rfl)
        try simp only [Act.put, List.setIfInBounds_toArray, List.set_cons_zero, List.set_cons_succ]
        refine g_take (i := 10) (d := (some 103)) (v := ?_) rfl rfl (by kernel_rfl) (fun _ _ _ h => h) (by rfl) (fun w' hb' => ?_) ?_
        rotate_left
        · (try go_simp); (try with_reducible rfl)
        try simp only [Act.put, List.setIfInBounds_toArray, List.set_cons_zero, List.set_cons_succ]
        refine g_take (i := 11) (d := (some 104)) (v := ?_) rfl rfl (by kernel_rfl) (fun _ _ _ h => h) (by rfl) (fun w' hb' => ?_) ?_
        rotate_left
        · (try go_simp); (try with_reducible rfl)
        try simp only [Act.put, List.setIfInBounds_toArray, List.set_cons_zero, List.set_cons_succ]
        refine g_take (i := 12) (d := (some 105)) (v := ?_) rfl rfl (by kernel_rfl) (fun _ _ _ h => h) (by rfl) (fun w' hb' => ?_) ?_
        rotate_left
        · (try go_simp); (try with_reducible rfl)
        try simp only [Act.put, List.setIfInBounds_toArray, List.set_cons_zero, List.set_cons_succ]
        refine g_run (i := 13) rfl (by kernel_rfl) (by rfl) (fun K hK => ?_)
        go_simp; refine (AW.out _ (Below.drew h8)).mono ?_; rintro e uz ⟨rfl, gz⟩; have h8 := chain (Below.drew h8) gz; refine hK _ _ ⟨gz, ?_⟩; clear hK K
        try simp only [Act.put, List.setIfInBounds_toArray, List.set_cons_zero, List.set_cons_succ]
        refine g_take (i := 14) (d := (some 107)) (v := ?_) rfl rfl (by kernel_rfl) (fun _ _ _ h => h) (by rfl) (fun w' hb' => ?_) ?_
        rotate_left
        · (try go_simp); (try with_reducible rfl)
        try simp only [Act.put, List.setIfInBounds_toArray, List.set_cons_zero, List.set_cons_succ]
        refine g_take (i := 15) (d := (some 4)) (v := ?_) rfl rfl (by kernel_rfl) (fun _ _ _ h => h) (by rfl) (fun w' hb' => ?_) ?_
        rotate_left
        · (try go_simp); (try with_reducible rfl)
        try simp only [Act.put, List.setIfInBounds_toArray, List.set_cons_zero, List.set_cons_succ]
        refine g_done (by kernel_rfl) ?_
        go_wp2_with fail
        go_ret
        exact ⟨rfl, chain BW.out h8⟩
    · subst hex
      obtain ⟨pb, po, hpo, hpb, l0, l1, l2, l3, l4⟩ := rdi_cells RA 0 hl1
      cases hpo
      rw [hx] at l0 l1 l2 l3 l4
      simp only [Nat.zero_mul, Nat.add_zero] at l0 l1 l2 l3 l4
      obtain ⟨y0, y1, y2, y3, y4, yf⟩ := block_cells5 q5
      clear hx HL1
      obtain ⟨n1, hn1⟩ : ∃ n, n = L1.length := ⟨_, rfl⟩
      rw [← hn1] at hl1 ⊢
      have hn0 : (n1 == 0) = false := by simp; omega
      have hn0i : ((n1 : Int) == 0) = false := by simp; omega
      have NE := fun W => it_ne_same X W
      unfold itV at NE
      clear hn1 RA
      go_wp2_with fail
      go_quiet (fail)
      have b9 : Below u2.heap.size u2 (u2.drewN nq) := below_drewN (Below.refl _ _)
      replace h8 := chain h8 b9
      replace q7 := (b9.block _ (lt_of_block q7)).trans q7
      replace RB := RdK.below RB b9 (Nat.le_refl _)
      have RA := True.intro
      clear b9 NE l0 l1 l2 l3 l4 y0 y1 y2 y3 y4 yf
      rcases HL2.out with ⟨hl2, hy, hey⟩ | ⟨hm, hy, hey⟩
      · subst hy
        subst hey
        rw [hl2]
        clear HL2 hl2 RA RB
        replace q7 : _ = some (Obj.cells #[.string ⟨#[]⟩, .int .i64 0, .int .i64 0, .string ⟨#[]⟩, .int .i64 0] 32) := q7
        go_wp2_with (first | fail | ((with_reducible refine wpList_load_row (o := ⟨some 83, _, _, _, _, _⟩) rfl 32 (.tmp 7) rfl _ rfl _ #[.string ⟨#[]⟩, .int .i64 0, .int .i64 0, .string ⟨#[]⟩, .int .i64 0] (0, 0) _ q7 Tryd.underlying32 rfl infoI ?_)) | ((with_reducible refine (AW.out _ h8).mono ?_); rintro e uz ⟨rfl, gz⟩; (replace h8 := chain h8 gz)))
      
        go_ret
        exact ⟨rfl, chain BW.out h8⟩
      · subst hey
        obtain ⟨pb, po, hpo, hpb, l0, l1, l2, l3, l4⟩ := rdi_cells RB (L2.length - 1) (by omega)
        cases hpo
        rw [hy] at l0 l1 l2 l3 l4
        clear hy
        obtain ⟨n2, hn2⟩ : ∃ n, n = L2.length := ⟨_, rfl⟩
        rw [← hn2] at l0 l1 l2 l3 l4 hm ⊢
        obtain ⟨m, hm2⟩ : ∃ m, m = n2 - 1 := ⟨_, rfl⟩
        rw [← hm2] at l0 l1 l2 l3 l4
        have hmn : m < n2 := by omega
        have hn0 : (n2 == 0) = false := by simp; omega
        have hn0i : ((n2 : Int) == 0) = false := by simp; omega
        have hle : n2 ≤ 2000 := by have := HN2.out; omega
        have E97 := Lib.hid (show IntKind.i64.wrap ((n2 : Int) - 1) = (m : Int) by rw [IntKind.wrap_i64]; omega)
        clear RA RB HL2 hn2 hm2
        go_wp2_with fail
        refine g_start (by kernel_rfl) ?_
        refine g_take (i := 0) (d := (some 93)) (v := ?_) rfl rfl (by kernel_rfl) (fun _ _ _ h => h) (by rfl) (fun w' hb' => ?_) ?_
        rotate_left
        · (obtain ⟨y0, y1, y2, y3, y4, yf⟩ := block_cells5 ((hb'.block _ (lt_of_block q7)).trans q7)); (try go_simp); (try with_reducible rfl)
        try simp only [Act.put, List.setIfInBounds_toArray, List.set_cons_zero, List.set_cons_succ]
        refine g_take (i := 1) (d := (some 94)) (v := ?_) rfl rfl (by kernel_rfl) (fun _ _ _ h => h) (by rfl) (fun w' hb' => ?_) ?_
        rotate_left
        · (try go_simp); (try with_reducible rfl)
        try simp only [Act.put, List.setIfInBounds_toArray, List.set_cons_zero, List.set_cons_succ]
        refine g_take (i := 2) (d := (some 95)) (v := ?_) rfl rfl (by kernel_rfl) (fun _ _ _ h => h) (by rfl) (fun w' hb' => ?_) ?_
        rotate_left
        · (try go_simp); (try with_reducible rfl)
        try simp only [Act.put, List.setIfInBounds_toArray, List.set_cons_zero, List.set_cons_succ]
        refine g_take (i := 3) (d := (some 96)) (v := ?_) rfl rfl (by kernel_rfl) (fun _ _ _ h => h) (by rfl) (fun w' hb' => ?_) ?_
        rotate_left
        · (try go_simp); (try with_reducible rfl)
        try simp only [Act.put, List.setIfInBounds_toArray, List.set_cons_zero, List.set_cons_succ]
        refine g_take (i := 4) (d := (some 97)) (v := ?_) rfl rfl (by kernel_rfl) (fun _ _ _ h => h) (by rfl) (fun w' hb' => ?_) ?_
        rotate_left
        · (have e97 := E97.out); (try go_simp); (try with_reducible rfl)
        try simp only [Act.put, List.setIfInBounds_toArray, List.set_cons_zero, List.set_cons_succ]
        refine g_take (i := 5) (d := (some 98)) (v := ?_) rfl rfl (by kernel_rfl) (fun _ _ _ h => h) (by rfl) (fun w' hb' => ?_) ?_
        rotate_left
        · (try go_simp); (try with_reducible rfl)
        try simp only [Act.put, List.setIfInBounds_toArray, List.set_cons_zero, List.set_cons_succ]
        refine g_take (i := 6) (d := (some 99)) (v := ?_) rfl rfl (by kernel_rfl) (fun _ _ _ h => h) (by rfl) (fun w' hb' => ?_) ?_
        rotate_left
        · (have l0 := (hb'.cell (p := ⟨pb, po + m * 5, none⟩) hpb).trans l0; have l1 := (hb'.cell (p := ⟨pb, po + m * 5 + 1, none⟩) hpb).trans l1; have l2 := (hb'.cell (p := ⟨pb, po + m * 5 + 2, none⟩) hpb).trans l2; have l3 := (hb'.cell (p := ⟨pb, po + m * 5 + 3, none⟩) hpb).trans l3; have l4 := (hb'.cell (p := ⟨pb, po + m * 5 + 4, none⟩) hpb).trans l4); (try go_simp); (try with_reducible rfl)
        try simp only [Act.put, List.setIfInBounds_toArray, List.set_cons_zero, List.set_cons_succ]
        refine g_take (i := 7) (d := (some 100)) (v := ?_) rfl rfl (by kernel_rfl) (fun _ _ _ h => h) (by rfl) (fun w' hb' => ?_) ?_
        rotate_left
        · (refine it_eql_op _ _ (.tmp 93) (.tmp 99) 32 Y Y true (by simp [itEq]) ?_ ?_ ?_ _ <;> rfl); (try go_simp); (try with_reducible rfl)
        try simp only [Act.put, List.setIfInBounds_toArray, List.set_cons_zero, List.set_cons_succ]
        refine g_take (i := 8) (d := (some 101)) (v := ?_) rfl rfl (by kernel_rfl) (fun _ _ _ h => h) (by rfl) (fun w' hb' => ?_) ?_
        rotate_left
        · (try go_simp); (try with_reducible rfl)
        try simp only [Act.put, List.setIfInBounds_toArray, List.set_cons_zero, List.set_cons_succ]
        refine g_take (i := 9) (d := (some 102)) (v := ?_) rfl rfl (by kernel_rfl) (fun _ _ _ h => h) (by rfl) (fun w' hb' => ?_) ?_
        rotate_left
        · (try go_simp); (try with_reducible rfl)
        try simp only [Act.put, List.setIfInBounds_toArray, List.set_cons_zero, List.set_cons_succ]
        refine g_take (i := 10) (d := (some 103)) (v := ?_) rfl rfl (by kernel_rfl) (fun _ _ _ h => h) (by rfl) (fun w' hb' => ?_) ?_
        rotate_left
        · (try go_simp); (try with_reducible rfl)
        try simp only [Act.put, List.setIfInBounds_toArray, List.set_cons_zero, List.set_cons_succ]
        refine g_take (i := 11) (d := (some 104)) (v := ?_) rfl rfl (by kernel_rfl) (fun _ _ _ h => h) (by rfl) (fun w' hb' => ?_) ?_
        rotate_left
        · (try go_simp); (try with_reducible rfl)
        try simp only [Act.put, List.setIfInBounds_toArray, List.set_cons_zero, List.set_cons_succ]
        refine g_take (i := 12) (d := (some 105)) (v := ?_) rfl rfl (by kernel_rfl) (fun _ _ _ h => h) (by rfl) (fun w' hb' => ?_) ?_
        rotate_left
        · (try go_simp); (try with_reducible rfl)
        try simp only [Act.put, List.setIfInBounds_toArray, List.set_cons_zero, List.set_cons_succ]
        refine g_run (i := 13) rfl (by kernel_rfl) (by rfl) (fun K hK => ?_)
        go_simp; refine (AW.out _ (Below.drew h8)).mono ?_; rintro e uz ⟨rfl, gz⟩; have h8 := chain (Below.drew h8) gz; refine hK _ _ ⟨gz, ?_⟩; clear hK K
        try simp only [Act.put, List.setIfInBounds_toArray, List.set_cons_zero, List.set_cons_succ]
        refine g_take (i := 14) (d := (some 107)) (v := ?_) rfl rfl (by kernel_rfl) (fun _ _ _ h => h) (by rfl) (fun w' hb' => ?_) ?_
        rotate_left
        · (try go_simp); (try with_reducible rfl)
        try simp only [Act.put, List.setIfInBounds_toArray, List.set_cons_zero, List.set_cons_succ]
        refine g_take (i := 15) (d := (some 4)) (v := ?_) rfl rfl (by kernel_rfl) (fun _ _ _ h => h) (by rfl) (fun w' hb' => ?_) ?_
        rotate_left
        · (try go_simp); (try with_reducible rfl)
        try simp only [Act.put, List.setIfInBounds_toArray, List.set_cons_zero, List.set_cons_succ]
        refine g_done (by kernel_rfl) ?_
        go_wp2_with fail
        go_ret
        exact ⟨rfl, chain BW.out h8⟩
  · have e1 : X = zI := by rw [HX.out]; unfold fiI; rw [ck_one, ← HE.out, if_neg hc]
    have e2 : EX = E := by rw [HEX.out, HE.out]; unfold fiE; rw [ck_one, ← HE.out, if_neg hc]
    have e3 : Y = zI := by rw [HY.out]; unfold laI; rw [ck_nil, ← HE.out, if_neg hc]
    have e4 : EY = E := by rw [HEY.out, HE.out]; unfold laE; rw [ck_nil, ← HE.out, if_neg hc]
    have hEn : 1 ≤ E := by omega
    have d1 : ((E : Int) != 0) = true := by simp; omega
    rw [e1] at q5
    rw [e3] at q7
    replace q5 : v8.heap[B5]? = some (.cells #[.string ⟨#[]⟩, .int .i64 0, .int .i64 0, .string ⟨#[]⟩, .int .i64 0] 32) := q5
    replace q7 : v8.heap[B7]? = some (.cells #[.string ⟨#[]⟩, .int .i64 0, .int .i64 0, .string ⟨#[]⟩, .int .i64 0] 32) := q7
    clear HX HEX HY HEY HE hc FI LA WR e1 e3
    obtain rfl := e2
    obtain rfl := e4
    go_wp2_with (first | ((with_reducible refine wpList_load_row (o := ⟨some 34, _, _, _, _, _⟩) rfl 32 (.tmp 5) rfl _ rfl _ #[.string ⟨#[]⟩, .int .i64 0, .int .i64 0, .string ⟨#[]⟩, .int .i64 0] (0, 0) _ q5 Tryd.underlying32 rfl infoI ?_)) | ((with_reducible refine wpList_load_row_g (o := ⟨some 38, _, _, _, _, _⟩) ?_ 32 (.tmp 7) rfl _ rfl _ #[.string ⟨#[]⟩, .int .i64 0, .int .i64 0, .string ⟨#[]⟩, .int .i64 0] (0, 0) _ q7 Tryd.underlying32 rfl infoI ?_); rfl) | ((with_reducible refine (AW.out _ hS).mono ?_); rintro e uz ⟨rfl, gz⟩; (have hS := chain hS gz)))
    go_ret
    exact ⟨rfl, chain BW.out hS⟩
end Go.Proofs.YtmjedjhkhjiigaaDoor
