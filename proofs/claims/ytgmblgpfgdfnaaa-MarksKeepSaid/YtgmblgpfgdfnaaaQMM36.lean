/- Marks: Say by the program. Written by wip/tools/gen30j.py. -/
import Derived.Test.YtgmblgpfgdfnaaaQMM30
import Derived.Test.YtgmblgpfgdfnaaaQMM33
import Derived.Test.YtgmblgpfgdfnaaaQMM28
import Derived.Test.YtgmblgpfgdfnaaaQMM35
import Derived.RangeFuncBox
namespace Go.Proofs.Ytgmblgpfgdfnaaa
open Go Go.RowKit
set_option linter.unusedVariables false
set_option linter.unusedSimpArgs false
set_option maxRecDepth 100000

theorem results_cell_row_tmp2 {P : Program} {fn : Func} {p u t' : Tmp} {ty : TypeId} (h : fn.results = #[.cell p ty, .tmp u, .tmp t']) (tmps : Array Value) (w : World) (g : Nat) (t : TypeId) (cs : Array Value) (fr : Nat × Nat) (d : TypeDesc)
    (hp : tmps.getD p undef = .pointer (some ⟨g, 0, none⟩)) (hg : w.heap[g]? = some (.cells cs t fr))
    (hu : P.underlying ty = some d) (hd : (match d with | .struct _ | .array _ _ => true | _ => false) = true) (hi : (P.info? ty).map (·.size) = some cs.size) :
    (results fn tmps).run P w = .ok (.tuple #[.agg cs, tmps.getD u undef, tmps.getD t' undef]) w := by
  have e : (results fn tmps).run P w = ((asAddr (tmps.getD p undef)).run P w).andThen fun a w₁ => ((loadVar ty a).run P w₁).andThen fun v w₂ => .ok (.tuple #[v, tmps.getD u undef, tmps.getD t' undef]) w₂ := by
    simp only [results, h]
    simp [Sem.run_bind, Result.andThen]
  rw [e, hp]
  simp [asAddr, run_loadVar_row w g t ty cs fr d hg hu hd hi]
theorem op_app_at {P : Program} {w : World} {o : Oper} {a : Act} {K : Act → World → Prop} {Q : Exit → Act → World → Prop} (s x : Operand) (t : TypeId)
    (ho : o.op = .call { callee := .builtin .append, args := #[s, x], argTypes := #[t, t] })
    (base : Nat) (e : TypeId) (i : TypeInfo) (z : Value) (size bytes : Nat) (ht : P.underlying t = some (.slice e)) (hi : P.info? e = some i) (hz : i.zero = some z)
    (hsize : i.size = size) (hby : i.bytes = bytes) (hzs : z.cells.size = size) (hsz : 0 < size)
    (v : Value) (n : Nat) (xs : List Value) (hs : a.eval s = v) (hown : w.ownsRow base e size v n xs)
    (ad : Addr) (m c : Nat) (news : List Value) (hx : a.eval x = .slice (some ad) m c) (hl : news.length = m * size) (hnews : ∀ j u, news[j]? = some u → w.cell? (ad.add j) = some u) (h1 : ∀ u ∈ news, u.oneCell' = true)
    (h63 : n + m ≤ maxLen) (hbytes : (n + m) * bytes ≤ 140737488355328) (hbase : base ≤ w.heap.size)
    (h : ∀ v' w', w'.ownsRow base e size v' (n + m) (xs ++ news) → w.grownBy w' v.ownBlock → (v'.ownBlock = v.ownBlock ∨ v'.ownBlock = some w.heap.size) → K (a.put o.dst v') w') : o.wp P a w K Q := by
  obtain ⟨v', w', hr, h2, h3, h4, h5⟩ := run_append_own_at (P := P) w base t o.type e i z size bytes ht hi hz hsize hby hzs hsz v n xs hown ad m c news hl hnews h1 h63 hbytes hbase
  unfold Oper.wp execOp
  simp only [ho, resolve, invoke, builtin, Sem.run_bind, Sem.run_pure, Result.andThen_ok, List.map_toArray, List.map_cons, List.map_nil, hs, hx, hr]
  exact h v' w' h2 h3 h5
/-- What Say hands back. -/
def GivesS (w : World) (m : Ms) (is : Bool) (code : Nat) (e : Ending) (w' : World) : Prop := ∃ a n c, e = .returned (.tuple #[mV m (.slice a n c), .bool is, .int .i64 (code : Int)]) ∧ RdM w' m (.slice a n c) ∧ Below w.heap.size w w'
set_option maxHeartbeats 4000000 in
theorem say_any (m : Ms) (v : Value) (x : Vt) (n : Int) (w : World) (h : RdM w m v) (hl : m.l.length ≤ 900) (hn : -9223372036854775808 ≤ n ∧ n ≤ 9223372036854775807) (hx : x.vw ≤ 9223372036854775807) : Calls Try.prog 20 #[mV m v, vtV x, .int .i64 n] w (GivesS w (sayR m x n) (sayS m x n).isSome (sayE m x n)) := by
  obtain ⟨i0, hi, hz0, hz1, hz2⟩ := info_parts mark_info
  obtain ⟨ao, len, cap, rfl⟩ := rdt_val h.l
  have MY0 := fun w' (g : Below w.heap.size w w') => may_any m _ w' (h.below g (Nat.le_refl _))
  have FA0 := fun w => faults_any n hn w
  have CL0 := fun w' (g : Below w.heap.size w w') => clone_any _ m.l w' (RdT.below h.l g (Nat.le_refl _)) (by omega)
  have HB := Lib.hid h.b
  have HRD := Lib.hid h.l
  have HRR0 : sayR m x n = if sayE m x n = 0 then (match stbT (insL m.l x) x.vw n with
    | some t => ⟨x.vw, t, laterL (insL m.l x) x.vw⟩
    | none => ⟨m.low, m.root, insL m.l x⟩) else ms0 := rfl
  have HSS0 : sayS m x n = if sayE m x n = 0 then stbT (insL m.l x) x.vw n else none := rfl
  have HEE0 : sayE m x n = if (decide (¬ fN n = 0) && (mayM m && (decide (0 ≤ x.fr) && (decide (x.fr < n) && (numB x.tm && dueB x.vw))))) = false then 1 else if witB m.low x.vw = false then 22 else keyE m.l x := rfl
  have hM0 := fun e : mayM m = true => (show 0 ≤ m.low by have := ((mayM_iff m).1 e).1; unfold numB at this; simp at this; exact this.1)
  have HMS := Lib.hid (fun e : mayM m = true => ((allM_iff m.low m.l).1 ((mayM_iff m).1 e).2.2.2).2)
  obtain ⟨R, hR⟩ : ∃ R, R = sayR m x n := ⟨_, rfl⟩
  obtain ⟨E, hE⟩ : ∃ E, E = sayE m x n := ⟨_, rfl⟩
  obtain ⟨SS, hSS⟩ : ∃ E, E = sayS m x n := ⟨_, rfl⟩
  rw [← hR, ← hE] at HRR0
  rw [← hE] at HEE0
  rw [← hSS, ← hE] at HSS0
  rw [← hR, ← hE, ← hSS]
  obtain ⟨Z, hZ⟩ : ∃ Z, Z = GivesS w R SS.isSome E := ⟨_, rfl⟩
  rw [← hZ]
  have HZ := Lib.hid hZ
  obtain ⟨low, root, l⟩ := m
  obtain ⟨a, b, c⟩ := x
  unfold mV at MY0 ⊢
  unfold vtV
  simp only at MY0 CL0 HB HRD HRR0 HSS0 HEE0 hM0 HMS hl hx ⊢
  have NT0 := fun w => isNum_any c w
  have DU0 := fun w => due_any b w
  obtain ⟨M, hM⟩ : ∃ M, M = mayM ⟨low, root, l⟩ := ⟨_, rfl⟩
  obtain ⟨T, hT⟩ : ∃ M, M = numB c := ⟨_, rfl⟩
  obtain ⟨D, hD⟩ : ∃ M, M = dueB b := ⟨_, rfl⟩
  obtain ⟨W, hW⟩ : ∃ M, M = witB low b := ⟨_, rfl⟩
  obtain ⟨fn0, hfn⟩ : ∃ M, M = fN n := ⟨_, rfl⟩
  have WI0 := fun (h : 0 ≤ low) w => within_any low root b (.slice ao len cap) h hx w
  rw [← hM] at MY0 HEE0 hM0 HMS
  rw [← hT] at NT0 HEE0
  rw [← hD] at DU0 HEE0
  rw [← hW] at WI0 HEE0
  rw [← hfn] at FA0 HEE0
  have HRR := Lib.hid HRR0
  have HSS := Lib.hid HSS0
  have HEE := Lib.hid HEE0
  have MY := Lib.hid MY0
  have NT := Lib.hid NT0
  have DU := Lib.hid DU0
  have CL := Lib.hid CL0
  obtain ⟨q0, q1, q2, bel⟩ := three_allocs w (.cells #[.int .i64 low, .int .i64 root, .slice ao len cap] 24) (.cells #[.int .i64 a, .int .i64 b, .int .i64 c] 30) (.cells #[.int .i64 0, .int .i64 0, .slice none 0 0] 24)
  obtain ⟨W0, hW0⟩ : ∃ W, W = ((w.alloc (.cells #[.int .i64 low, .int .i64 root, .slice ao len cap] 24)).alloc (.cells #[.int .i64 a, .int .i64 b, .int .i64 c] 30)).alloc (.cells #[.int .i64 0, .int .i64 0, .slice none 0 0] 24) := ⟨_, rfl⟩
  rw [← hW0] at q0 q1 q2 bel
  have HW0 := Lib.hid hW0
  obtain ⟨d0, d1, d2, df⟩ := block_cells3 q0
  obtain ⟨e0, e1, e2, ef⟩ := block_cells3 q1
  obtain ⟨z0, z1, z2, zf⟩ := block_cells3 q2
  clear h hR hE hSS hZ HRR0 HSS0 HEE0 MY0 NT0 DU0 CL0 hW0 hM hT hD hW hfn
  by_cases hF : ¬ fn0 = 0
  · rw [if_neg hF] at FA0
    cases M with
    | false =>
      have HE := Lib.hid (show E = 1 by rw [HEE.out, decide_eq_true hF]; rfl)
      have HRZ := Lib.hid (show R = ms0 by rw [HRR.out, if_neg (by rw [HE.out]; decide)])
      have HSZ := Lib.hid (show SS = none by rw [HSS.out, if_neg (by rw [HE.out]; decide)])
      have FA := Lib.hid FA0
      clear FA0
      go_enter Try.func20, Try.ntmps20
      go_upto_region 1 with fail
      rw [← HW0.out]
      go_wp2_with (first | ((with_reducible refine (FA.out _).mono ?_); rintro e w2 ⟨rfl, rfl⟩) | ((with_reducible refine (MY.out _ bel).mono ?_); rintro e w1 ⟨rfl, g⟩; (clear d0 d1 d2 df e0 e1 e2 ef z0 z1 z2 zf); (replace q0 := (g.block _ (lt_of_block q0)).trans q0); (replace q1 := (g.block _ (lt_of_block q1)).trans q1); (replace q2 := (g.block _ (lt_of_block q2)).trans q2); (replace bel := chain bel g); clear g; (obtain ⟨d0, d1, d2, df⟩ := block_cells3 q0); (obtain ⟨e0, e1, e2, ef⟩ := block_cells3 q1); (obtain ⟨z0, z1, z2, zf⟩ := block_cells3 q2)) | ((with_reducible refine (NT.out _).mono ?_); rintro e w2 ⟨rfl, rfl⟩) | ((with_reducible refine (DU.out _).mono ?_); rintro e w2 ⟨rfl, rfl⟩))
      have QZ := Lib.hid (set3_new (u0 := .int .i64 0) (u1 := .int .i64 0) (u2 := .slice none 0 0) q2)
      have FB := Lib.hid (below_grownN bel (set3_grown (w := _) (B := w.heap.size + 2) (u0 := .int .i64 0) (u1 := .int .i64 0) (u2 := .slice none 0 0)) bel.size (fun q e => by injection e with e; omega))
      (try simp only [Exit.inBlock, Exit.then])
      refine bodyPost_ret (results_cell_row_tmp2 rfl _ _ _ 24 _ (0, 0) _ rfl QZ.out Try.underlying24 rfl marks_size) rfl ?_
      show Z (.returned _) _
      rw [HZ.out, HRZ.out, HSZ.out]
      exact ⟨none, 0, 0, by rw [HE.out]; rfl, rdm0 _, FB.out⟩
    | true =>
      by_cases ha0 : 0 ≤ a
      · skip
        by_cases han : a < n
        · skip
          cases T with
          | false =>
            have HE := Lib.hid (show E = 1 by rw [HEE.out, decide_eq_true hF, decide_eq_true ha0, decide_eq_true han]; rfl)
            have HRZ := Lib.hid (show R = ms0 by rw [HRR.out, if_neg (by rw [HE.out]; decide)])
            have HSZ := Lib.hid (show SS = none by rw [HSS.out, if_neg (by rw [HE.out]; decide)])
            have FA := Lib.hid FA0
            clear FA0
            go_enter Try.func20, Try.ntmps20
            go_upto_region 1 with fail
            rw [← HW0.out]
            go_wp2_with (first | ((with_reducible refine (FA.out _).mono ?_); rintro e w2 ⟨rfl, rfl⟩) | ((with_reducible refine (MY.out _ bel).mono ?_); rintro e w1 ⟨rfl, g⟩; (clear d0 d1 d2 df e0 e1 e2 ef z0 z1 z2 zf); (replace q0 := (g.block _ (lt_of_block q0)).trans q0); (replace q1 := (g.block _ (lt_of_block q1)).trans q1); (replace q2 := (g.block _ (lt_of_block q2)).trans q2); (replace bel := chain bel g); clear g; (obtain ⟨d0, d1, d2, df⟩ := block_cells3 q0); (obtain ⟨e0, e1, e2, ef⟩ := block_cells3 q1); (obtain ⟨z0, z1, z2, zf⟩ := block_cells3 q2)) | ((with_reducible refine (NT.out _).mono ?_); rintro e w2 ⟨rfl, rfl⟩) | ((with_reducible refine (DU.out _).mono ?_); rintro e w2 ⟨rfl, rfl⟩))
            have QZ := Lib.hid (set3_new (u0 := .int .i64 0) (u1 := .int .i64 0) (u2 := .slice none 0 0) q2)
            have FB := Lib.hid (below_grownN bel (set3_grown (w := _) (B := w.heap.size + 2) (u0 := .int .i64 0) (u1 := .int .i64 0) (u2 := .slice none 0 0)) bel.size (fun q e => by injection e with e; omega))
            (try simp only [Exit.inBlock, Exit.then])
            refine bodyPost_ret (results_cell_row_tmp2 rfl _ _ _ 24 _ (0, 0) _ rfl QZ.out Try.underlying24 rfl marks_size) rfl ?_
            show Z (.returned _) _
            rw [HZ.out, HRZ.out, HSZ.out]
            exact ⟨none, 0, 0, by rw [HE.out]; rfl, rdm0 _, FB.out⟩
          | true =>
            cases D with
            | false =>
              have HE := Lib.hid (show E = 1 by rw [HEE.out, decide_eq_true hF, decide_eq_true ha0, decide_eq_true han]; rfl)
              have HRZ := Lib.hid (show R = ms0 by rw [HRR.out, if_neg (by rw [HE.out]; decide)])
              have HSZ := Lib.hid (show SS = none by rw [HSS.out, if_neg (by rw [HE.out]; decide)])
              have FA := Lib.hid FA0
              clear FA0
              go_enter Try.func20, Try.ntmps20
              go_upto_region 1 with fail
              rw [← HW0.out]
              go_wp2_with (first | ((with_reducible refine (FA.out _).mono ?_); rintro e w2 ⟨rfl, rfl⟩) | ((with_reducible refine (MY.out _ bel).mono ?_); rintro e w1 ⟨rfl, g⟩; (clear d0 d1 d2 df e0 e1 e2 ef z0 z1 z2 zf); (replace q0 := (g.block _ (lt_of_block q0)).trans q0); (replace q1 := (g.block _ (lt_of_block q1)).trans q1); (replace q2 := (g.block _ (lt_of_block q2)).trans q2); (replace bel := chain bel g); clear g; (obtain ⟨d0, d1, d2, df⟩ := block_cells3 q0); (obtain ⟨e0, e1, e2, ef⟩ := block_cells3 q1); (obtain ⟨z0, z1, z2, zf⟩ := block_cells3 q2)) | ((with_reducible refine (NT.out _).mono ?_); rintro e w2 ⟨rfl, rfl⟩) | ((with_reducible refine (DU.out _).mono ?_); rintro e w2 ⟨rfl, rfl⟩))
              have QZ := Lib.hid (set3_new (u0 := .int .i64 0) (u1 := .int .i64 0) (u2 := .slice none 0 0) q2)
              have FB := Lib.hid (below_grownN bel (set3_grown (w := _) (B := w.heap.size + 2) (u0 := .int .i64 0) (u1 := .int .i64 0) (u2 := .slice none 0 0)) bel.size (fun q e => by injection e with e; omega))
              (try simp only [Exit.inBlock, Exit.then])
              refine bodyPost_ret (results_cell_row_tmp2 rfl _ _ _ 24 _ (0, 0) _ rfl QZ.out Try.underlying24 rfl marks_size) rfl ?_
              show Z (.returned _) _
              rw [HZ.out, HRZ.out, HSZ.out]
              exact ⟨none, 0, 0, by rw [HE.out]; rfl, rdm0 _, FB.out⟩
            | true =>
              have WI := Lib.hid (WI0 (hM0 rfl))
              cases W with
              | false =>
                have HE := Lib.hid (show E = 22 by rw [HEE.out, decide_eq_true hF, decide_eq_true ha0, decide_eq_true han]; rfl)
                have HRZ := Lib.hid (show R = ms0 by rw [HRR.out, if_neg (by rw [HE.out]; decide)])
                have HSZ := Lib.hid (show SS = none by rw [HSS.out, if_neg (by rw [HE.out]; decide)])
                have FA := Lib.hid FA0
                clear FA0
                go_enter Try.func20, Try.ntmps20
                go_upto_region 1 with fail
                rw [← HW0.out]
                go_wp2_with (first | ((with_reducible refine (FA.out _).mono ?_); rintro e w2 ⟨rfl, rfl⟩) | ((with_reducible refine (MY.out _ bel).mono ?_); rintro e w1 ⟨rfl, g⟩; (clear d0 d1 d2 df e0 e1 e2 ef z0 z1 z2 zf); (replace q0 := (g.block _ (lt_of_block q0)).trans q0); (replace q1 := (g.block _ (lt_of_block q1)).trans q1); (replace q2 := (g.block _ (lt_of_block q2)).trans q2); (replace bel := chain bel g); clear g; (obtain ⟨d0, d1, d2, df⟩ := block_cells3 q0); (obtain ⟨e0, e1, e2, ef⟩ := block_cells3 q1); (obtain ⟨z0, z1, z2, zf⟩ := block_cells3 q2)) | ((with_reducible refine (NT.out _).mono ?_); rintro e w2 ⟨rfl, rfl⟩) | ((with_reducible refine (DU.out _).mono ?_); rintro e w2 ⟨rfl, rfl⟩) | ((with_reducible refine (WI.out _).mono ?_); rintro e w5 ⟨rfl, g⟩; (clear d0 d1 d2 df e0 e1 e2 ef z0 z1 z2 zf); (replace q0 := (g.block _ (lt_of_block q0)).trans q0); (replace q1 := (g.block _ (lt_of_block q1)).trans q1); (replace q2 := (g.block _ (lt_of_block q2)).trans q2); (replace bel := chain bel g); clear g; (obtain ⟨d0, d1, d2, df⟩ := block_cells3 q0); (obtain ⟨e0, e1, e2, ef⟩ := block_cells3 q1); (obtain ⟨z0, z1, z2, zf⟩ := block_cells3 q2)))
                have QZ := Lib.hid (set3_new (u0 := .int .i64 0) (u1 := .int .i64 0) (u2 := .slice none 0 0) q2)
                have FB := Lib.hid (below_grownN bel (set3_grown (w := _) (B := w.heap.size + 2) (u0 := .int .i64 0) (u1 := .int .i64 0) (u2 := .slice none 0 0)) bel.size (fun q e => by injection e with e; omega))
                (try simp only [Exit.inBlock, Exit.then])
                refine bodyPost_ret (results_cell_row_tmp2 rfl _ _ _ 24 _ (0, 0) _ rfl QZ.out Try.underlying24 rfl marks_size) rfl ?_
                show Z (.returned _) _
                rw [HZ.out, HRZ.out, HSZ.out]
                exact ⟨none, 0, 0, by rw [HE.out]; rfl, rdm0 _, FB.out⟩
              | true =>
                have HEK := Lib.hid (show E = keyE l ⟨a, b, c⟩ by rw [HEE.out, decide_eq_true hF, decide_eq_true ha0, decide_eq_true han]; rfl)
                have FA := Lib.hid FA0
                clear FA0
                go_enter Try.func20, Try.ntmps20
                go_upto_region 1 with fail
                rw [← HW0.out]
                go_wp2_with (first | ((with_reducible refine (FA.out _).mono ?_); rintro e w2 ⟨rfl, rfl⟩) | ((with_reducible refine (MY.out _ bel).mono ?_); rintro e w1 ⟨rfl, g⟩; (clear d0 d1 d2 df e0 e1 e2 ef z0 z1 z2 zf); (replace q0 := (g.block _ (lt_of_block q0)).trans q0); (replace q1 := (g.block _ (lt_of_block q1)).trans q1); (replace q2 := (g.block _ (lt_of_block q2)).trans q2); (replace bel := chain bel g); clear g; (obtain ⟨d0, d1, d2, df⟩ := block_cells3 q0); (obtain ⟨e0, e1, e2, ef⟩ := block_cells3 q1); (obtain ⟨z0, z1, z2, zf⟩ := block_cells3 q2)) | ((with_reducible refine (NT.out _).mono ?_); rintro e w2 ⟨rfl, rfl⟩) | ((with_reducible refine (DU.out _).mono ?_); rintro e w2 ⟨rfl, rfl⟩) | ((with_reducible refine (WI.out _).mono ?_); rintro e w5 ⟨rfl, g⟩; (clear d0 d1 d2 df e0 e1 e2 ef z0 z1 z2 zf); (replace q0 := (g.block _ (lt_of_block q0)).trans q0); (replace q1 := (g.block _ (lt_of_block q1)).trans q1); (replace q2 := (g.block _ (lt_of_block q2)).trans q2); (replace bel := chain bel g); clear g; (obtain ⟨d0, d1, d2, df⟩ := block_cells3 q0); (obtain ⟨e0, e1, e2, ef⟩ := block_cells3 q1); (obtain ⟨z0, z1, z2, zf⟩ := block_cells3 q2)))
                have Q0 := Lib.hid q0
                have Q1 := Lib.hid q1
                have Q2 := Lib.hid q2
                have BEL := Lib.hid bel
                have HR5 := Lib.hid (RdT.below HRD.out bel (Nat.le_refl _))
                have hz5 : w.heap.size + 2 < w5.heap.size := lt_of_block q2
                have hlen : len = l.length := by
                  obtain ⟨ao', cap', e9, _⟩ := HRD.out
                  injection e9
                subst hlen
                clear d0 d1 d2 df e0 e1 e2 ef z0 z1 z2 zf q0 q1 q2 bel FA MY NT DU WI
                go_loopw [60] (fun i wr => ∃ k : Nat, k ≤ l.length ∧ i = .int .i64 (k : Int) ∧ Hid (∀ j (hj : j < l.length), j < k → keyB ⟨a, b, c⟩ l[j] = false) ∧ Below w5.heap.size w5 wr) (fun i _ => l.length - (intOf i).toNat)
                case atStart => exact ⟨0, Nat.zero_le _, rfl, Lib.hid (fun j _ h => absurd h (Nat.not_lt_zero _)), Below.refl _ _⟩
                case round =>
                  obtain ⟨k, hk, rfl, HA, BK⟩ := hrel
                  by_cases hlt : k < l.length
                  · obtain ⟨pb, po, hao, hpb, C0, C1, C2⟩ := rdt_cells HR5.out k hlt
                    subst hao
                    have c0 := (BK.cell (p := ⟨pb, po + k * 3, none⟩) hpb).trans C0
                    have c1 := (BK.cell (p := ⟨pb, po + k * 3 + 1, none⟩) hpb).trans C1
                    have c2 := (BK.cell (p := ⟨pb, po + k * 3 + 2, none⟩) hpb).trans C2
                    have HKA := Lib.hid (fun h => key_at (x := ⟨a, b, c⟩) hlt HA.out h)
                    have HST := Lib.hid (fun (h : keyB ⟨a, b, c⟩ l[k] = false) => (show ∀ j (hj : j < l.length), j < k + 1 → keyB ⟨a, b, c⟩ l[j] = false from fun j hj h1 => by
                      by_cases e : j = k
                      · subst e; exact h
                      · exact HA.out j hj (by omega)))
                    obtain ⟨y, hy⟩ : ∃ y, y = l[k] := ⟨_, rfl⟩
                    rw [← hy] at c0 c1 c2 HKA HST
                    obtain ⟨a', b', c'⟩ := y
                    unfold keyB at HKA HST
                    simp only at c0 c1 c2 HKA HST
                    clear hy C0 C1 C2
                    go_upto_region 9 with fail
                    obtain ⟨W8, hW8⟩ : ∃ W, W = wr.alloc (.cells #[.int .i64 a', .int .i64 b', .int .i64 c'] 30) := ⟨_, rfl⟩
                    rw [← hW8]
                    have qy : W8.heap[wr.heap.size]? = some (.cells #[.int .i64 a', .int .i64 b', .int .i64 c'] 30 (0, 0)) := by rw [hW8]; exact heap_alloc_new _ _
                    have B8 : Below w5.heap.size w5 W8 := by rw [hW8]; exact BK.alloc BK.size _
                    have q1 := (B8.block _ (lt_of_block Q1.out)).trans Q1.out
                    have q2 := (B8.block _ (lt_of_block Q2.out)).trans Q2.out
                    have bel := chain BEL.out B8
                    obtain ⟨d0, d1, d2, df⟩ := block_cells3 qy
                    obtain ⟨e0, e1, e2, ef⟩ := block_cells3 q1
                    obtain ⟨z0, z1, z2, zf⟩ := block_cells3 q2
                    clear hW8 c0 c1 c2 BK q1 qy
                    by_cases h1 : a' = a
                    · have g1 : (a' == a) = true := by simpa using h1
                      by_cases h2 : b' = b
                      · have g2 : (b' == b) = true := by simpa using h2
                        have HKK := HKA.out (by rw [decide_eq_true h1, decide_eq_true h2]; rfl)
                        by_cases h3 : c' = c
                        · have g3 : (c' == c) = true := by simpa using h3
                          rw [if_pos h3] at HKK
                          have HE := Lib.hid (show E = 16 by rw [HEK.out, HKK])
                          have HRZ := Lib.hid (show R = ms0 by rw [HRR.out, if_neg (by rw [HE.out]; decide)])
                          have HSZ := Lib.hid (show SS = none by rw [HSS.out, if_neg (by rw [HE.out]; decide)])
                          clear HKK h1 h2 h3
                          go_wp2_with fail
                          have QZ := Lib.hid (set3_new (u0 := .int .i64 0) (u1 := .int .i64 0) (u2 := .slice none 0 0) q2)
                          have FB := Lib.hid (below_grownN bel (set3_grown (w := _) (B := w.heap.size + 2) (u0 := .int .i64 0) (u1 := .int .i64 0) (u2 := .slice none 0 0)) bel.size (fun q e => by injection e with e; omega))
                          (try simp only [Exit.inBlock, Exit.then])
                          refine bodyPost_ret (results_cell_row_tmp2 rfl _ _ _ 24 _ (0, 0) _ rfl QZ.out Try.underlying24 rfl marks_size) rfl ?_
                          show Z (.returned _) _
                          rw [HZ.out, HRZ.out, HSZ.out]
                          exact ⟨none, 0, 0, by rw [HE.out]; rfl, rdm0 _, FB.out⟩
                        · have g3 : (c' == c) = false := by simpa using h3
                          rw [if_neg h3] at HKK
                          have HE := Lib.hid (show E = 23 by rw [HEK.out, HKK])
                          have HRZ := Lib.hid (show R = ms0 by rw [HRR.out, if_neg (by rw [HE.out]; decide)])
                          have HSZ := Lib.hid (show SS = none by rw [HSS.out, if_neg (by rw [HE.out]; decide)])
                          clear HKK h1 h2 h3
                          go_wp2_with fail
                          have QZ := Lib.hid (set3_new (u0 := .int .i64 0) (u1 := .int .i64 0) (u2 := .slice none 0 0) q2)
                          have FB := Lib.hid (below_grownN bel (set3_grown (w := _) (B := w.heap.size + 2) (u0 := .int .i64 0) (u1 := .int .i64 0) (u2 := .slice none 0 0)) bel.size (fun q e => by injection e with e; omega))
                          (try simp only [Exit.inBlock, Exit.then])
                          refine bodyPost_ret (results_cell_row_tmp2 rfl _ _ _ 24 _ (0, 0) _ rfl QZ.out Try.underlying24 rfl marks_size) rfl ?_
                          show Z (.returned _) _
                          rw [HZ.out, HRZ.out, HSZ.out]
                          exact ⟨none, 0, 0, by rw [HE.out]; rfl, rdm0 _, FB.out⟩
                      · have g2 : (b' == b) = false := by simpa using h2
                        have HF := Lib.hid (HST.out (by rw [decide_eq_true h1, decide_eq_false h2]; rfl))
                        clear h1 h2
                        go_wp2_with fail
                        exact ⟨⟨k + 1, by omega, by push_cast; rfl, HF, B8⟩, by simp [intOf]; omega⟩
                    · have g1 : (a' == a) = false := by simpa using h1
                      have HF := Lib.hid (HST.out (by rw [decide_eq_false h1]; rfl))
                      clear h1
                      go_wp2_with fail
                      exact ⟨⟨k + 1, by omega, by push_cast; rfl, HF, B8⟩, by simp [intOf]; omega⟩
                  · obtain rfl : k = l.length := by omega
                    have HK0 := key_no (x := ⟨a, b, c⟩) HA.out
                    have HE := Lib.hid (show E = 0 by rw [HEK.out, HK0])
                    have HFR := Lib.hid (key_free HK0)
                    have p0 := (BK.block _ (lt_of_block Q0.out)).trans Q0.out
                    have p1 := (BK.block _ (lt_of_block Q1.out)).trans Q1.out
                    have p2 := (BK.block _ (lt_of_block Q2.out)).trans Q2.out
                    have bel := chain BEL.out BK
                    have hzr : w.heap.size + 2 < wr.heap.size := lt_of_block p2
                    have hS := (show wr.drew.heap[w.heap.size]? = some (.cells #[.int .i64 low, .int .i64 root, .slice ao l.length cap] 24 (0, 0)) ∧ wr.drew.heap[w.heap.size + 1]? = some (.cells #[.int .i64 a, .int .i64 b, .int .i64 c] 30 (0, 0)) ∧ wr.drew.heap[w.heap.size + 2]? = some (.cells #[.int .i64 0, .int .i64 0, .slice none 0 0] 24 (0, 0)) from ⟨p0, p1, p2⟩)
                    have hlz := hl
                    clear HR5 Q0 Q1 Q2 BEL BK HK0 HEK HA
                    go_upto_region 14 with fail
                    refine v_start 7 (fun w' => w'.heap[w.heap.size]? = some (.cells #[.int .i64 low, .int .i64 root, .slice ao l.length cap] 24 (0, 0)) ∧ w'.heap[w.heap.size + 1]? = some (.cells #[.int .i64 a, .int .i64 b, .int .i64 c] 30 (0, 0)) ∧ w'.heap[w.heap.size + 2]? = some (.cells #[.int .i64 0, .int .i64 0, .slice none 0 0] 24 (0, 0))) (by kernel_rfl) ?_
                    refine v_take (i := 0) (d := (some 84)) (v := ?_) rfl rfl (by kernel_rfl) (fun _ _ _ h => h) (by rfl) hS (fun w' hb' => ?_) ?_
                    rotate_left
                    · (try go_simp); (try with_reducible rfl)
                    try simp only [Act.put, List.setIfInBounds_toArray, List.set_cons_zero, List.set_cons_succ]
                    refine v_take (i := 1) (d := (some 85)) (v := ?_) rfl rfl (by kernel_rfl) (fun _ _ _ h => h) (by rfl) hS (fun w' hb' => ?_) ?_
                    rotate_left
                    · obtain ⟨d0, d1, d2, df⟩ := block_cells3 hb'.1; (try go_simp); (try with_reducible rfl)
                    try simp only [Act.put, List.setIfInBounds_toArray, List.set_cons_zero, List.set_cons_succ]
                    refine v_take (i := 3) (d := (some 87)) (v := ?_) rfl rfl (by kernel_rfl) (fun _ _ _ h => h) (by rfl) hS (fun w' hb' => ?_) ?_
                    rotate_left
                    · obtain ⟨e0, e1, e2, ef⟩ := block_cells3 hb'.2.1; (try go_simp); (try with_reducible rfl)
                    try simp only [Act.put, List.setIfInBounds_toArray, List.set_cons_zero, List.set_cons_succ]
                    refine v_run2 (i := 2) (k := 4) rfl rfl (by kernel_rfl) (by kernel_rfl) (by rfl) (by rfl) (fun K hK => ?_) (fun K hK => ?_)
                    · skip
                      go_simp
                      refine (CL.out _ bel.drew).mono ?_
                      rintro e w6 ⟨v6, rfl, own6, g6⟩
                      have hS6 := And.intro ((g6.block _ (lt_of_block hS.1)).trans hS.1) (And.intro ((g6.block _ (lt_of_block hS.2.1)).trans hS.2.1) ((g6.block _ (lt_of_block hS.2.2)).trans hS.2.2))
                      have own6' := own_base own6 (b := w.heap.size + 3) (by show _ ≤ wr.heap.size; omega)
                      have bel6 := chain bel.drew g6
                      have hz6 : w.heap.size + 3 ≤ w6.heap.size := Nat.le_trans (by show _ ≤ wr.heap.size; omega) g6.size
                      refine hK _ _ ⟨hS6, ?_⟩
                      clear hK K own6 g6 hS
                      have hS := hS6
                      clear hS6
                      try simp only [Act.put, List.setIfInBounds_toArray, List.set_cons_zero, List.set_cons_succ]
                      refine v_run (i := 4) rfl (by kernel_rfl) (by kernel_rfl) (by rfl) (fun K hK => ?_)
                      go_simp
                      have hS6 := And.intro ((((Below.refl w6.heap.size w6).alloc (Nat.le_refl _) (.cells #[.int .i64 a, .int .i64 b, .int .i64 c] 30)).block _ (lt_of_block hS.1)).trans hS.1) (And.intro ((((Below.refl w6.heap.size w6).alloc (Nat.le_refl _) (.cells #[.int .i64 a, .int .i64 b, .int .i64 c] 30)).block _ (lt_of_block hS.2.1)).trans hS.2.1) ((((Below.refl w6.heap.size w6).alloc (Nat.le_refl _) (.cells #[.int .i64 a, .int .i64 b, .int .i64 c] 30)).block _ (lt_of_block hS.2.2)).trans hS.2.2))
                      refine hK _ _ ⟨hS6, ?_⟩
                      clear hK K
                      have qr6 := heap_alloc_new w6 (.cells #[.int .i64 a, .int .i64 b, .int .i64 c] 30)
                      have HNW := Lib.hid (show ∀ j u, (vtC ⟨a, b, c⟩)[j]? = some u → (w6.alloc (.cells #[.int .i64 a, .int .i64 b, .int .i64 c] 30)).cell? ((⟨w6.heap.size, 0, none⟩ : Addr).add j) = some u from fun j u hj => by
                        rw [Addr.add_lit, Nat.zero_add, block_cell qr6 j]; simpa [vtC] using hj)
                      replace own6' := own6'.alloc (.cells #[.int .i64 a, .int .i64 b, .int .i64 c] 30)
                      replace bel6 := bel6.alloc bel6.size (.cells #[.int .i64 a, .int .i64 b, .int .i64 c] 30)
                      replace hz6 : w.heap.size + 3 ≤ (w6.alloc (.cells #[.int .i64 a, .int .i64 b, .int .i64 c] 30)).heap.size := by rw [World.size_alloc]; omega
                      clear hS
                      have hS := hS6
                      clear hS6
                      try simp only [Act.put, List.setIfInBounds_toArray, List.set_cons_zero, List.set_cons_succ]
                      refine v_run (i := 5) rfl (by kernel_rfl) (by kernel_rfl) (by rfl) (fun K hK => ?_)
                      refine op_app_at (.tmp 86) (.tmp 88) 22 rfl (w.heap.size + 3) 30 i0 (.agg #[.int .i64 0, .int .i64 0, .int .i64 0]) 3 24 Try.underlying22 hi hz0 hz1 hz2 rfl (by decide) _ l.length (l.flatMap vtC) rfl own6' ⟨w6.heap.size, 0, none⟩ 1 1 (vtC ⟨a, b, c⟩) rfl rfl HNW.out (vtC_one _) (by unfold maxLen; omega) (by omega) hz6 ?_
                      intro v7 w7 own7 g7 hl7
                      have hne : ∀ k, k < w.heap.size + 3 → some k ≠ v6.ownBlock := fun k hk e => by have h9 : w.heap.size + 3 ≤ k := (own6'.lt _ e.symm).1; omega
                      have hS7 := And.intro ((g7.block _ (lt_of_block hS.1) (hne _ (by omega))).trans hS.1) (And.intro ((g7.block _ (lt_of_block hS.2.1) (hne _ (by omega))).trans hS.2.1) ((g7.block _ (lt_of_block hS.2.2) (hne _ (by omega))).trans hS.2.2))
                      have bel7 := below_grownN bel6 g7 bel6.size (fun q e => by have h9 : w.heap.size + 3 ≤ q := (own6'.lt _ e).1; omega)
                      refine hK _ _ ⟨hS7, ?_⟩
                      clear hK K hS HNW hne g7 own6' bel6 hz6 hl7
                      have hS := hS7
                      clear hS7
                      try simp only [Act.put, List.setIfInBounds_toArray, List.set_cons_zero, List.set_cons_succ]
                      refine v_take (i := 6) (d := (some 90)) (v := ?_) rfl rfl (by kernel_rfl) (fun _ _ _ h => h) (by rfl) hS (fun w' hb' => ?_) ?_
                      rotate_left
                      · (try go_simp); (try with_reducible rfl)
                      try simp only [Act.put, List.setIfInBounds_toArray, List.set_cons_zero, List.set_cons_succ]
                      refine v_last (i := 7) rfl (by kernel_rfl) (by kernel_rfl) (by kernel_rfl) (by rfl) (fun K hK => ?_)
                      obtain ⟨d0, d1, d2, df⟩ := block_cells3 hS.1
                      obtain ⟨gg, cc, rfl⟩ := ownsRow_succ own7
                      go_simp
                      refine hK _ _ ?_
                      clear hK K d0 d1 d2 df
                      obtain ⟨W8, hW8⟩ : ∃ W, W = w7.setCell ⟨w.heap.size, 2, none⟩ (.slice (some ⟨gg, 0, none⟩) (l.length + 1) cc) := ⟨_, rfl⟩
                      rw [← hW8]
                      have hgg : w.heap.size + 3 ≤ gg := (own7.lt gg rfl).1
                      have G8 : w7.grownBy W8 (some w.heap.size) := by rw [hW8]; exact grown_setB grown_reflB
                      have own8 := own7.kept G8 (.inr (by simp [Value.ownBlock]; omega))
                      have p0 : W8.heap[w.heap.size]? = some (.cells #[.int .i64 low, .int .i64 root, .slice (some ⟨gg, 0, none⟩) (l.length + 1) cc] 24 (0, 0)) := by rw [hW8]; simpa using set_at (i := 2) (u := .slice (some ⟨gg, 0, none⟩) (l.length + 1) cc) hS.1
                      have p1 : W8.heap[w.heap.size + 1]? = some (.cells #[.int .i64 a, .int .i64 b, .int .i64 c] 30 (0, 0)) := (G8.block _ (lt_of_block hS.2.1) (by simp)).trans hS.2.1
                      have bel8 := below_grownN bel7 G8 bel7.size (fun q e => by injection e with e; omega)
                      have p2 : W8.heap[w.heap.size + 2]? = some (.cells #[.int .i64 0, .int .i64 0, .slice none 0 0] 24 (0, 0)) := (G8.block _ (lt_of_block hS.2.2) (by simp)).trans hS.2.2
                      have hex : (l.flatMap vtC ++ vtC ⟨a, b, c⟩) = (l ++ [(⟨a, b, c⟩ : Vt)]).flatMap vtC := by simp
                      have hll : (l ++ [(⟨a, b, c⟩ : Vt)]).length = l.length + 1 := by simp
                      rw [hex, ← hll] at own8
                      have SO := sort_any (w.heap.size + 3) gg cc (l ++ [⟨a, b, c⟩]) W8 own8 (by rw [hll]; omega)
                      rw [hll] at SO
                      obtain ⟨d0, d1, d2, df⟩ := block_cells3 p0
                      clear hW8 G8 own7 bel7 hS hex own8
                      go_wp2_with fail
                      refine SO.mono ?_
                      rintro e w9 ⟨rfl, ts, hp, hsr, own9, g9⟩
                      have hts := sorted_ins (x := ⟨a, b, c⟩) (HMS.out (by first | rfl | trivial)) HFR.out hp hsr
                      subst hts
                      have hli := hp.length_eq
                      rw [hll] at hli
                      have own9' : w9.ownsRow (w.heap.size + 3) 30 3 (.slice (some ⟨gg, 0, none⟩) (l.length + 1) cc) (insL l ⟨a, b, c⟩).length ((insL l ⟨a, b, c⟩).flatMap vtC) := by rw [hli]; exact own9
                      have rd9 := own_rdt own9'
                      have hneg : ∀ k, k < w.heap.size + 3 → some k ≠ some gg := fun k hk e => by injection e with e; omega
                      have n0 := (g9.block _ (lt_of_block p0) (hneg _ (by omega))).trans p0
                      have n1 := (g9.block _ (lt_of_block p1) (hneg _ (by omega))).trans p1
                      have n2 := (g9.block _ (lt_of_block p2) (hneg _ (by omega))).trans p2
                      have bel9 := below_grownN bel8 g9 bel8.size (fun q e => by injection e with e; omega)
                      have ST0 := stable_any ⟨low, root, insL l ⟨a, b, c⟩⟩ (.slice (some ⟨gg, 0, none⟩) (l.length + 1) cc) b n w9 rd9 hn
                      have HRB := Lib.hid (show ∀ y ∈ insL l ⟨a, b, c⟩, y.vw ≤ 9223372036854775807 from fun y hy => by
                        rcases (ins_mem HFR.out).1 hy with rfl | hy
                        · exact hx
                        · exact HB.out y hy)
                      obtain ⟨LI, hLI⟩ : ∃ L, L = insL l ⟨a, b, c⟩ := ⟨_, rfl⟩
                      rw [← hLI] at rd9 ST0 HRR HSS HRB hli
                      unfold mV at ST0
                      simp only at ST0
                      obtain ⟨ST, hST⟩ : ∃ S, S = stbT LI b n := ⟨_, rfl⟩
                      rw [← hST] at ST0 HRR HSS
                      have STB := Lib.hid ST0
                      have HLIL := Lib.hid hli
                      have HRD9 := Lib.hid rd9
                      obtain ⟨d0, d1, d2, df⟩ := block_cells3 n0
                      obtain ⟨e0, e1, e2, ef⟩ := block_cells3 n1
                      clear own9 own9' p0 p1 p2 g9 hneg SO hp hsr hLI hST hll hli ST0 rd9 bel8
                      cases ST with
                      | none =>
                        have HRZ := Lib.hid (show R = ⟨low, root, LI⟩ by rw [HRR.out, if_pos HE.out])
                        have HSZ := Lib.hid (show SS = none by rw [HSS.out, if_pos HE.out])
                        go_wp2_with fail
                        refine STB.out.mono ?_
                        rintro e w10 ⟨rfl, g⟩
                        have m0 := (g.block _ (lt_of_block n0)).trans n0
                        have m2 := (g.block _ (lt_of_block n2)).trans n2
                        have bel := chain bel9 g
                        have rd10 := RdT.below HRD9.out g (Nat.le_refl _)
                        have G3 := set3_grown (w := w10) (B := w.heap.size + 2) (u0 := .int .i64 low) (u1 := .int .i64 root) (u2 := .slice (some ⟨gg, 0, none⟩) (l.length + 1) cc)
                        have QZ := Lib.hid (set3_new (u0 := .int .i64 low) (u1 := .int .i64 root) (u2 := .slice (some ⟨gg, 0, none⟩) (l.length + 1) cc) m2)
                        have FB := Lib.hid (below_grownN bel G3 bel.size (fun q e => by injection e with e; omega))
                        have RDF := Lib.hid (rdt_three m2 G3 rd10)
                        clear d0 d1 d2 df e0 e1 e2 ef n0 n1 n2 g STB bel9 rd10 G3
                        obtain ⟨d0, d1, d2, df⟩ := block_cells3 m0
                        obtain ⟨z0, z1, z2, zf⟩ := block_cells3 m2
                        clear m0 m2 bel
                        go_wp2_with fail
                        (try simp only [Exit.inBlock, Exit.then])
                        refine bodyPost_ret (results_cell_row_tmp2 rfl _ _ _ 24 _ (0, 0) _ rfl QZ.out Try.underlying24 rfl marks_size) rfl ?_
                        show Z (.returned _) _
                        rw [HZ.out, HRZ.out, HSZ.out]
                        exact ⟨some ⟨gg, 0, none⟩, l.length + 1, cc, by rw [HE.out]; rfl, ⟨RDF.out, HRB.out⟩, FB.out⟩
                      | some tt =>
                        have HRZ := Lib.hid (show R = ⟨b, tt, laterL LI b⟩ by rw [HRR.out, if_pos HE.out])
                        have HSZ := Lib.hid (show SS = some tt by rw [HSS.out, if_pos HE.out])
                        go_wp2_with fail
                        refine STB.out.mono ?_
                        rintro e w10 ⟨rfl, g⟩
                        have m0 := (g.block _ (lt_of_block n0)).trans n0
                        have m1 := (g.block _ (lt_of_block n1)).trans n1
                        have m2 := (g.block _ (lt_of_block n2)).trans n2
                        have bel := chain bel9 g
                        have MO0 := moved_any ⟨low, root, LI⟩ (.slice (some ⟨gg, 0, none⟩) (l.length + 1) cc) b tt w10 ⟨RdT.below HRD9.out g (Nat.le_refl _), HRB.out⟩ (by rw [HLIL.out]; omega)
                        unfold mV at MO0
                        simp only at MO0
                        have MO := Lib.hid MO0
                        clear d0 d1 d2 df e0 e1 e2 ef n0 n1 n2 g STB bel9 MO0
                        obtain ⟨d0, d1, d2, df⟩ := block_cells3 m0
                        obtain ⟨e0, e1, e2, ef⟩ := block_cells3 m1
                        go_wp2_with fail
                        refine MO.out.mono ?_
                        rintro e w11 ⟨a9, n9, c9, rfl, rd11, g⟩
                        simp only [mV]
                        have k2 := (g.block _ (lt_of_block m2)).trans m2
                        replace bel := chain bel g
                        have G3 := set3_grown (w := w11) (B := w.heap.size + 2) (u0 := .int .i64 b) (u1 := .int .i64 tt) (u2 := .slice a9 n9 c9)
                        have QZ := Lib.hid (set3_new (u0 := .int .i64 b) (u1 := .int .i64 tt) (u2 := .slice a9 n9 c9) k2)
                        have FB := Lib.hid (below_grownN bel G3 bel.size (fun q e => by injection e with e; omega))
                        have RDF := Lib.hid (rdt_three k2 G3 rd11.l)
                        have RDB := Lib.hid rd11.b
                        clear d0 d1 d2 df e0 e1 e2 ef m0 m1 m2 g rd11 G3 MO bel
                        obtain ⟨z0, z1, z2, zf⟩ := block_cells3 k2
                        clear k2
                        go_wp2_with fail
                        (try simp only [Exit.inBlock, Exit.then])
                        refine bodyPost_ret (results_cell_row_tmp2 rfl _ _ _ 24 _ (0, 0) _ rfl QZ.out Try.underlying24 rfl marks_size) rfl ?_
                        show Z (.returned _) _
                        rw [HZ.out, HRZ.out, HSZ.out]
                        exact ⟨a9, n9, c9, by rw [HE.out]; rfl, ⟨RDF.out, RDB.out⟩, FB.out⟩
                    · skip
                      go_simp
                      have hS6 := And.intro ((((Below.refl wr.heap.size wr).alloc (Nat.le_refl _) (.cells #[.int .i64 a, .int .i64 b, .int .i64 c] 30)).drew.block _ (lt_of_block hS.1)).trans hS.1) (And.intro ((((Below.refl wr.heap.size wr).alloc (Nat.le_refl _) (.cells #[.int .i64 a, .int .i64 b, .int .i64 c] 30)).drew.block _ (lt_of_block hS.2.1)).trans hS.2.1) ((((Below.refl wr.heap.size wr).alloc (Nat.le_refl _) (.cells #[.int .i64 a, .int .i64 b, .int .i64 c] 30)).drew.block _ (lt_of_block hS.2.2)).trans hS.2.2))
                      refine hK _ _ ⟨hS6, ?_⟩
                      clear hK K
                      have qr := (show ((wr.alloc (.cells #[.int .i64 a, .int .i64 b, .int .i64 c] 30)).drew).heap[wr.heap.size]? = some (.cells #[.int .i64 a, .int .i64 b, .int .i64 c] 30 (0, 0)) from heap_alloc_new wr (.cells #[.int .i64 a, .int .i64 b, .int .i64 c] 30))
                      have belB : Below w.heap.size w ((wr.alloc (.cells #[.int .i64 a, .int .i64 b, .int .i64 c] 30)).drew) := (bel.alloc bel.size _).drew
                      clear hS
                      have hS := hS6
                      clear hS6
                      try simp only [Act.put, List.setIfInBounds_toArray, List.set_cons_zero, List.set_cons_succ]
                      refine v_run (i := 2) rfl (by kernel_rfl) (by kernel_rfl) (by rfl) (fun K hK => ?_)
                      go_simp
                      refine (CL.out _ belB).mono ?_
                      rintro e w6 ⟨v6, rfl, own6, g6⟩
                      have hS6 := And.intro ((g6.block _ (lt_of_block hS.1)).trans hS.1) (And.intro ((g6.block _ (lt_of_block hS.2.1)).trans hS.2.1) ((g6.block _ (lt_of_block hS.2.2)).trans hS.2.2))
                      have own6' := own_base own6 (b := w.heap.size + 3) (by show _ ≤ (wr.alloc _).heap.size; rw [World.size_alloc]; omega)
                      have bel6 := chain belB g6
                      have qr6 := (g6.block _ (lt_of_block qr)).trans qr
                      have hz6 : w.heap.size + 3 ≤ w6.heap.size := Nat.le_trans (by show _ ≤ (wr.alloc _).heap.size; rw [World.size_alloc]; omega) g6.size
                      have HNW := Lib.hid (show ∀ j u, (vtC ⟨a, b, c⟩)[j]? = some u → w6.cell? ((⟨wr.heap.size, 0, none⟩ : Addr).add j) = some u from fun j u hj => by
                        rw [Addr.add_lit, Nat.zero_add, block_cell qr6 j]; simpa [vtC] using hj)
                      refine hK _ _ ⟨hS6, ?_⟩
                      clear hK K own6 g6 hS qr
                      have hS := hS6
                      clear hS6
                      try simp only [Act.put, List.setIfInBounds_toArray, List.set_cons_zero, List.set_cons_succ]
                      refine v_run (i := 5) rfl (by kernel_rfl) (by kernel_rfl) (by rfl) (fun K hK => ?_)
                      refine op_app_at (.tmp 86) (.tmp 88) 22 rfl (w.heap.size + 3) 30 i0 (.agg #[.int .i64 0, .int .i64 0, .int .i64 0]) 3 24 Try.underlying22 hi hz0 hz1 hz2 rfl (by decide) _ l.length (l.flatMap vtC) rfl own6' ⟨wr.heap.size, 0, none⟩ 1 1 (vtC ⟨a, b, c⟩) rfl rfl HNW.out (vtC_one _) (by unfold maxLen; omega) (by omega) hz6 ?_
                      intro v7 w7 own7 g7 hl7
                      have hne : ∀ k, k < w.heap.size + 3 → some k ≠ v6.ownBlock := fun k hk e => by have h9 : w.heap.size + 3 ≤ k := (own6'.lt _ e.symm).1; omega
                      have hS7 := And.intro ((g7.block _ (lt_of_block hS.1) (hne _ (by omega))).trans hS.1) (And.intro ((g7.block _ (lt_of_block hS.2.1) (hne _ (by omega))).trans hS.2.1) ((g7.block _ (lt_of_block hS.2.2) (hne _ (by omega))).trans hS.2.2))
                      have bel7 := below_grownN bel6 g7 bel6.size (fun q e => by have h9 : w.heap.size + 3 ≤ q := (own6'.lt _ e).1; omega)
                      refine hK _ _ ⟨hS7, ?_⟩
                      clear hK K hS HNW hne g7 own6' bel6 hz6 hl7
                      have hS := hS7
                      clear hS7
                      try simp only [Act.put, List.setIfInBounds_toArray, List.set_cons_zero, List.set_cons_succ]
                      refine v_take (i := 6) (d := (some 90)) (v := ?_) rfl rfl (by kernel_rfl) (fun _ _ _ h => h) (by rfl) hS (fun w' hb' => ?_) ?_
                      rotate_left
                      · (try go_simp); (try with_reducible rfl)
                      try simp only [Act.put, List.setIfInBounds_toArray, List.set_cons_zero, List.set_cons_succ]
                      refine v_last (i := 7) rfl (by kernel_rfl) (by kernel_rfl) (by kernel_rfl) (by rfl) (fun K hK => ?_)
                      obtain ⟨d0, d1, d2, df⟩ := block_cells3 hS.1
                      obtain ⟨gg, cc, rfl⟩ := ownsRow_succ own7
                      go_simp
                      refine hK _ _ ?_
                      clear hK K d0 d1 d2 df
                      obtain ⟨W8, hW8⟩ : ∃ W, W = w7.setCell ⟨w.heap.size, 2, none⟩ (.slice (some ⟨gg, 0, none⟩) (l.length + 1) cc) := ⟨_, rfl⟩
                      rw [← hW8]
                      have hgg : w.heap.size + 3 ≤ gg := (own7.lt gg rfl).1
                      have G8 : w7.grownBy W8 (some w.heap.size) := by rw [hW8]; exact grown_setB grown_reflB
                      have own8 := own7.kept G8 (.inr (by simp [Value.ownBlock]; omega))
                      have p0 : W8.heap[w.heap.size]? = some (.cells #[.int .i64 low, .int .i64 root, .slice (some ⟨gg, 0, none⟩) (l.length + 1) cc] 24 (0, 0)) := by rw [hW8]; simpa using set_at (i := 2) (u := .slice (some ⟨gg, 0, none⟩) (l.length + 1) cc) hS.1
                      have p1 : W8.heap[w.heap.size + 1]? = some (.cells #[.int .i64 a, .int .i64 b, .int .i64 c] 30 (0, 0)) := (G8.block _ (lt_of_block hS.2.1) (by simp)).trans hS.2.1
                      have bel8 := below_grownN bel7 G8 bel7.size (fun q e => by injection e with e; omega)
                      have p2 : W8.heap[w.heap.size + 2]? = some (.cells #[.int .i64 0, .int .i64 0, .slice none 0 0] 24 (0, 0)) := (G8.block _ (lt_of_block hS.2.2) (by simp)).trans hS.2.2
                      have hex : (l.flatMap vtC ++ vtC ⟨a, b, c⟩) = (l ++ [(⟨a, b, c⟩ : Vt)]).flatMap vtC := by simp
                      have hll : (l ++ [(⟨a, b, c⟩ : Vt)]).length = l.length + 1 := by simp
                      rw [hex, ← hll] at own8
                      have SO := sort_any (w.heap.size + 3) gg cc (l ++ [⟨a, b, c⟩]) W8 own8 (by rw [hll]; omega)
                      rw [hll] at SO
                      obtain ⟨d0, d1, d2, df⟩ := block_cells3 p0
                      clear hW8 G8 own7 bel7 hS hex own8
                      go_wp2_with fail
                      refine SO.mono ?_
                      rintro e w9 ⟨rfl, ts, hp, hsr, own9, g9⟩
                      have hts := sorted_ins (x := ⟨a, b, c⟩) (HMS.out (by first | rfl | trivial)) HFR.out hp hsr
                      subst hts
                      have hli := hp.length_eq
                      rw [hll] at hli
                      have own9' : w9.ownsRow (w.heap.size + 3) 30 3 (.slice (some ⟨gg, 0, none⟩) (l.length + 1) cc) (insL l ⟨a, b, c⟩).length ((insL l ⟨a, b, c⟩).flatMap vtC) := by rw [hli]; exact own9
                      have rd9 := own_rdt own9'
                      have hneg : ∀ k, k < w.heap.size + 3 → some k ≠ some gg := fun k hk e => by injection e with e; omega
                      have n0 := (g9.block _ (lt_of_block p0) (hneg _ (by omega))).trans p0
                      have n1 := (g9.block _ (lt_of_block p1) (hneg _ (by omega))).trans p1
                      have n2 := (g9.block _ (lt_of_block p2) (hneg _ (by omega))).trans p2
                      have bel9 := below_grownN bel8 g9 bel8.size (fun q e => by injection e with e; omega)
                      have ST0 := stable_any ⟨low, root, insL l ⟨a, b, c⟩⟩ (.slice (some ⟨gg, 0, none⟩) (l.length + 1) cc) b n w9 rd9 hn
                      have HRB := Lib.hid (show ∀ y ∈ insL l ⟨a, b, c⟩, y.vw ≤ 9223372036854775807 from fun y hy => by
                        rcases (ins_mem HFR.out).1 hy with rfl | hy
                        · exact hx
                        · exact HB.out y hy)
                      obtain ⟨LI, hLI⟩ : ∃ L, L = insL l ⟨a, b, c⟩ := ⟨_, rfl⟩
                      rw [← hLI] at rd9 ST0 HRR HSS HRB hli
                      unfold mV at ST0
                      simp only at ST0
                      obtain ⟨ST, hST⟩ : ∃ S, S = stbT LI b n := ⟨_, rfl⟩
                      rw [← hST] at ST0 HRR HSS
                      have STB := Lib.hid ST0
                      have HLIL := Lib.hid hli
                      have HRD9 := Lib.hid rd9
                      obtain ⟨d0, d1, d2, df⟩ := block_cells3 n0
                      obtain ⟨e0, e1, e2, ef⟩ := block_cells3 n1
                      clear own9 own9' p0 p1 p2 g9 hneg SO hp hsr hLI hST hll hli ST0 rd9 bel8
                      cases ST with
                      | none =>
                        have HRZ := Lib.hid (show R = ⟨low, root, LI⟩ by rw [HRR.out, if_pos HE.out])
                        have HSZ := Lib.hid (show SS = none by rw [HSS.out, if_pos HE.out])
                        go_wp2_with fail
                        refine STB.out.mono ?_
                        rintro e w10 ⟨rfl, g⟩
                        have m0 := (g.block _ (lt_of_block n0)).trans n0
                        have m2 := (g.block _ (lt_of_block n2)).trans n2
                        have bel := chain bel9 g
                        have rd10 := RdT.below HRD9.out g (Nat.le_refl _)
                        have G3 := set3_grown (w := w10) (B := w.heap.size + 2) (u0 := .int .i64 low) (u1 := .int .i64 root) (u2 := .slice (some ⟨gg, 0, none⟩) (l.length + 1) cc)
                        have QZ := Lib.hid (set3_new (u0 := .int .i64 low) (u1 := .int .i64 root) (u2 := .slice (some ⟨gg, 0, none⟩) (l.length + 1) cc) m2)
                        have FB := Lib.hid (below_grownN bel G3 bel.size (fun q e => by injection e with e; omega))
                        have RDF := Lib.hid (rdt_three m2 G3 rd10)
                        clear d0 d1 d2 df e0 e1 e2 ef n0 n1 n2 g STB bel9 rd10 G3
                        obtain ⟨d0, d1, d2, df⟩ := block_cells3 m0
                        obtain ⟨z0, z1, z2, zf⟩ := block_cells3 m2
                        clear m0 m2 bel
                        go_wp2_with fail
                        (try simp only [Exit.inBlock, Exit.then])
                        refine bodyPost_ret (results_cell_row_tmp2 rfl _ _ _ 24 _ (0, 0) _ rfl QZ.out Try.underlying24 rfl marks_size) rfl ?_
                        show Z (.returned _) _
                        rw [HZ.out, HRZ.out, HSZ.out]
                        exact ⟨some ⟨gg, 0, none⟩, l.length + 1, cc, by rw [HE.out]; rfl, ⟨RDF.out, HRB.out⟩, FB.out⟩
                      | some tt =>
                        have HRZ := Lib.hid (show R = ⟨b, tt, laterL LI b⟩ by rw [HRR.out, if_pos HE.out])
                        have HSZ := Lib.hid (show SS = some tt by rw [HSS.out, if_pos HE.out])
                        go_wp2_with fail
                        refine STB.out.mono ?_
                        rintro e w10 ⟨rfl, g⟩
                        have m0 := (g.block _ (lt_of_block n0)).trans n0
                        have m1 := (g.block _ (lt_of_block n1)).trans n1
                        have m2 := (g.block _ (lt_of_block n2)).trans n2
                        have bel := chain bel9 g
                        have MO0 := moved_any ⟨low, root, LI⟩ (.slice (some ⟨gg, 0, none⟩) (l.length + 1) cc) b tt w10 ⟨RdT.below HRD9.out g (Nat.le_refl _), HRB.out⟩ (by rw [HLIL.out]; omega)
                        unfold mV at MO0
                        simp only at MO0
                        have MO := Lib.hid MO0
                        clear d0 d1 d2 df e0 e1 e2 ef n0 n1 n2 g STB bel9 MO0
                        obtain ⟨d0, d1, d2, df⟩ := block_cells3 m0
                        obtain ⟨e0, e1, e2, ef⟩ := block_cells3 m1
                        go_wp2_with fail
                        refine MO.out.mono ?_
                        rintro e w11 ⟨a9, n9, c9, rfl, rd11, g⟩
                        simp only [mV]
                        have k2 := (g.block _ (lt_of_block m2)).trans m2
                        replace bel := chain bel g
                        have G3 := set3_grown (w := w11) (B := w.heap.size + 2) (u0 := .int .i64 b) (u1 := .int .i64 tt) (u2 := .slice a9 n9 c9)
                        have QZ := Lib.hid (set3_new (u0 := .int .i64 b) (u1 := .int .i64 tt) (u2 := .slice a9 n9 c9) k2)
                        have FB := Lib.hid (below_grownN bel G3 bel.size (fun q e => by injection e with e; omega))
                        have RDF := Lib.hid (rdt_three k2 G3 rd11.l)
                        have RDB := Lib.hid rd11.b
                        clear d0 d1 d2 df e0 e1 e2 ef m0 m1 m2 g rd11 G3 MO bel
                        obtain ⟨z0, z1, z2, zf⟩ := block_cells3 k2
                        clear k2
                        go_wp2_with fail
                        (try simp only [Exit.inBlock, Exit.then])
                        refine bodyPost_ret (results_cell_row_tmp2 rfl _ _ _ 24 _ (0, 0) _ rfl QZ.out Try.underlying24 rfl marks_size) rfl ?_
                        show Z (.returned _) _
                        rw [HZ.out, HRZ.out, HSZ.out]
                        exact ⟨a9, n9, c9, by rw [HE.out]; rfl, ⟨RDF.out, RDB.out⟩, FB.out⟩
        · skip
          have HE := Lib.hid (show E = 1 by rw [HEE.out, decide_eq_true hF, decide_eq_true ha0, decide_eq_false han]; rfl)
          have HRZ := Lib.hid (show R = ms0 by rw [HRR.out, if_neg (by rw [HE.out]; decide)])
          have HSZ := Lib.hid (show SS = none by rw [HSS.out, if_neg (by rw [HE.out]; decide)])
          have FA := Lib.hid FA0
          clear FA0
          go_enter Try.func20, Try.ntmps20
          go_upto_region 1 with fail
          rw [← HW0.out]
          go_wp2_with (first | ((with_reducible refine (FA.out _).mono ?_); rintro e w2 ⟨rfl, rfl⟩) | ((with_reducible refine (MY.out _ bel).mono ?_); rintro e w1 ⟨rfl, g⟩; (clear d0 d1 d2 df e0 e1 e2 ef z0 z1 z2 zf); (replace q0 := (g.block _ (lt_of_block q0)).trans q0); (replace q1 := (g.block _ (lt_of_block q1)).trans q1); (replace q2 := (g.block _ (lt_of_block q2)).trans q2); (replace bel := chain bel g); clear g; (obtain ⟨d0, d1, d2, df⟩ := block_cells3 q0); (obtain ⟨e0, e1, e2, ef⟩ := block_cells3 q1); (obtain ⟨z0, z1, z2, zf⟩ := block_cells3 q2)) | ((with_reducible refine (NT.out _).mono ?_); rintro e w2 ⟨rfl, rfl⟩) | ((with_reducible refine (DU.out _).mono ?_); rintro e w2 ⟨rfl, rfl⟩))
          have QZ := Lib.hid (set3_new (u0 := .int .i64 0) (u1 := .int .i64 0) (u2 := .slice none 0 0) q2)
          have FB := Lib.hid (below_grownN bel (set3_grown (w := _) (B := w.heap.size + 2) (u0 := .int .i64 0) (u1 := .int .i64 0) (u2 := .slice none 0 0)) bel.size (fun q e => by injection e with e; omega))
          (try simp only [Exit.inBlock, Exit.then])
          refine bodyPost_ret (results_cell_row_tmp2 rfl _ _ _ 24 _ (0, 0) _ rfl QZ.out Try.underlying24 rfl marks_size) rfl ?_
          show Z (.returned _) _
          rw [HZ.out, HRZ.out, HSZ.out]
          exact ⟨none, 0, 0, by rw [HE.out]; rfl, rdm0 _, FB.out⟩
      · skip
        have HE := Lib.hid (show E = 1 by rw [HEE.out, decide_eq_true hF, decide_eq_false ha0]; rfl)
        have HRZ := Lib.hid (show R = ms0 by rw [HRR.out, if_neg (by rw [HE.out]; decide)])
        have HSZ := Lib.hid (show SS = none by rw [HSS.out, if_neg (by rw [HE.out]; decide)])
        have FA := Lib.hid FA0
        clear FA0
        go_enter Try.func20, Try.ntmps20
        go_upto_region 1 with fail
        rw [← HW0.out]
        go_wp2_with (first | ((with_reducible refine (FA.out _).mono ?_); rintro e w2 ⟨rfl, rfl⟩) | ((with_reducible refine (MY.out _ bel).mono ?_); rintro e w1 ⟨rfl, g⟩; (clear d0 d1 d2 df e0 e1 e2 ef z0 z1 z2 zf); (replace q0 := (g.block _ (lt_of_block q0)).trans q0); (replace q1 := (g.block _ (lt_of_block q1)).trans q1); (replace q2 := (g.block _ (lt_of_block q2)).trans q2); (replace bel := chain bel g); clear g; (obtain ⟨d0, d1, d2, df⟩ := block_cells3 q0); (obtain ⟨e0, e1, e2, ef⟩ := block_cells3 q1); (obtain ⟨z0, z1, z2, zf⟩ := block_cells3 q2)) | ((with_reducible refine (NT.out _).mono ?_); rintro e w2 ⟨rfl, rfl⟩) | ((with_reducible refine (DU.out _).mono ?_); rintro e w2 ⟨rfl, rfl⟩))
        have QZ := Lib.hid (set3_new (u0 := .int .i64 0) (u1 := .int .i64 0) (u2 := .slice none 0 0) q2)
        have FB := Lib.hid (below_grownN bel (set3_grown (w := _) (B := w.heap.size + 2) (u0 := .int .i64 0) (u1 := .int .i64 0) (u2 := .slice none 0 0)) bel.size (fun q e => by injection e with e; omega))
        (try simp only [Exit.inBlock, Exit.then])
        refine bodyPost_ret (results_cell_row_tmp2 rfl _ _ _ 24 _ (0, 0) _ rfl QZ.out Try.underlying24 rfl marks_size) rfl ?_
        show Z (.returned _) _
        rw [HZ.out, HRZ.out, HSZ.out]
        exact ⟨none, 0, 0, by rw [HE.out]; rfl, rdm0 _, FB.out⟩
  · rw [if_pos (Decidable.not_not.1 hF)] at FA0
    have HE := Lib.hid (show E = 1 by rw [HEE.out, decide_eq_false hF]; rfl)
    have HRZ := Lib.hid (show R = ms0 by rw [HRR.out, if_neg (by rw [HE.out]; decide)])
    have HSZ := Lib.hid (show SS = none by rw [HSS.out, if_neg (by rw [HE.out]; decide)])
    have FA := Lib.hid FA0
    clear FA0
    go_enter Try.func20, Try.ntmps20
    go_upto_region 1 with fail
    rw [← HW0.out]
    go_wp2_with (first | ((with_reducible refine (FA.out _).mono ?_); rintro e w2 ⟨rfl, rfl⟩) | ((with_reducible refine (MY.out _ bel).mono ?_); rintro e w1 ⟨rfl, g⟩; (clear d0 d1 d2 df e0 e1 e2 ef z0 z1 z2 zf); (replace q0 := (g.block _ (lt_of_block q0)).trans q0); (replace q1 := (g.block _ (lt_of_block q1)).trans q1); (replace q2 := (g.block _ (lt_of_block q2)).trans q2); (replace bel := chain bel g); clear g; (obtain ⟨d0, d1, d2, df⟩ := block_cells3 q0); (obtain ⟨e0, e1, e2, ef⟩ := block_cells3 q1); (obtain ⟨z0, z1, z2, zf⟩ := block_cells3 q2)) | ((with_reducible refine (NT.out _).mono ?_); rintro e w2 ⟨rfl, rfl⟩) | ((with_reducible refine (DU.out _).mono ?_); rintro e w2 ⟨rfl, rfl⟩))
    have QZ := Lib.hid (set3_new (u0 := .int .i64 0) (u1 := .int .i64 0) (u2 := .slice none 0 0) q2)
    have FB := Lib.hid (below_grownN bel (set3_grown (w := _) (B := w.heap.size + 2) (u0 := .int .i64 0) (u1 := .int .i64 0) (u2 := .slice none 0 0)) bel.size (fun q e => by injection e with e; omega))
    (try simp only [Exit.inBlock, Exit.then])
    refine bodyPost_ret (results_cell_row_tmp2 rfl _ _ _ 24 _ (0, 0) _ rfl QZ.out Try.underlying24 rfl marks_size) rfl ?_
    show Z (.returned _) _
    rw [HZ.out, HRZ.out, HSZ.out]
    exact ⟨none, 0, 0, by rw [HE.out]; rfl, rdm0 _, FB.out⟩
end Go.Proofs.Ytgmblgpfgdfnaaa
