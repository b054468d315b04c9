/- Choose: FewChange, Few. Written by wip/tools/gen31c.py. -/
import Derived.Test.YtgmblgpfgdfnaaaQMM30
namespace Go.Proofs.Ytgmblgpfgdfnaaa
open Go Go.RowKit
set_option linter.unusedVariables false
set_option linter.unusedSimpArgs false
set_option maxRecDepth 100000

def GivesG (w : World) (e : Ending) (w' : World) : Prop := ∃ c : Cg, e = .returned (cgV c) ∧ c.pr.ok ∧ (w'.ownsRow w.heap.size 58 5 (.slice c.cv.a c.cv.n c.cv.k) c.cs.length (c.cs.flatMap ceC) ∧ ∀ x ∈ c.cs, x.vo.ok ∧ x.body.length ≤ maxLen) ∧ c.cs.length ≤ 66 ∧ Below w.heap.size w w'
theorem set6_new {w : World} {B : Nat} {a0 a1 a2 a3 a4 a5 u0 u1 u2 u3 u4 u5 : Value} {t : TypeId} (h : w.heap[B]? = some (.cells #[a0, a1, a2, a3, a4, a5] t (0, 0))) :
    ((((((w.setCell ⟨B, 0, none⟩ u0).setCell ⟨B, 1, none⟩ u1).setCell ⟨B, 2, none⟩ u2).setCell ⟨B, 3, none⟩ u3).setCell ⟨B, 4, none⟩ u4).setCell ⟨B, 5, none⟩ u5).heap[B]? = some (.cells #[u0, u1, u2, u3, u4, u5] t (0, 0)) := by
  have h0 := set_at (i := 0) (u := u0) h
  have h1 := set_at (i := 1) (u := u1) h0
  have h2 := set_at (i := 2) (u := u2) h1
  have h3 := set_at (i := 3) (u := u3) h2
  have h4 := set_at (i := 4) (u := u4) h3
  exact set_at (i := 5) (u := u5) h4
theorem change_cells : (Try.prog.info? 56).map (fun x => x.size) = some 6 := by kernel_rfl
theorem text_gives (l : List UInt8) (w : World) (h : l.length ≤ maxLen) : Calls Try.prog 55 #[.string (str l)] w fun e w' => (∃ S : ByteArray, e = .returned (.string S) ∧ ∃ t : List UInt8, S = str t ∧ t.length ≤ maxLen) ∧ w = w' :=
  (text_any l w h).mono fun e w' ⟨⟨t, h1, h2⟩, h3⟩ => ⟨⟨str t, h1, t, rfl, h2⟩, h3⟩
/-- 'out = append(out, x)', out the call's own, x an element of k cells; what it leaves alone. -/
theorem wpList_app1kg {α : Type} {enc : α → List Value} {k : Nat} {P : Program} {ops : Array Oper} {rest : List Oper} {o : Oper} {a : Act} {Q : Exit → Act → World → Prop} {w : World} (hk : ∀ x, (enc x).length = k) (hk0 : 0 < k) (w0 : World) (hgd : o.guard = none) (s x : Operand) (t : TypeId)
    (ho : o.op = .call { callee := .builtin .append, args := #[s, x], argTypes := #[t, t] })
    (base : Nat) (e : TypeId) (i : TypeInfo) (z : Value) (bytes : Nat) (ht : P.underlying t = some (.slice e)) (hi : P.info? e = some i) (hz : i.zero = some z)
    (hsize : i.size = k) (hby : i.bytes = bytes) (hzs : z.cells.size = k)
    (v : Value) (xs : List α) (hs : a.eval s = v) (hown : w.ownsRow base e k v xs.length (xs.flatMap enc)) (e' : TypeId) (y : α) (cs : List Value) (hcs : cs = enc y)
    (hx : a.eval x = .slice (some ⟨w.heap.size, 0, none⟩) 1 1) (hone : ∀ y : α, ∀ u ∈ enc y, u.oneCell' = true)
    (h63 : xs.length + 1 ≤ maxLen) (hbytes : (xs.length + 1) * bytes ≤ 140737488355328) (hbase : base ≤ w0.heap.size) (hb : Below base w0 w)
    (hK : ∀ v' w', w'.ownsRow base e k v' (xs ++ [y]).length ((xs ++ [y]).flatMap enc) → Below base w0 w' → w.grownBy w' v.ownBlock → wpList P ops Q rest (a.put o.dst v') w') :
    wpList P ops Q (o :: rest) a (w.alloc (.cells cs.toArray e')) := by
  subst hcs
  have hb1 : base ≤ w.heap.size := Nat.le_trans hbase hb.size
  refine wpList_append_own_at _ hgd s x t ho base e i z k bytes ht hi hz hsize hby hzs hk0 v xs.length _ hs (hown.alloc _) ⟨w.heap.size, 0, none⟩ 1 1 (enc y) hx (by rw [hk, Nat.one_mul]) ?_ ?_ h63 hbytes (by simp; omega) ?_
  · intro j u hj
    have e : Addr.add ⟨w.heap.size, 0, none⟩ j = ⟨w.heap.size, j, none⟩ := by rw [Addr.add_lit, Nat.zero_add]
    rw [e, block_cell (heap_alloc_new w _) j]
    simpa using hj
  · exact hone y
  · intro v' w' h1 h2 h3 h9
    exact hK v' w' (by rw [List.length_append, List.flatMap_append]; simpa using h1) (grown_below (hb.alloc hb1 _) hbase (hown.alloc _) h2) (grown_transB (grown_none ((Below.refl w.heap.size w).alloc (Nat.le_refl _) _)) h2)
theorem own_apart {w : World} {b1 b2 : Nat} {e1 e2 : TypeId} {s1 s2 : Nat} {v1 v2 : Value} {n1 n2 : Nat} {xs1 xs2 : List Value} (h : w.ownsRow b1 e1 s1 v1 n1 xs1) (k : w.ownsRow b2 e2 s2 v2 n2 xs2) (he : e1 ≠ e2) : v1.ownBlock = none ∨ v1.ownBlock ≠ v2.ownBlock := by
  rcases h.2 with ⟨h1, _⟩ | ⟨g, cap, cur, h1, _, h3, _⟩
  · exact .inl (by rw [h1]; rfl)
  · rcases k.2 with ⟨k1, _⟩ | ⟨g', cap', cur', k1, _, k3, _⟩
    · exact .inr (by rw [h1, k1]; simp [Value.ownBlock])
    · refine .inr fun e => ?_
      rw [h1, k1] at e
      simp only [Value.ownBlock, Option.some.injEq] at e
      subst e
      rw [h3] at k3
      cases k3
      exact he rfl
theorem own_ne {w : World} {base : Nat} {e : TypeId} {s : Nat} {v : Value} {n : Nat} {xs : List Value} (h : w.ownsRow base e s v n xs) {B : Nat} (hB : B < base) : v.ownBlock = none ∨ v.ownBlock ≠ some B := by
  rcases h.2 with ⟨h1, h2⟩ | ⟨g, cap, cur, h1, _⟩
  · exact .inl (by rw [h1]; rfl)
  · refine .inr fun e => ?_
    have := (h.lt B e).1
    omega
set_option maxHeartbeats 2000000 in
theorem fewChange_any (x : Cg) (w : World) (h : x.pr.ok ∧ RdCs w (.slice x.cv.a x.cv.n x.cv.k) x.cs) : Calls Try.prog 40 #[cgV x] w (GivesG w) := by
  obtain ⟨i0, hi, hz0, hz1, hz2⟩ := info_parts cert_info
  obtain ⟨Z, hZ⟩ : ∃ Z, Z = GivesG w := ⟨_, rfl⟩
  rw [← hZ]
  have HZ := Lib.hid hZ
  obtain ⟨fr, vw, st, rt, ⟨pa, pn, pk⟩, ⟨ca, cn, ck⟩, l0⟩ := x
  obtain ⟨hp, hr⟩ := h
  unfold cgV
  simp only at hp hr ⊢
  obtain ⟨hcn, hck, hck2⟩ := rdcs_len hr
  have SP0 := fun w' => stmts_any ⟨pa, pn, pk⟩ w' hp
  simp only at SP0
  obtain ⟨Wb, hWb⟩ : ∃ W, W = (w.alloc (.cells #[.int .i64 fr, .int .i64 vw, .int .i64 st, .int .i64 rt, .slice pa pn pk, .slice ca cn ck] 56)).alloc (.cells #[.int .i64 0, .int .i64 0, .int .i64 0, .int .i64 0, .slice none 0 0, .slice none 0 0] 56) := ⟨_, rfl⟩
  have q1 : Wb.heap[w.heap.size]? = some (.cells #[.int .i64 fr, .int .i64 vw, .int .i64 st, .int .i64 rt, .slice pa pn pk, .slice ca cn ck] 56 (0, 0)) := by rw [hWb]; exact (two_allocs w _ _).1
  have q2 : Wb.heap[w.heap.size + 1]? = some (.cells #[.int .i64 0, .int .i64 0, .int .i64 0, .int .i64 0, .slice none 0 0, .slice none 0 0] 56 (0, 0)) := by rw [hWb]; exact (two_allocs w _ _).2.1
  have bel0 : Below w.heap.size w Wb := by rw [hWb]; exact ((Below.refl w.heap.size w).alloc (Nat.le_refl _) _).alloc (by simp) _
  have SP := Lib.hid SP0
  clear hZ SP0
  obtain ⟨d0, d1, d2, d3, d4, d5, df⟩ := block_cells6 q1
  go_enter Try.func40, Try.ntmps40
  by_cases hb : 66 < cn
  · have HRD0 : RdCs w (.slice ca 66 ck) (l0.take 66) := ⟨RdK.short ceC_len hr.1 66 (by omega), fun c hc => hr.2 c (List.mem_of_mem_take hc)⟩
    subst hcn
    go_wp2_with (first | ((with_reducible refine (SP.out _).mono ?_); rintro e w1 ⟨⟨⟨pa2, pn2, pk2⟩, rfl, hp⟩, rfl⟩))
    rw [decide_eq_true (show (66 : Int) < l0.length by omega)]
    obtain ⟨l, hl⟩ : ∃ l, l = l0.take 66 := ⟨_, rfl⟩
    rw [← hl] at HRD0
    have e66 : 66 = l.length := by rw [hl, List.length_take]; omega
    rw [e66] at HRD0 ⊢
    have HL := Lib.hid (show l.length ≤ 66 by rw [hl, List.length_take]; omega)
    obtain ⟨W0, hW0⟩ : ∃ W, W = (w.alloc (.cells #[.int .i64 fr, .int .i64 vw, .int .i64 st, .int .i64 rt, .slice pa2 pn2 pk2, .slice ca l.length ck] 56)).alloc (.cells #[.int .i64 0, .int .i64 0, .int .i64 0, .int .i64 0, .slice none 0 0, .slice none 0 0] 56) := ⟨_, rfl⟩
    rw [← hW0]
    have Q1 := Lib.hid (show W0.heap[w.heap.size]? = some (.cells #[.int .i64 fr, .int .i64 vw, .int .i64 st, .int .i64 rt, .slice pa2 pn2 pk2, .slice ca l.length ck] 56 (0, 0)) by rw [hW0]; exact (two_allocs w _ _).1)
    have Q2 := Lib.hid (show W0.heap[w.heap.size + 1]? = some (.cells #[.int .i64 0, .int .i64 0, .int .i64 0, .int .i64 0, .slice none 0 0, .slice none 0 0] 56 (0, 0)) by rw [hW0]; exact (two_allocs w _ _).2.1)
    have BEL0 := Lib.hid (show Below w.heap.size w W0 by rw [hW0]; exact ((Below.refl w.heap.size w).alloc (Nat.le_refl _) _).alloc (by simp) _)
    have HRD := Lib.hid (HRD0.below BEL0.out (Nat.le_refl _))
    have HP := Lib.hid hp
    clear hW0 HRD0 e66 hl hr q1 q2 bel0 hWb d0 d1 d2 d3 d4 d5 df hp hb
    have HZ2 := Lib.hid (show True from trivial)
    go_loopw [3, 4] (fun o' i wr => ∃ (k : Nat) (xs : List Ce), k ≤ l.length ∧ i = .int .i64 (k : Int) ∧ Hid (xs.length = k) ∧ Hid (∀ x ∈ xs, x.vo.ok ∧ x.body.length ≤ maxLen) ∧ wr.ownsRow W0.heap.size 58 5 o' xs.length (xs.flatMap ceC) ∧ Below W0.heap.size W0 wr) (fun _ i _ => l.length - (intOf i).toNat)
    case atStart => exact ⟨0, [], Nat.zero_le _, rfl, Lib.hid rfl, Lib.hid (fun x hx => by cases hx), World.ownsRow_nil _ _ _ _, Below.refl _ _⟩
    case round =>
      obtain ⟨k, xs, hk, rfl, hxl, hxs, hown, bel⟩ := hrel
      have p1 := (bel.block _ (lt_of_block Q1.out)).trans Q1.out
      obtain ⟨d0, d1, d2, d3, d4, d5, df⟩ := block_cells6 p1
      have hl66 := HL.out
      by_cases hlt : k < l.length
      · obtain ⟨pb, po, rfl, hpb, C0, C1, C2, C3, C4⟩ := rdce_cells HRD.out k hlt
        have c0 := (bel.cell (p := ⟨pb, po + k * 5, none⟩) hpb).trans C0
        have c1 := (bel.cell (p := ⟨pb, po + k * 5 + 1, none⟩) hpb).trans C1
        have c2 := (bel.cell (p := ⟨pb, po + k * 5 + 2, none⟩) hpb).trans C2
        have c3 := (bel.cell (p := ⟨pb, po + k * 5 + 3, none⟩) hpb).trans C3
        have c4 := (bel.cell (p := ⟨pb, po + k * 5 + 4, none⟩) hpb).trans C4
        have hx66 := HRD.out.2 l[k] (List.getElem_mem hlt)
        have HLN := Lib.hid (show xs.length ≤ 66 by have := HL.out; have := hxl.out; omega)
        obtain ⟨x, hx⟩ : ∃ x, x = l[k] := ⟨_, rfl⟩
        rw [← hx] at c0 c1 c2 c3 c4 hx66
        obtain ⟨a, b, c, d, ⟨va, vn, vk⟩⟩ := x
        simp only at c0 c1 c2 c3 c4 hx66
        have TX0 := fun w' => text_gives d w' hx66.2
        obtain ⟨D, hD⟩ : ∃ D, D = str d := ⟨_, rfl⟩
        rw [← hD] at c3 TX0
        have TX := Lib.hid TX0
        have SM := Lib.hid (fun w' => stmts_any ⟨va, vn, vk⟩ w' hx66.1)
        clear hx C0 C1 C2 C3 C4 hx66 hD TX0
        have x1 := heap_alloc_new wr (.cells #[.int .i64 a, .int .i64 b, .int .i64 c, .string D, .slice va vn vk] 58)
        have bx := (Below.refl wr.heap.size wr).alloc (Nat.le_refl _) (.cells #[.int .i64 a, .int .i64 b, .int .i64 c, .string D, .slice va vn vk] 58)
        have p2 := (bx.block _ (lt_of_block p1)).trans p1
        obtain ⟨e0, e1, e2, e3, e4, ef⟩ := block_cells5 x1
        have HOX := Lib.hid hown
        clear hown
        go_wp2_with (first | ((with_reducible refine (TX.out _).mono ?_); rintro e w1 ⟨⟨S, rfl, hS⟩, rfl⟩; (obtain ⟨W1, hW1⟩ : ∃ W, W = wr.alloc (.cells #[.int .i64 a, .int .i64 b, .int .i64 c, .string D, .slice va vn vk] 58) := ⟨_, rfl⟩); (rw [← hW1] at x1 bx ⊢); (clear e0 e1 e2 e3 e4 ef d0 d1 d2 d3 d4 d5 df p1 p2 c0 c1 c2 c3 c4 hW1); (obtain ⟨e0, e1, e2, e3, e4, ef⟩ := block_cells5 x1)) | ((with_reducible refine (SM.out _).mono ?_); rintro e w1 ⟨⟨⟨ta, tn, tk⟩, rfl, hs⟩, rfl⟩) | (obtain ⟨t, rfl, ht⟩ := hS; at_builtin; refine wpList_app1k ceC_len (by decide) W0 rfl (.tmp 38) (.tmp 40) 54 rfl W0.heap.size 58 i0 (.agg #[.int .i64 0, .int .i64 0, .int .i64 0, .string (str []), .slice none 0 0]) 64 Try.underlying54 hi hz0 hz1 hz2 rfl _ xs rfl (own_rows_below HOX.out ((bx.setCell (p := ⟨wr.heap.size, 3, none⟩) (by simp) _).setCell (p := ⟨wr.heap.size, 4, none⟩) (by simp) _)) _ ⟨a, b, c, t, ⟨ta, tn, tk⟩⟩ _ rfl (by first | rfl | (rw [World.size_setCell, World.size_setCell]; rfl)) ceC_one (by have := HLN.out; unfold maxLen; omega) (by have := HLN.out; omega) (Nat.le_refl _) (chain bel ((bx.setCell (p := ⟨wr.heap.size, 3, none⟩) (by simp) _).setCell (p := ⟨wr.heap.size, 4, none⟩) (by simp) _)) ?_; intro v2 w2 own2 bel3 hq2; clear hq2))

        exact ⟨⟨k + 1, xs ++ [⟨a, b, c, t, ⟨ta, tn, tk⟩⟩], by omega, by push_cast; rfl, Lib.hid (by simp [hxl.out]), Lib.hid (fun y hy => by
          rcases List.mem_append.1 hy with hy | hy
          · exact hxs.out y hy
          · rw [List.mem_singleton] at hy; subst hy; exact ⟨hs, ht⟩), own2, bel3⟩, by simp [intOf]; omega⟩
      · obtain rfl : k = l.length := by omega
        have p2 := (bel.block _ (lt_of_block Q2.out)).trans Q2.out
        obtain ⟨e0, e1, e2, e3, e4, e5, ef⟩ := block_cells6 p2
        rw [hxl.out] at hown
        obtain ⟨va, vc, rfl⟩ := own_val hown
        have HOX := Lib.hid hown
        have HPP := Lib.hid p1
        have HPQ := Lib.hid p2
        clear hown p1 p2
        go_wp2_with fail
        have HOW := Lib.hid (own_rows_below HOX.out (Below.refl _ _))
        (try simp only [Exit.inBlock, Exit.then])
        refine bodyPost_ret (results_cell_row rfl _ _ _ 56 #[.int .i64 fr, .int .i64 vw, .int .i64 st, .int .i64 rt, .slice pa2 pn2 pk2, .slice va l.length vc] (0, 0) _ rfl (set6_new ((set_old (by omega)).trans HPQ.out)) Try.underlying56 rfl change_cells) rfl ?_
        show Z (.returned _) _
        rw [HZ.out]
        have hsz := BEL0.out.size
        have hsz2 := lt_of_block Q2.out
        have OW := HOX.out.kept (grown_setB (i := 5) (u := .slice va l.length vc) (grown_reflB (w := wr) (r := some w.heap.size))) (own_ne HOX.out (by omega))
        have OX := OW.kept (grown_setB (i := 5) (u := .slice va l.length vc) (grown_setB (i := 4) (u := .slice pa2 pn2 pk2) (grown_setB (i := 3) (u := .int .i64 rt) (grown_setB (i := 2) (u := .int .i64 st) (grown_setB (i := 1) (u := .int .i64 vw) (grown_setB (i := 0) (u := .int .i64 fr) (grown_reflB (r := some (w.heap.size + 1))))))))) (own_ne OW (by omega))
        have RD := own_base OX hsz
        exact ⟨⟨fr, vw, st, rt, ⟨pa2, pn2, pk2⟩, ⟨va, l.length, vc⟩, xs⟩, rfl, HP.out, ⟨by simp only; rw [hxl.out]; exact RD, hxs.out⟩, by have := HL.out; have := hxl.out; show xs.length ≤ 66; omega, (((((((chain BEL0.out bel).setCell (p := ⟨w.heap.size, 5, none⟩) (by simp) _).setCell (p := ⟨w.heap.size + 1, 0, none⟩) (by simp) _).setCell (p := ⟨w.heap.size + 1, 1, none⟩) (by simp) _).setCell (p := ⟨w.heap.size + 1, 2, none⟩) (by simp) _).setCell (p := ⟨w.heap.size + 1, 3, none⟩) (by simp) _).setCell (p := ⟨w.heap.size + 1, 4, none⟩) (by simp) _).setCell (p := ⟨w.heap.size + 1, 5, none⟩) (by simp) _⟩
  · have HRD0 : RdCs w (.slice ca cn ck) (l0.take 66) := by rw [List.take_of_length_le (by omega)]; exact hr
    subst hcn
    go_wp2_with (first | ((with_reducible refine (SP.out _).mono ?_); rintro e w1 ⟨⟨⟨pa2, pn2, pk2⟩, rfl, hp⟩, rfl⟩))
    rw [decide_eq_false (show ¬ (66 : Int) < l0.length by omega)]
    obtain ⟨l, hl⟩ : ∃ l, l = l0.take 66 := ⟨_, rfl⟩
    rw [← hl] at HRD0
    have e66 : l0.length = l.length := by rw [hl, List.length_take]; omega
    rw [e66] at HRD0 ⊢
    have HL := Lib.hid (show l.length ≤ 66 by rw [hl, List.length_take]; omega)
    obtain ⟨W0, hW0⟩ : ∃ W, W = (w.alloc (.cells #[.int .i64 fr, .int .i64 vw, .int .i64 st, .int .i64 rt, .slice pa2 pn2 pk2, .slice ca l.length ck] 56)).alloc (.cells #[.int .i64 0, .int .i64 0, .int .i64 0, .int .i64 0, .slice none 0 0, .slice none 0 0] 56) := ⟨_, rfl⟩
    rw [← hW0]
    have Q1 := Lib.hid (show W0.heap[w.heap.size]? = some (.cells #[.int .i64 fr, .int .i64 vw, .int .i64 st, .int .i64 rt, .slice pa2 pn2 pk2, .slice ca l.length ck] 56 (0, 0)) by rw [hW0]; exact (two_allocs w _ _).1)
    have Q2 := Lib.hid (show W0.heap[w.heap.size + 1]? = some (.cells #[.int .i64 0, .int .i64 0, .int .i64 0, .int .i64 0, .slice none 0 0, .slice none 0 0] 56 (0, 0)) by rw [hW0]; exact (two_allocs w _ _).2.1)
    have BEL0 := Lib.hid (show Below w.heap.size w W0 by rw [hW0]; exact ((Below.refl w.heap.size w).alloc (Nat.le_refl _) _).alloc (by simp) _)
    have HRD := Lib.hid (HRD0.below BEL0.out (Nat.le_refl _))
    have HP := Lib.hid hp
    clear hW0 HRD0 e66 hl hr q1 q2 bel0 hWb d0 d1 d2 d3 d4 d5 df hp hb
    have HZ2 := Lib.hid (show True from trivial)
    go_loopw [3, 4] (fun o' i wr => ∃ (k : Nat) (xs : List Ce), k ≤ l.length ∧ i = .int .i64 (k : Int) ∧ Hid (xs.length = k) ∧ Hid (∀ x ∈ xs, x.vo.ok ∧ x.body.length ≤ maxLen) ∧ wr.ownsRow W0.heap.size 58 5 o' xs.length (xs.flatMap ceC) ∧ Below W0.heap.size W0 wr) (fun _ i _ => l.length - (intOf i).toNat)
    case atStart => exact ⟨0, [], Nat.zero_le _, rfl, Lib.hid rfl, Lib.hid (fun x hx => by cases hx), World.ownsRow_nil _ _ _ _, Below.refl _ _⟩
    case round =>
      obtain ⟨k, xs, hk, rfl, hxl, hxs, hown, bel⟩ := hrel
      have p1 := (bel.block _ (lt_of_block Q1.out)).trans Q1.out
      obtain ⟨d0, d1, d2, d3, d4, d5, df⟩ := block_cells6 p1
      have hl66 := HL.out
      by_cases hlt : k < l.length
      · obtain ⟨pb, po, rfl, hpb, C0, C1, C2, C3, C4⟩ := rdce_cells HRD.out k hlt
        have c0 := (bel.cell (p := ⟨pb, po + k * 5, none⟩) hpb).trans C0
        have c1 := (bel.cell (p := ⟨pb, po + k * 5 + 1, none⟩) hpb).trans C1
        have c2 := (bel.cell (p := ⟨pb, po + k * 5 + 2, none⟩) hpb).trans C2
        have c3 := (bel.cell (p := ⟨pb, po + k * 5 + 3, none⟩) hpb).trans C3
        have c4 := (bel.cell (p := ⟨pb, po + k * 5 + 4, none⟩) hpb).trans C4
        have hx66 := HRD.out.2 l[k] (List.getElem_mem hlt)
        have HLN := Lib.hid (show xs.length ≤ 66 by have := HL.out; have := hxl.out; omega)
        obtain ⟨x, hx⟩ : ∃ x, x = l[k] := ⟨_, rfl⟩
        rw [← hx] at c0 c1 c2 c3 c4 hx66
        obtain ⟨a, b, c, d, ⟨va, vn, vk⟩⟩ := x
        simp only at c0 c1 c2 c3 c4 hx66
        have TX0 := fun w' => text_gives d w' hx66.2
        obtain ⟨D, hD⟩ : ∃ D, D = str d := ⟨_, rfl⟩
        rw [← hD] at c3 TX0
        have TX := Lib.hid TX0
        have SM := Lib.hid (fun w' => stmts_any ⟨va, vn, vk⟩ w' hx66.1)
        clear hx C0 C1 C2 C3 C4 hx66 hD TX0
        have x1 := heap_alloc_new wr (.cells #[.int .i64 a, .int .i64 b, .int .i64 c, .string D, .slice va vn vk] 58)
        have bx := (Below.refl wr.heap.size wr).alloc (Nat.le_refl _) (.cells #[.int .i64 a, .int .i64 b, .int .i64 c, .string D, .slice va vn vk] 58)
        have p2 := (bx.block _ (lt_of_block p1)).trans p1
        obtain ⟨e0, e1, e2, e3, e4, ef⟩ := block_cells5 x1
        have HOX := Lib.hid hown
        clear hown
        go_wp2_with (first | ((with_reducible refine (TX.out _).mono ?_); rintro e w1 ⟨⟨S, rfl, hS⟩, rfl⟩; (obtain ⟨W1, hW1⟩ : ∃ W, W = wr.alloc (.cells #[.int .i64 a, .int .i64 b, .int .i64 c, .string D, .slice va vn vk] 58) := ⟨_, rfl⟩); (rw [← hW1] at x1 bx ⊢); (clear e0 e1 e2 e3 e4 ef d0 d1 d2 d3 d4 d5 df p1 p2 c0 c1 c2 c3 c4 hW1); (obtain ⟨e0, e1, e2, e3, e4, ef⟩ := block_cells5 x1)) | ((with_reducible refine (SM.out _).mono ?_); rintro e w1 ⟨⟨⟨ta, tn, tk⟩, rfl, hs⟩, rfl⟩) | (obtain ⟨t, rfl, ht⟩ := hS; at_builtin; refine wpList_app1k ceC_len (by decide) W0 rfl (.tmp 38) (.tmp 40) 54 rfl W0.heap.size 58 i0 (.agg #[.int .i64 0, .int .i64 0, .int .i64 0, .string (str []), .slice none 0 0]) 64 Try.underlying54 hi hz0 hz1 hz2 rfl _ xs rfl (own_rows_below HOX.out ((bx.setCell (p := ⟨wr.heap.size, 3, none⟩) (by simp) _).setCell (p := ⟨wr.heap.size, 4, none⟩) (by simp) _)) _ ⟨a, b, c, t, ⟨ta, tn, tk⟩⟩ _ rfl (by first | rfl | (rw [World.size_setCell, World.size_setCell]; rfl)) ceC_one (by have := HLN.out; unfold maxLen; omega) (by have := HLN.out; omega) (Nat.le_refl _) (chain bel ((bx.setCell (p := ⟨wr.heap.size, 3, none⟩) (by simp) _).setCell (p := ⟨wr.heap.size, 4, none⟩) (by simp) _)) ?_; intro v2 w2 own2 bel3 hq2; clear hq2))

        exact ⟨⟨k + 1, xs ++ [⟨a, b, c, t, ⟨ta, tn, tk⟩⟩], by omega, by push_cast; rfl, Lib.hid (by simp [hxl.out]), Lib.hid (fun y hy => by
          rcases List.mem_append.1 hy with hy | hy
          · exact hxs.out y hy
          · rw [List.mem_singleton] at hy; subst hy; exact ⟨hs, ht⟩), own2, bel3⟩, by simp [intOf]; omega⟩
      · obtain rfl : k = l.length := by omega
        have p2 := (bel.block _ (lt_of_block Q2.out)).trans Q2.out
        obtain ⟨e0, e1, e2, e3, e4, e5, ef⟩ := block_cells6 p2
        rw [hxl.out] at hown
        obtain ⟨va, vc, rfl⟩ := own_val hown
        have HOX := Lib.hid hown
        have HPP := Lib.hid p1
        have HPQ := Lib.hid p2
        clear hown p1 p2
        go_wp2_with fail
        have HOW := Lib.hid (own_rows_below HOX.out (Below.refl _ _))
        (try simp only [Exit.inBlock, Exit.then])
        refine bodyPost_ret (results_cell_row rfl _ _ _ 56 #[.int .i64 fr, .int .i64 vw, .int .i64 st, .int .i64 rt, .slice pa2 pn2 pk2, .slice va l.length vc] (0, 0) _ rfl (set6_new ((set_old (by omega)).trans HPQ.out)) Try.underlying56 rfl change_cells) rfl ?_
        show Z (.returned _) _
        rw [HZ.out]
        have hsz := BEL0.out.size
        have hsz2 := lt_of_block Q2.out
        have OW := HOX.out.kept (grown_setB (i := 5) (u := .slice va l.length vc) (grown_reflB (w := wr) (r := some w.heap.size))) (own_ne HOX.out (by omega))
        have OX := OW.kept (grown_setB (i := 5) (u := .slice va l.length vc) (grown_setB (i := 4) (u := .slice pa2 pn2 pk2) (grown_setB (i := 3) (u := .int .i64 rt) (grown_setB (i := 2) (u := .int .i64 st) (grown_setB (i := 1) (u := .int .i64 vw) (grown_setB (i := 0) (u := .int .i64 fr) (grown_reflB (r := some (w.heap.size + 1))))))))) (own_ne OW (by omega))
        have RD := own_base OX hsz
        exact ⟨⟨fr, vw, st, rt, ⟨pa2, pn2, pk2⟩, ⟨va, l.length, vc⟩, xs⟩, rfl, HP.out, ⟨by simp only; rw [hxl.out]; exact RD, hxs.out⟩, by have := HL.out; have := hxl.out; show xs.length ≤ 66; omega, (((((((chain BEL0.out bel).setCell (p := ⟨w.heap.size, 5, none⟩) (by simp) _).setCell (p := ⟨w.heap.size + 1, 0, none⟩) (by simp) _).setCell (p := ⟨w.heap.size + 1, 1, none⟩) (by simp) _).setCell (p := ⟨w.heap.size + 1, 2, none⟩) (by simp) _).setCell (p := ⟨w.heap.size + 1, 3, none⟩) (by simp) _).setCell (p := ⟨w.heap.size + 1, 4, none⟩) (by simp) _).setCell (p := ⟨w.heap.size + 1, 5, none⟩) (by simp) _⟩
set_option maxHeartbeats 2000000 in
theorem few_any31 (l0 : List Cg) (v : Value) (w : World) (h : RdCg w v l0) : Calls Try.prog 21 #[v] w fun e w' => ∃ (v' : Value) (l' : List Cg), e = .returned v' ∧ RdCg w' v' l' ∧ l'.length ≤ 20 ∧ (∀ c ∈ l', c.cs.length ≤ 66) ∧ Below w.heap.size w w' := by
  obtain ⟨i0, hi, hz0, hz1, hz2⟩ := info_parts change_info
  obtain ⟨a, cap, rfl, hcl, hcm⟩ := rdcg_val h
  obtain ⟨N, hnl⟩ : ∃ N, N = l0.length := ⟨_, rfl⟩
  by_cases hb : 20 < l0.length
  · subst hnl
    have HRD0 : RdCg w (.slice a 20 cap) (l0.take 20) := ⟨RdK.short cgC_len h.1 20 (by omega), fun c hc => h.2 c (List.mem_of_mem_take hc)⟩
    go_enter Try.func21, Try.ntmps21
    go_wp2_with fail
    rw [decide_eq_true (show (20 : Int) < l0.length by omega)]
    obtain ⟨l, hl⟩ : ∃ l, l = l0.take 20 := ⟨_, rfl⟩
    rw [← hl] at HRD0
    have e20 : 20 = l.length := by rw [hl, List.length_take]; omega
    rw [e20] at HRD0
    rw [show Value.slice a 20 cap = Value.slice a l.length cap by rw [← e20]]
    have HL := Lib.hid (show l.length ≤ 20 by rw [hl, List.length_take]; omega)
    have HRD := Lib.hid HRD0
    clear HRD0 e20 hl h hb
    go_loopw [3, 4] (fun o' i wr => ∃ (k : Nat) (xs : List Cg), k ≤ l.length ∧ i = .int .i64 (k : Int) ∧ Hid (xs.length = k) ∧ Hid (∀ c ∈ xs, (c.pr.ok ∧ wr.ownsRow w.heap.size 58 5 (.slice c.cv.a c.cv.n c.cv.k) c.cs.length (c.cs.flatMap ceC) ∧ ∀ x ∈ c.cs, x.vo.ok ∧ x.body.length ≤ maxLen) ∧ c.cs.length ≤ 66) ∧ wr.ownsRow w.heap.size 56 6 o' xs.length (xs.flatMap cgC) ∧ Below w.heap.size w wr) (fun _ i _ => l.length - (intOf i).toNat)
    case atStart => exact ⟨0, [], Nat.zero_le _, rfl, Lib.hid rfl, Lib.hid (fun x hx => by cases hx), World.ownsRow_nil _ _ _ _, Below.refl _ _⟩
    case round =>
      obtain ⟨k, xs, hk, rfl, hxl, hxs, hown, bel⟩ := hrel
      have hl20 := HL.out
      by_cases hlt : k < l.length
      · obtain ⟨pb, po, rfl, hpb, C0, C1, C2, C3, C4, C5⟩ := rdcg_cells HRD.out k hlt
        have c0 := (bel.cell (p := ⟨pb, po + k * 6, none⟩) hpb).trans C0
        have c1 := (bel.cell (p := ⟨pb, po + k * 6 + 1, none⟩) hpb).trans C1
        have c2 := (bel.cell (p := ⟨pb, po + k * 6 + 2, none⟩) hpb).trans C2
        have c3 := (bel.cell (p := ⟨pb, po + k * 6 + 3, none⟩) hpb).trans C3
        have c4 := (bel.cell (p := ⟨pb, po + k * 6 + 4, none⟩) hpb).trans C4
        have c5 := (bel.cell (p := ⟨pb, po + k * 6 + 5, none⟩) hpb).trans C5
        have hx66 := HRD.out.2 l[k] (List.getElem_mem hlt)
        have HLN := Lib.hid (show xs.length ≤ 20 by have := HL.out; have := hxl.out; omega)
        obtain ⟨x, hx⟩ : ∃ x, x = l[k] := ⟨_, rfl⟩
        rw [← hx] at c0 c1 c2 c3 c4 c5 hx66
        have FC0 := fun w' (g : Below w.heap.size w w') => fewChange_any x w' ⟨hx66.1, hx66.2.below g (Nat.le_refl _)⟩
        obtain ⟨fr, vw, st, rt, ⟨pa, pn, pk⟩, ⟨ca, cn, ck⟩, cs⟩ := x
        unfold cgV GivesG at FC0
        simp only at c0 c1 c2 c3 c4 c5 FC0
        have FC := Lib.hid FC0
        have HOX := Lib.hid hown
        clear hx C0 C1 C2 C3 C4 C5 hx66 FC0 hown
        go_wp2_with (first | ((with_reducible refine (FC.out _ bel).mono ?_); rintro e w1 ⟨⟨fr2, vw2, st2, rt2, ⟨pa2, pn2, pk2⟩, ⟨ca2, cn2, ck2⟩, cs2⟩, rfl, hp2, hc2, hl2, gFC⟩; (simp only [cgV])) | (at_builtin; refine wpList_app1kg cgC_len (by decide) w rfl (.tmp 16) (.tmp 22) 48 rfl w.heap.size 56 i0 (.agg #[.int .i64 0, .int .i64 0, .int .i64 0, .int .i64 0, .slice none 0 0, .slice none 0 0]) 80 Try.underlying48 hi hz0 hz1 hz2 rfl _ xs rfl (own_rows_below HOX.out gFC) _ ⟨fr2, vw2, st2, rt2, ⟨pa2, pn2, pk2⟩, ⟨ca2, cn2, ck2⟩, cs2⟩ _ rfl rfl cgC_one (by have := HLN.out; unfold maxLen; omega) (by have := HLN.out; omega) (Nat.le_refl _) (chain bel gFC) ?_; intro v2 w2 own2 bel3 hgr))
        have HO1 := own_rows_below HOX.out gFC
        exact ⟨⟨k + 1, xs ++ [⟨fr2, vw2, st2, rt2, ⟨pa2, pn2, pk2⟩, ⟨ca2, cn2, ck2⟩, cs2⟩], by omega, by push_cast; rfl, Lib.hid (by simp [hxl.out]), Lib.hid (fun y hy => by
          rcases List.mem_append.1 hy with hy | hy
          · have := hxs.out y hy
            exact ⟨⟨this.1.1, (own_rows_below this.1.2.1 gFC).kept hgr (own_apart (own_rows_below this.1.2.1 gFC) HO1 (by decide)), this.1.2.2⟩, this.2⟩
          · rw [List.mem_singleton] at hy; subst hy; exact ⟨⟨hp2, own_base (hc2.1.kept hgr (own_apart hc2.1 HO1 (by decide))) bel.size, hc2.2⟩, hl2⟩), own2, bel3⟩, by simp [intOf]; omega⟩
      · obtain rfl : k = l.length := by omega
        have HOX := Lib.hid hown
        clear hown
        go_wp2_with fail
        go_ret
        exact ⟨_, xs, rfl, ⟨own_rdk cgC_len HOX.out, fun c hc => ⟨(hxs.out c hc).1.1, own_rdk ceC_len (hxs.out c hc).1.2.1, (hxs.out c hc).1.2.2⟩⟩, by have := HL.out; have := hxl.out; omega, fun c hc => (hxs.out c hc).2, bel⟩
  · subst hnl
    have HRD0 : RdCg w (.slice a l0.length cap) (l0.take 20) := by rw [List.take_of_length_le (by omega)]; exact h
    go_enter Try.func21, Try.ntmps21
    go_wp2_with fail
    rw [decide_eq_false (show ¬ (20 : Int) < l0.length by omega)]
    obtain ⟨l, hl⟩ : ∃ l, l = l0.take 20 := ⟨_, rfl⟩
    rw [← hl] at HRD0
    have e20 : l0.length = l.length := by rw [hl, List.length_take]; omega
    rw [e20] at HRD0
    rw [show Value.slice a l0.length cap = Value.slice a l.length cap by rw [← e20]]
    have HL := Lib.hid (show l.length ≤ 20 by rw [hl, List.length_take]; omega)
    have HRD := Lib.hid HRD0
    clear HRD0 e20 hl h hb
    go_loopw [3, 4] (fun o' i wr => ∃ (k : Nat) (xs : List Cg), k ≤ l.length ∧ i = .int .i64 (k : Int) ∧ Hid (xs.length = k) ∧ Hid (∀ c ∈ xs, (c.pr.ok ∧ wr.ownsRow w.heap.size 58 5 (.slice c.cv.a c.cv.n c.cv.k) c.cs.length (c.cs.flatMap ceC) ∧ ∀ x ∈ c.cs, x.vo.ok ∧ x.body.length ≤ maxLen) ∧ c.cs.length ≤ 66) ∧ wr.ownsRow w.heap.size 56 6 o' xs.length (xs.flatMap cgC) ∧ Below w.heap.size w wr) (fun _ i _ => l.length - (intOf i).toNat)
    case atStart => exact ⟨0, [], Nat.zero_le _, rfl, Lib.hid rfl, Lib.hid (fun x hx => by cases hx), World.ownsRow_nil _ _ _ _, Below.refl _ _⟩
    case round =>
      obtain ⟨k, xs, hk, rfl, hxl, hxs, hown, bel⟩ := hrel
      have hl20 := HL.out
      by_cases hlt : k < l.length
      · obtain ⟨pb, po, rfl, hpb, C0, C1, C2, C3, C4, C5⟩ := rdcg_cells HRD.out k hlt
        have c0 := (bel.cell (p := ⟨pb, po + k * 6, none⟩) hpb).trans C0
        have c1 := (bel.cell (p := ⟨pb, po + k * 6 + 1, none⟩) hpb).trans C1
        have c2 := (bel.cell (p := ⟨pb, po + k * 6 + 2, none⟩) hpb).trans C2
        have c3 := (bel.cell (p := ⟨pb, po + k * 6 + 3, none⟩) hpb).trans C3
        have c4 := (bel.cell (p := ⟨pb, po + k * 6 + 4, none⟩) hpb).trans C4
        have c5 := (bel.cell (p := ⟨pb, po + k * 6 + 5, none⟩) hpb).trans C5
        have hx66 := HRD.out.2 l[k] (List.getElem_mem hlt)
        have HLN := Lib.hid (show xs.length ≤ 20 by have := HL.out; have := hxl.out; omega)
        obtain ⟨x, hx⟩ : ∃ x, x = l[k] := ⟨_, rfl⟩
        rw [← hx] at c0 c1 c2 c3 c4 c5 hx66
        have FC0 := fun w' (g : Below w.heap.size w w') => fewChange_any x w' ⟨hx66.1, hx66.2.below g (Nat.le_refl _)⟩
        obtain ⟨fr, vw, st, rt, ⟨pa, pn, pk⟩, ⟨ca, cn, ck⟩, cs⟩ := x
        unfold cgV GivesG at FC0
        simp only at c0 c1 c2 c3 c4 c5 FC0
        have FC := Lib.hid FC0
        have HOX := Lib.hid hown
        clear hx C0 C1 C2 C3 C4 C5 hx66 FC0 hown
        go_wp2_with (first | ((with_reducible refine (FC.out _ bel).mono ?_); rintro e w1 ⟨⟨fr2, vw2, st2, rt2, ⟨pa2, pn2, pk2⟩, ⟨ca2, cn2, ck2⟩, cs2⟩, rfl, hp2, hc2, hl2, gFC⟩; (simp only [cgV])) | (at_builtin; refine wpList_app1kg cgC_len (by decide) w rfl (.tmp 16) (.tmp 22) 48 rfl w.heap.size 56 i0 (.agg #[.int .i64 0, .int .i64 0, .int .i64 0, .int .i64 0, .slice none 0 0, .slice none 0 0]) 80 Try.underlying48 hi hz0 hz1 hz2 rfl _ xs rfl (own_rows_below HOX.out gFC) _ ⟨fr2, vw2, st2, rt2, ⟨pa2, pn2, pk2⟩, ⟨ca2, cn2, ck2⟩, cs2⟩ _ rfl rfl cgC_one (by have := HLN.out; unfold maxLen; omega) (by have := HLN.out; omega) (Nat.le_refl _) (chain bel gFC) ?_; intro v2 w2 own2 bel3 hgr))
        have HO1 := own_rows_below HOX.out gFC
        exact ⟨⟨k + 1, xs ++ [⟨fr2, vw2, st2, rt2, ⟨pa2, pn2, pk2⟩, ⟨ca2, cn2, ck2⟩, cs2⟩], by omega, by push_cast; rfl, Lib.hid (by simp [hxl.out]), Lib.hid (fun y hy => by
          rcases List.mem_append.1 hy with hy | hy
          · have := hxs.out y hy
            exact ⟨⟨this.1.1, (own_rows_below this.1.2.1 gFC).kept hgr (own_apart (own_rows_below this.1.2.1 gFC) HO1 (by decide)), this.1.2.2⟩, this.2⟩
          · rw [List.mem_singleton] at hy; subst hy; exact ⟨⟨hp2, own_base (hc2.1.kept hgr (own_apart hc2.1 HO1 (by decide))) bel.size, hc2.2⟩, hl2⟩), own2, bel3⟩, by simp [intOf]; omega⟩
      · obtain rfl : k = l.length := by omega
        have HOX := Lib.hid hown
        clear hown
        go_wp2_with fail
        go_ret
        exact ⟨_, xs, rfl, ⟨own_rdk cgC_len HOX.out, fun c hc => ⟨(hxs.out c hc).1.1, own_rdk ceC_len (hxs.out c hc).1.2.1, (hxs.out c hc).1.2.2⟩⟩, by have := HL.out; have := hxl.out; omega, fun c hc => (hxs.out c hc).2, bel⟩
end Go.Proofs.Ytgmblgpfgdfnaaa
