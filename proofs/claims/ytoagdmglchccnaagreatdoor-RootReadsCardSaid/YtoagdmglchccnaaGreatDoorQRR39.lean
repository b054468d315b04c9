/- Roots: the version and the chunks of a leaf. -/
import Derived.Test.YtoagdmglchccnaaGreatDoorQRR38
namespace Go.Proofs.YtoagdmglchccnaaGreatDoor
open Go Go.RowKit
set_option linter.unusedVariables false
set_option linter.unusedSimpArgs false
/-- 'l = append(l, s)', l the call's own list of texts. -/
theorem wpList_app_str {ops : Array Oper} {rest : List Oper} {o : Oper} {a : Act} {Q : Exit → Act → World → Prop} {w : World} (hgd : o.guard = none) (s x : Operand)
    (ho : o.op = .call { callee := .builtin .append, args := #[s, x], argTypes := #[22, 22] })
    (base : Nat) (v : Value) (n : Nat) (xs : List T2.Txt) (hs : a.eval s = v) (hn : n = xs.length) (hown : w.ownsRow base 9 1 v n (xs.map T2.sv)) (e' : TypeId) (y : T2.Txt)
    (hx : a.eval x = .slice (some ⟨w.heap.size, 0, none⟩) 1 1) (h63 : xs.length ≤ 4000) (hbase : base ≤ w.heap.size)
    (hK : ∀ v' w', w'.ownsRow base 9 1 v' (n + 1) ((xs ++ [y]).map T2.sv) → w.grownBy w' v.ownBlock → (∀ q, v'.ownBlock = some q → v.ownBlock = some q ∨ w.heap.size ≤ q) → wpList Tryz.prog ops Q rest (a.put o.dst v') w') :
    wpList Tryz.prog ops Q (o :: rest) a (w.alloc (.cells #[.string (str y)] e')) := by
  obtain ⟨i0, hi, hz0, hz1, hz2⟩ := info_parts T2.str_info
  refine wpList_append_own_at _ hgd s x _ ho base 9 i0 (.string ByteArray.empty) 1 16 Tryz.underlying22 hi hz0 hz1 hz2 rfl (by decide) v n _ hs (hown.alloc _) ⟨w.heap.size, 0, none⟩ 1 1 [.string (str y)] hx rfl ?_ ?_ (by unfold maxLen; omega) (by omega) (by simp; omega) ?_
  · intro j u hj
    have hj0 : j = 0 := by
      have := (List.getElem?_eq_some_iff.1 hj).1
      simp at this; omega
    subst hj0
    have e : Addr.add ⟨w.heap.size, 0, none⟩ 0 = ⟨w.heap.size, 0, none⟩ := by rw [Addr.add_lit]
    rw [e, block_cell (heap_alloc_new w _) 0]
    simpa using hj
  · intro u hu; rw [List.mem_singleton.1 hu]; rfl
  · intro v' w' h1 h2 h3 h9
    refine hK v' w' (by rw [List.map_append]; exact h1) ⟨h2.os, h2.tape, h2.output, Nat.le_trans (by simp) h2.size, fun k hk hr => (h2.block k (by simp; omega) hr).trans (@heap_alloc_old w _ k hk)⟩ (fun q hq => h9.elim (fun e => .inl (e ▸ hq)) (fun e => .inr (by rw [e] at hq; cases hq; simp)))
def textsO (L : TxL) : List Int → Option (List T2.Txt)
  | [] => some []
  | y :: ys => match textO L y with
    | none => none
    | some s => match textsO L ys with
      | none => none
      | some r => some (s :: r)
theorem textsO_snoc {L : TxL} {y : Int} {s : T2.Txt} (hs : textO L y = some s) : ∀ {ys : List Int} {cs : List T2.Txt}, textsO L ys = some cs → textsO L (ys ++ [y]) = some (cs ++ [s])
  | [], cs, h => by
    simp only [textsO] at h
    obtain rfl := Option.some.inj h
    simp [textsO, hs]
  | z :: zs, cs, h => by
    simp only [textsO] at h
    cases h1 : textO L z with
    | none => rw [h1] at h; cases h
    | some t =>
      rw [h1] at h
      simp only at h
      cases h2 : textsO L zs with
      | none => rw [h2] at h; cases h
      | some r =>
        rw [h2] at h
        simp only at h
        obtain rfl := Option.some.inj h
        simp only [List.cons_append, textsO, h1, textsO_snoc hs h2]
theorem textsO_none {L : TxL} {y : Int} (hy : textO L y = none) : ∀ {ys : List Int}, y ∈ ys → textsO L ys = none
  | z :: zs, h => by
    simp only [textsO]
    rcases List.mem_cons.1 h with rfl | h
    · rw [hy]
    · cases h1 : textO L z with
      | none => rfl
      | some t => simp only; rw [textsO_none hy h]
theorem textsO_len {L : TxL} : ∀ {ys : List Int} {cs : List T2.Txt}, textsO L ys = some cs → cs.length = ys.length ∧ ∀ c ∈ cs, c ∈ L ∨ c ∈ L
  | [], cs, h => by
    simp only [textsO] at h
    obtain rfl := Option.some.inj h
    exact ⟨rfl, fun c hc => by cases hc⟩
  | z :: zs, cs, h => by
    simp only [textsO] at h
    cases h1 : textO L z with
    | none => rw [h1] at h; cases h
    | some t =>
      rw [h1] at h
      simp only at h
      cases h2 : textsO L zs with
      | none => rw [h2] at h; cases h
      | some r =>
        rw [h2] at h
        simp only at h
        obtain rfl := Option.some.inj h
        obtain ⟨e1, e2⟩ := textsO_len h2
        refine ⟨by rw [List.length_cons, e1]; rfl, fun c hc => ?_⟩
        rcases List.mem_cons.1 hc with rfl | hc
        · unfold textO at h1
          split at h1
          · exact .inl (List.mem_of_getElem? h1)
          · cases h1
        · exact e2 c hc
def leafO (L : TxL) : List Int → Int × List T2.Txt × Int
  | [] => (0, [], 3)
  | x :: ys => if 0 ≤ x ∧ x ≤ 2147483647 ∧ pos12 ys = true then (match textsO L ys with | none => (0, [], 6) | some cs => (x, cs, 0)) else (0, [], 3)
theorem leafO_no {L : TxL} {x : Int} {ys : List Int} (h : ¬ (0 ≤ x ∧ x ≤ 2147483647 ∧ pos12 ys = true)) : leafO L (x :: ys) = (0, [], 3) := by
  show (if 0 ≤ x ∧ x ≤ 2147483647 ∧ pos12 ys = true then _ else _) = _
  rw [if_neg h]
theorem leafO_none {L : TxL} {x : Int} {ys : List Int} (h : 0 ≤ x ∧ x ≤ 2147483647 ∧ pos12 ys = true) (ht : textsO L ys = none) : leafO L (x :: ys) = (0, [], 6) := by
  show (if 0 ≤ x ∧ x ≤ 2147483647 ∧ pos12 ys = true then _ else _) = _
  rw [if_pos h, ht]
theorem leafO_some {L : TxL} {x : Int} {ys : List Int} {cs : List T2.Txt} (h : 0 ≤ x ∧ x ≤ 2147483647 ∧ pos12 ys = true) (ht : textsO L ys = some cs) : leafO L (x :: ys) = (x, cs, 0) := by
  show (if 0 ≤ x ∧ x ≤ 2147483647 ∧ pos12 ys = true then _ else _) = _
  rw [if_pos h, ht]
noncomputable def chunksO (L : TxL) (n : Int) : Int × List T2.Txt × Int :=
  match textO L n with
  | none => (0, [], 6)
  | some s => match splO s with
    | none => (0, [], 3)
    | some xs => leafO L xs
def OwnC (w : World) (R : Int × List T2.Txt × Int) (e : Ending) (w' : World) : Prop := ∃ u, e = .returned (.tuple #[.int .i64 R.1, u, .int .i64 R.2.2]) ∧ w'.ownsRow w.heap.size 9 1 u R.2.1.length (R.2.1.map T2.sv) ∧ Below w.heap.size w w'
theorem ownC_no {w w' : World} {c : Int} (g : Below w.heap.size w w') : OwnC w (0, [], c) (.returned (.tuple #[.int .i64 0, .slice none 0 0, .int .i64 c])) w' := ⟨_, rfl, World.ownsRow_nil _ _ _ _, g⟩
theorem rdv_tail {w : World} {g n cap : Nat} {a : Value} {l : List Value} (hn : n = l.length) (h : RdV w (.slice (some ⟨g, 0, none⟩) (n + 1) cap) (a :: l)) : RdV w (.slice (some ⟨g, 1, none⟩) n (cap - 1)) l := by
  subst hn
  obtain ⟨ao, c, e, h2, h3, h4, h5⟩ := h
  injection e with e1 e2 e3
  subst e1 e3
  simp only [List.length_cons] at h2 h5
  refine ⟨_, _, rfl, by omega, by omega, by simp, fun hp => ?_⟩
  obtain ⟨b, off, e, hb, hc⟩ := h5 (by omega)
  injection e with e
  injection e with e1 e2 e3
  subst e1 e2
  refine ⟨g, 1, rfl, hb, fun i hi => ?_⟩
  have := hc (i + 1) (by omega)
  rw [List.getElem?_cons_succ] at this
  rw [← this]
  congr 2; omega
set_option maxRecDepth 100000 in
set_option maxHeartbeats 2000000 in
theorem chunks12_any (base B M : Nat) (v : Value) (L : TxL) (n : Int) (w : World) (tb : T2.TB w base B M v L) (t : T2.Tab w) (es : ErrS w) (hL : ∀ s ∈ L, s.length ≤ 4000) :
    Calls Tryz.prog 22 #[.pointer (some ⟨B, 0, none⟩), .int .i64 n] w (OwnC w (chunksO L n)) := by
  obtain ⟨Z, hZ⟩ : ∃ Z, Z = OwnC w (chunksO L n) := ⟨_, rfl⟩
  rw [← hZ]
  have HZ := Lib.hid hZ
  have TX := Lib.hid (text_any12 base B M v L n w tb)
  have TXB := Lib.hid (fun y W (g : Below w.heap.size w W) => text_any12 base B M v L y W (tb.below g))
  have SP := Lib.hid (fun s (h : s ∈ L) => split_any s (hL s h) w t es)
  have HL4 := Lib.hid hL
  clear hZ tb t es hL
  go_enter Tryz.func22, Tryz.ntmps22
  go_wp2_with fail
  refine TX.out.mono ?_
  rintro e w' ⟨rfl, ⟨h1, rfl⟩ | ⟨s, hs, h1, rfl⟩⟩
  · go_wp2_with fail
    show Z _ _
    rw [HZ.out]
    unfold chunksO
    rw [h1]
    exact ownC_no (Below.refl _ _)
  · go_wp2_with fail
    refine (SP.out s hs).mono ?_
    rintro e w1 ⟨g, ⟨xs, u, hx, rfl, own⟩ | ⟨hx, rfl⟩⟩
    · have HR := Lib.hid (show chunksO L n = leafO L xs by unfold chunksO; rw [h1]; simp only; rw [splO_some hx])
      have GX := Lib.hid g
      have hlen : xs.length ≤ 4000 := by
        have a1 := digN_ge xs
        rw [← hx.1] at a1
        exact Nat.le_trans a1 (HL4.out s hs)
      clear hx h1 g SP TX
      cases xs with
      | nil =>
        obtain ⟨au, cu, rfl⟩ := own_slice_n own
        clear own
        go_wp2_with fail
        show Z _ _
        rw [HZ.out, HR.out]
        exact ownC_no GX.out
      | cons x ys =>
        simp only [List.length_cons] at own hlen
        obtain ⟨gq, cq, rfl, hq1, hq2⟩ := slice_of_own own (by omega)
        have hc0 : w1.cell? ⟨gq, 0, none⟩ = some (.int .i64 x) := by
          have := own.cellAt 0 (by simp)
          simpa [T2.iv] using this
        have RV := own_rdv own
        rw [List.map_cons] at RV
        have RT := rdv_tail (by simp) RV
        have hq3 : cq ≤ 9223372036854775807 := by unfold maxLen at hq2; omega
        have hgb : gq < w1.heap.size := (T2.own_lt own gq rfl).2
        have OW := Lib.hid own
        obtain ⟨k, hk⟩ : ∃ k, k = ys.length := ⟨_, rfl⟩
        rw [← hk] at RT hq1 hlen ⊢
        have HK := Lib.hid hk
        have HC0 := Lib.hid hc0
        clear own RV hk hq2
        by_cases hx1 : x < 0
        · have HR2 := Lib.hid (leafO_no (L := L) (x := x) (ys := ys) (by omega))
          go_wp2_with fail
          show Z _ _
          rw [HZ.out, HR.out, HR2.out]
          exact ownC_no GX.out
        · by_cases hx2 : 2147483647 < x
          · have HR2 := Lib.hid (leafO_no (L := L) (x := x) (ys := ys) (by omega))
            go_wp2_with fail
            show Z _ _
            rw [HZ.out, HR.out, HR2.out]
            exact ownC_no GX.out
          · have hk0 : ¬ (k : Int) + 1 = 0 := by omega
            have hk1 : 1 ≤ (k : Int) + 1 := by omega
            have hkb : ((k : Int) + 1 == 0) = false := by simp; omega
            by_cases hcq : cq = 1
            · have RT : RdV w1 (.slice (some ⟨gq, 0, none⟩) k 0) (ys.map T2.iv) := by
                have h0 : ys = [] := by have := HK.out; exact List.eq_nil_of_length_eq_zero (by omega)
                have h2 : k = 0 := by rw [HK.out, h0]; rfl
                subst h0 h2
                exact ⟨_, _, rfl, by simp, by decide, by simp, by simp⟩
              rcases Bool.eq_false_or_eq_true (pos12 ys) with hp | hp
              · have PO := Lib.hid (positive_b _ ys w1 true RT hp)
                have HRC := Lib.hid (show 0 ≤ x ∧ x ≤ 2147483647 ∧ pos12 ys = true from ⟨by omega, by omega, hp⟩)
                have HCELL := Lib.hid (show ∀ j (hj : j < ys.length), w1.cell? ⟨gq, 0 + j, none⟩ = some (T2.iv ys[j]) from fun j hj => by
                  obtain ⟨ao, c, e, h2, h3, h4, h5⟩ := RT
                  obtain ⟨b5, o5, e5, h6, h7⟩ := h5 (by rw [List.length_map]; omega)
                  injection e with e1 e2 e3
                  rw [← e1] at e5
                  injection e5 with e5
                  injection e5 with e5 e6
                  subst e5 e6
                  rw [h7 j (by rw [List.length_map]; omega), List.getElem?_map, List.getElem?_eq_getElem hj]; rfl)
                clear hp RT
                go_wp2_with fail
                refine PO.out.mono ?_
                rintro e w2 ⟨rfl, rfl⟩
                go_wp2_with fail
                go_loopw [11, 58] (fun lst i wr => ∃ (j : Nat) (cs : List T2.Txt), j ≤ k ∧ i = .int .i64 (j : Int) ∧ Hid (textsO L (ys.take j) = some cs) ∧ Hid (cs.length = j) ∧ Hid (Below w1.heap.size w1 wr) ∧ wr.ownsRow w1.heap.size 9 1 lst j (cs.map T2.sv)) (fun _ i _ => k + 1 - (intOf i).toNat)
                case atStart => exact ⟨0, [], Nat.zero_le _, rfl, Lib.hid rfl, Lib.hid rfl, Lib.hid (Below.refl _ _), World.ownsRow_nil _ _ _ _⟩
                case round =>
                  obtain ⟨j, cs, hj, rfl, HTX, HCL, HG, own⟩ := hrel
                  have GW := Lib.hid (GX.out.trans (HG.out.mono GX.out.size))
                  have HO := Lib.hid own
                  obtain ⟨al, cl, rfl⟩ := own_slice_n own
                  by_cases hlt : j < k
                  · exact absurd hlt (by omega)
                  · obtain rfl : j = k := by omega
                    have hT := HTX.out
                    rw [HK.out, List.take_length] at hT
                    have HR2 := Lib.hid (leafO_some HRC.out hT)
                    have hc0 : wr.cell? ⟨gq, 0, none⟩ = some (.int .i64 x) := by rw [World.cell?_of_block (w := w1) (HG.out.block _ hgb)]; exact HC0.out
                    clear own hT
                    go_wp2_with fail
                    show Z _ _
                    rw [HZ.out, HR.out, HR2.out]
                    refine ⟨_, rfl, ?_, GW.out⟩
                    have o8 := own_base HO.out GX.out.size
                    show _
                    simp only [HCL.out]
                    exact o8
              · have PO := Lib.hid (positive_b _ ys w1 false RT hp)
                have HR2 := Lib.hid (leafO_no (L := L) (x := x) (ys := ys) (fun h => by rw [hp] at h; exact absurd h.2.2 (by simp)))
                clear hp
                go_wp2_with fail
                refine PO.out.mono ?_
                rintro e w2 ⟨rfl, rfl⟩
                go_wp2_with fail
                show Z _ _
                rw [HZ.out, HR.out, HR2.out]
                exact ownC_no GX.out
            · skip
              rcases Bool.eq_false_or_eq_true (pos12 ys) with hp | hp
              · have PO := Lib.hid (positive_b _ ys w1 true RT hp)
                have HRC := Lib.hid (show 0 ≤ x ∧ x ≤ 2147483647 ∧ pos12 ys = true from ⟨by omega, by omega, hp⟩)
                have HCELL := Lib.hid (show ∀ j (hj : j < ys.length), w1.cell? ⟨gq, 1 + j, none⟩ = some (T2.iv ys[j]) from fun j hj => by
                  obtain ⟨ao, c, e, h2, h3, h4, h5⟩ := RT
                  obtain ⟨b5, o5, e5, h6, h7⟩ := h5 (by rw [List.length_map]; omega)
                  injection e with e1 e2 e3
                  rw [← e1] at e5
                  injection e5 with e5
                  injection e5 with e5 e6
                  subst e5 e6
                  rw [h7 j (by rw [List.length_map]; omega), List.getElem?_map, List.getElem?_eq_getElem hj]; rfl)
                clear hp RT
                go_wp2_with fail
                refine PO.out.mono ?_
                rintro e w2 ⟨rfl, rfl⟩
                go_wp2_with fail
                go_loopw [11, 58] (fun lst i wr => ∃ (j : Nat) (cs : List T2.Txt), j ≤ k ∧ i = .int .i64 (j : Int) ∧ Hid (textsO L (ys.take j) = some cs) ∧ Hid (cs.length = j) ∧ Hid (Below w1.heap.size w1 wr) ∧ wr.ownsRow w1.heap.size 9 1 lst j (cs.map T2.sv)) (fun _ i _ => k + 1 - (intOf i).toNat)
                case atStart => exact ⟨0, [], Nat.zero_le _, rfl, Lib.hid rfl, Lib.hid rfl, Lib.hid (Below.refl _ _), World.ownsRow_nil _ _ _ _⟩
                case round =>
                  obtain ⟨j, cs, hj, rfl, HTX, HCL, HG, own⟩ := hrel
                  have GW := Lib.hid (GX.out.trans (HG.out.mono GX.out.size))
                  have HO := Lib.hid own
                  obtain ⟨al, cl, rfl⟩ := own_slice_n own
                  by_cases hlt : j < k
                  · have hlt2 : j < ys.length := by rw [← HK.out]; exact hlt
                    have hc := HCELL.out j hlt2
                    obtain ⟨y, hy⟩ : ∃ y, y = ys[j]'hlt2 := ⟨_, rfl⟩
                    rw [← hy] at hc
                    unfold T2.iv at hc
                    have hc : wr.cell? ⟨gq, 1 + j, none⟩ = some (.int .i64 y) := by rw [World.cell?_of_block (w := w1) (HG.out.block _ hgb)]; exact hc
                    have hcB := hc
                    rw [Nat.add_comm] at hcB
                    have HY := Lib.hid hy
                    clear own hy
                    go_wp2_with fail
                    refine (TXB.out y wr GW.out).mono ?_
                    rintro e w5 ⟨rfl, ⟨h5, rfl⟩ | ⟨s5, hs5, h5, rfl⟩⟩
                    · have HR2 := Lib.hid (leafO_none HRC.out (textsO_none h5 (by rw [HY.out]; exact List.getElem_mem _)))
                      clear h5
                      go_wp2_with fail
                      show Z _ _
                      rw [HZ.out, HR.out, HR2.out]
                      exact ownC_no GW.out
                    · have HS := textsO_snoc h5 HTX.out
                      have e5 : ys.take j ++ [y] = ys.take (j + 1) := by rw [List.take_add_one, List.getElem?_eq_getElem hlt2, HY.out]; rfl
                      rw [e5] at HS
                      have HSX := Lib.hid HS
                      have own := HO.out
                      clear HS e5 h5
                      go_wp2_with (at_builtin; refine wpList_app_str rfl (.tmp 71) (.tmp 73) rfl w1.heap.size _ j cs rfl HCL.out.symm own _ s5 rfl (by have := HCL.out; omega) HG.out.size ?_; intro v6 w6 own6 g6 hq6)
                      exact ⟨⟨j + 1, cs ++ [s5], by omega, by push_cast; rfl, HSX, Lib.hid (by rw [List.length_append, HCL.out]; rfl), Lib.hid (HG.out.grown g6 HG.out.size (fun q hq => (T2.own_lt own q hq).1)), own6⟩, by simp [intOf]; omega⟩
                  · obtain rfl : j = k := by omega
                    have hT := HTX.out
                    rw [HK.out, List.take_length] at hT
                    have HR2 := Lib.hid (leafO_some HRC.out hT)
                    have hc0 : wr.cell? ⟨gq, 0, none⟩ = some (.int .i64 x) := by rw [World.cell?_of_block (w := w1) (HG.out.block _ hgb)]; exact HC0.out
                    clear own hT
                    go_wp2_with fail
                    show Z _ _
                    rw [HZ.out, HR.out, HR2.out]
                    refine ⟨_, rfl, ?_, GW.out⟩
                    have o8 := own_base HO.out GX.out.size
                    show _
                    simp only [HCL.out]
                    exact o8
              · have PO := Lib.hid (positive_b _ ys w1 false RT hp)
                have HR2 := Lib.hid (leafO_no (L := L) (x := x) (ys := ys) (fun h => by rw [hp] at h; exact absurd h.2.2 (by simp)))
                clear hp
                go_wp2_with fail
                refine PO.out.mono ?_
                rintro e w2 ⟨rfl, rfl⟩
                go_wp2_with fail
                show Z _ _
                rw [HZ.out, HR.out, HR2.out]
                exact ownC_no GX.out
    · have HR := Lib.hid (show chunksO L n = (0, [], 3) by unfold chunksO; rw [h1]; simp only; rw [splO_none hx])
      have GX := Lib.hid g
      clear hx h1 g
      go_wp2_with fail
      show Z _ _
      rw [HZ.out, HR.out]
      exact ownC_no GX.out
end Go.Proofs.YtoagdmglchccnaaGreatDoor
