/- Roots: a text cut at its commas into numbers. -/
/- Roots: what is read of a number: the terms of its leaves; the version and the chunks of a leaf. -/
import Derived.Test.YtoagdmglchccnaaGreatDoorQRR10
import Derived.Test.YtoagdmglchccnaaGreatDoorQRR37
import Derived.Lib.SmallJoins
import Derived.Test.YtoagdmglchccnaaGreatDoorQRR5
namespace Go.Proofs.YtoagdmglchccnaaGreatDoor
open Go Go.RowKit
set_option linter.unusedVariables false
set_option linter.unusedSimpArgs false
theorem scut_out (s : T2.Txt) (hn : ¬ (44 : UInt8) ∈ s) (w : World) : Calls Tryz.prog 92 #[.string (str s), .string (str [44])] w fun e w' => e = .returned (.tuple #[.string (str s), .string (str []), .bool false]) ∧ Below w.heap.size w w' := by
  have h : Lib.indexByte s 44 = -1 := by
    have h1 := ib_ge s 44
    by_cases h2 : Lib.indexByte s 44 = -1
    · exact h2
    · obtain ⟨a, r, e, -, -⟩ := ib_some (s := s) (c := 44) (i := (Lib.indexByte s 44).toNat) (by omega)
      exact absurd (by rw [e]; simp) hn
  obtain ⟨Z, hZ⟩ : ∃ Z : Ending → World → Prop, Z = fun e w' => e = .returned (.tuple #[.string (str s), .string (str []), .bool false]) ∧ Below w.heap.size w w' := ⟨_, rfl⟩
  rw [← hZ]
  have HZ := Lib.hid hZ
  have CX := Lib.hid (fun w => cut_out s w h)
  clear hZ h hn
  go_enter Tryz.func92, Tryz.ntmps92
  go_wp2_with fail
  refine (CX.out _).mono ?_
  rintro e w1 ⟨rfl, g⟩
  go_wp2_with fail
  show Z _ _
  rw [HZ.out]
  exact ⟨rfl, g⟩
theorem scut_in (a r : T2.Txt) (hn : ¬ (44 : UInt8) ∈ a) (w : World) (h63 : (a ++ 44 :: r).length ≤ maxLen) : Calls Tryz.prog 92 #[.string (str (a ++ 44 :: r)), .string (str [44])] w fun e w' => e = .returned (.tuple #[.string (str a), .string (str r), .bool true]) ∧ Below w.heap.size w w' := by
  have h : Lib.indexByte (a ++ 44 :: r) 44 = (a.length : Int) := by
    have h1 := ib_ge (a ++ 44 :: r) 44
    by_cases h2 : Lib.indexByte (a ++ 44 :: r) 44 = -1
    · exact absurd (by simp) (ib_none h2)
    · obtain ⟨a2, r2, e, h3, h4⟩ := ib_some (s := a ++ 44 :: r) (c := 44) (i := (Lib.indexByte (a ++ 44 :: r) 44).toNat) (by omega)
      obtain ⟨e1, -⟩ := T2.cut_inj hn h3 e
      have h5 := congrArg List.length e1
      omega
  have CX0 := fun w => cut_in (a ++ 44 :: r) a.length (a.length + 1) rfl w h (by simp) h63
  rw [str_extract, str_extract] at CX0
  have e1 : ((a ++ 44 :: r).drop 0).take (a.length - 0) = a := by simp
  have e2 : ((a ++ 44 :: r).drop (a.length + 1)).take ((a ++ 44 :: r).length - (a.length + 1)) = r := by
    have : (a ++ 44 :: r).drop (a.length + 1) = r := by
      rw [List.drop_append]; simp
    rw [this]
    exact List.take_of_length_le (by simp; omega)
  rw [e1, e2] at CX0
  obtain ⟨Z, hZ⟩ : ∃ Z : Ending → World → Prop, Z = fun e w' => e = .returned (.tuple #[.string (str a), .string (str r), .bool true]) ∧ Below w.heap.size w w' := ⟨_, rfl⟩
  rw [← hZ]
  have HZ := Lib.hid hZ
  obtain ⟨s, hs⟩ : ∃ s, s = a ++ 44 :: r := ⟨_, rfl⟩
  rw [← hs] at CX0 ⊢
  have CX := Lib.hid CX0
  clear hZ h hn CX0 e1 e2 hs h63
  go_enter Tryz.func92, Tryz.ntmps92
  go_wp2_with fail
  refine (CX.out _).mono ?_
  rintro e w1 ⟨rfl, g⟩
  go_wp2_with fail
  show Z _ _
  rw [HZ.out]
  exact ⟨rfl, g⟩
/-- What the two variables of errors hold. -/
def ErrS (w : World) : Prop := (∃ ev, w.cell? ⟨2, 0, none⟩ = some ev ∧ (ev = .nilIface ∨ ∃ te pe, ev = .iface te pe)) ∧ ∃ ev, w.cell? ⟨3, 0, none⟩ = some ev ∧ (ev = .nilIface ∨ ∃ te pe, ev = .iface te pe)
theorem ErrS.below {w w' : World} (h : ErrS w) (g : Below w.heap.size w w') : ErrS w' := by
  obtain ⟨⟨e1, h1, k1⟩, e2, h2, k2⟩ := h
  have l1 := World.block_lt_of_cell? w _ h1
  have l2 := World.block_lt_of_cell? w _ h2
  exact ⟨⟨e1, by rw [World.cell?_of_block (w := w) (g.block _ l1)]; exact h1, k1⟩, e2, by rw [World.cell?_of_block (w := w) (g.block _ l2)]; exact h2, k2⟩
theorem itoa_call (n : Int) (h : T2.fitsI n) (w : World) (t : T2.Tab w) : Calls Tryz.prog 94 #[.int .i64 n] w fun e w' => e = .returned (.string (str (Lib.itoa n))) ∧ Below w.heap.size w w' := by
  refine (Tryz.strconv_Itoa n h.1 h.2 w (Lib.TabBelow.here t)).mono ?_
  rintro e w' ⟨rfl, k, os, rfl⟩
  refine ⟨rfl, rfl, rfl, rfl, ?_, ?_⟩
  · simp [Go.Sort.grow, World.drewN]
  · intro k hk
    simp only [Go.Sort.grow, World.drewN]
    rw [Array.getElem?_append_left hk]
theorem atoi_call (s : T2.Txt) (hs : s.length ≤ 30000) (w : World) (es : ErrS w) : Calls Tryz.prog 93 #[.string (str s)] w fun e w' => Below w.heap.size w w' ∧ ((∃ v, Lib.atoiAll s = .ok v ∧ e = .returned (.tuple #[.int .i64 v, .nilIface])) ∨ (∀ v, Lib.atoiAll s ≠ .ok v) ∧ ∃ v N, e = .returned (.tuple #[.int .i64 v, .iface 216 (.pointer (some ⟨N, 0, none⟩))])) := by
  have hz := str_size s
  obtain ⟨⟨e1, h1, k1⟩, e2, h2, k2⟩ := es
  rcases h : Lib.atoiAll s with v | _ | _
  · refine (Tryz.strconv_Atoi_ok (str s) (by omega) v (by rw [str_toList]; exact h) w).mono ?_
    rintro e w' ⟨rfl, hw⟩
    refine ⟨?_, .inl ⟨v, rfl, rfl⟩⟩
    rcases hw with rfl | ⟨t, rfl⟩
    · exact Below.refl _ _
    · exact Go.Joins.below_bytesWorld _ _ _ _ (Nat.le_refl _)
  · refine (Any.strconv_Atoi_syntax Tryz.laysC172 (str s) (by omega) (by rw [str_toList]; exact h) e1 w h1 k1).mono ?_
    rintro e w' ⟨N, rfl, -, -, g⟩
    exact ⟨g, .inr ⟨fun v hv => (by cases hv), 0, N, rfl⟩⟩
  · refine (Tryz.strconv_Atoi_range (str s) (by omega) (by rw [str_toList]; exact h) e2 w h2 k2).mono ?_
    rintro e w' ⟨N, rfl, -, -, g⟩
    exact ⟨g, .inr ⟨fun v hv => (by cases hv), _, N, rfl⟩⟩
theorem digN_ge (xs : List Int) : xs.length ≤ (T2.digN xs).length := by
  induction xs with
  | nil => simp
  | cons x xs ih => rw [T2.digN_cons, List.length_append, List.length_cons, List.length_cons]; omega
def szOf : Value → Nat
  | .string b => b.size
  | _ => 0
/-- No numbers: behind some that are, what is left begins with none. -/
theorem no_dig {s r : T2.Txt} {nums : List Int} (h : s = T2.digN nums ++ r) (hr : r ≠ []) (hn : ∀ y rest, T2.fitsI y → r ≠ Lib.itoa y ++ 44 :: rest) : ∀ xs, ¬ IsDig s xs := by
  rintro xs ⟨e, hf⟩
  obtain ⟨ys, e1, e2⟩ := digN_pre (e.symm.trans h)
  cases ys with
  | nil => exact hr (by rw [e2]; rfl)
  | cons y ys =>
    rw [T2.digN_cons] at e2
    exact hn y _ (hf y (by rw [e1]; simp)) e2
def SplitP (w : World) (s : T2.Txt) (e : Ending) (w' : World) : Prop :=
  Below w.heap.size w w' ∧ ((∃ xs v, IsDig s xs ∧ e = .returned (.tuple #[v, .bool true]) ∧ w'.ownsRow w.heap.size 3 1 v xs.length (xs.map T2.iv)) ∨ (∀ xs, ¬ IsDig s xs) ∧ e = .returned (.tuple #[.slice none 0 0, .bool false]))
set_option maxRecDepth 100000 in
set_option maxHeartbeats 2000000 in
theorem split_any (s : T2.Txt) (hs : s.length ≤ 4000) (w : World) (t : T2.Tab w) (es : ErrS w) : Calls Tryz.prog 60 #[.string (str s)] w (SplitP w s) := by
  obtain ⟨Z, hZ⟩ : ∃ Z, Z = SplitP w s := ⟨_, rfl⟩
  rw [← hZ]
  have HZ := Lib.hid hZ
  have T0 := Lib.hid t
  have E0 := Lib.hid es
  have HS := Lib.hid hs
  clear hZ t es hs
  go_enter Tryz.func60, Tryz.ntmps60
  go_wp2_with fail
  go_step3
  go_wp2_with fail
  go_step3
  go_wp2_with fail
  go_loopw [0, 4] (fun z lst wr => ∃ (r : T2.Txt) (nums : List Int), z = .string (str r) ∧ Hid (s = T2.digN nums ++ r) ∧ Hid (∀ x ∈ nums, T2.fitsI x) ∧ Hid (Below w.heap.size w wr) ∧ wr.ownsRow w.heap.size 3 1 lst nums.length (nums.map T2.iv)) (fun z _ _ => szOf z)
  case atStart => exact ⟨s, [], rfl, Lib.hid rfl, Lib.hid (fun x hx => by cases hx), Lib.hid (Below.refl _ _), World.ownsRow_nil _ _ _ _⟩
  case round =>
    obtain ⟨r, nums, rfl, HE, HF, HG, own⟩ := hrel
    by_cases hr : r = []
    · subst hr
      have q : (str ([] : T2.Txt)).toList.isEmpty = true := by rw [str_tl]; rfl
      have HO := Lib.hid own
      go_wp2_with fail
      rw [HZ.out]
      exact ⟨HG.out, .inl ⟨nums, _, ⟨by have := HE.out; rw [List.append_nil] at this; exact this, HF.out⟩, rfl, HO.out⟩⟩
    · have q : (str r).toList.isEmpty = false := by rw [str_tl]; cases r with | nil => exact absurd rfl hr | cons _ _ => rfl
      have hlen : (T2.digN nums ++ r).length ≤ 4000 := by rw [← HE.out]; exact HS.out
      rw [List.length_append] at hlen
      have hng := digN_ge nums
      have HO := Lib.hid own
      by_cases hc : (44 : UInt8) ∈ r
      · obtain ⟨a, r2, hr2, hna⟩ : ∃ a r2, r = a ++ 44 :: r2 ∧ ¬ (44 : UInt8) ∈ a := by
          by_cases h2 : Lib.indexByte r 44 = -1
          · exact absurd hc (ib_none h2)
          · have h1 := ib_ge r 44
            obtain ⟨a, r2, e, h3, -⟩ := ib_some (s := r) (c := 44) (i := (Lib.indexByte r 44).toNat) (by omega)
            exact ⟨a, r2, e, h3⟩
        have hl2 := congrArg List.length hr2
        rw [List.length_append, List.length_cons] at hl2
        have CU0 := fun w => scut_in a r2 hna w (by rw [← hr2]; unfold maxLen; omega)
        rw [← hr2] at CU0
        have CU := Lib.hid CU0
        have HR2 := Lib.hid hr2
        have HNA := Lib.hid hna
        have HR := Lib.hid hr
        have ND : ∀ y rest, T2.fitsI y → r = Lib.itoa y ++ 44 :: rest → a = Lib.itoa y := fun y rest _ e => (T2.cut_inj hna (T2.itoa_ne44 y) (hr2.symm.trans e)).1
        have ND := Lib.hid ND
        clear CU0 hr hna hr2 own
        go_wp2_with fail
        refine (CU.out _).mono ?_
        rintro e w1 ⟨rfl, g1⟩
        have G1 := Lib.hid (HG.out.trans (g1.mono HG.out.size))
        have O1 := Lib.hid (T2.own_on HO.out g1 (Nat.le_refl _))
        have AT := Lib.hid (atoi_call a (by omega) w1 (E0.out.below G1.out))
        clear g1 CU
        go_wp2_with fail
        refine AT.out.mono ?_
        rintro e w2 ⟨g2, h2⟩
        have G2 := Lib.hid (G1.out.trans (g2.mono G1.out.size))
        have O2 := Lib.hid (T2.own_on O1.out g2 (Nat.le_refl _))
        clear g2 AT
        rcases h2 with ⟨v, ha, rfl⟩ | ⟨ha, v, N, rfl⟩
        · have hv := Lib.atoiAll_bounds ha
          have HV := Lib.hid (show T2.fitsI v from hv)
          have IT := Lib.hid (itoa_call v hv w2 (T0.out.below G2.out))
          clear hv
          go_wp2_with fail
          refine IT.out.mono ?_
          rintro e w3 ⟨rfl, g3⟩
          have G3 := Lib.hid (G2.out.trans (g3.mono G2.out.size))
          have O3 := Lib.hid (T2.own_on O2.out g3 (Nat.le_refl _))
          clear g3 IT
          by_cases hia : Lib.itoa v = a
          · have HI := Lib.hid hia
            rw [hia]
            have HL := Lib.hid hl2
            have HM := Lib.hid (show nums.length ≤ 4000 by omega)
            have own := O3.out
            obtain ⟨al, cl, rfl⟩ := own_slice_n own
            clear ha hia hl2
            go_wp2_with (at_builtin; refine wpList_app_int rfl (.tmp 35) (.tmp 37) rfl w.heap.size _ nums.length nums rfl rfl own _ v rfl HM.out G3.out.size ?_; intro v6 w6 own6 g6 hq6)
            refine ⟨⟨r2, nums ++ [v], rfl, Lib.hid ?_, Lib.hid ?_, Lib.hid ?_, by rw [List.length_append]; exact own6⟩, ?_⟩
            · rw [T2.digN_snoc, HI.out, HE.out, HR2.out]; simp
            · intro x hx
              rcases List.mem_append.1 hx with hx | hx
              · exact HF.out x hx
              · rw [List.mem_singleton.1 hx]; exact HV.out
            · exact G3.out.grown g6 G3.out.size (fun j ej => by have := (T2.own_lt own j ej).1; omega)
            · have := HL.out
              simp only [szOf, str_size]; omega
          · have q2 : ((str (Lib.itoa v)).toList == (str a).toList) = false := by rw [str_tl, str_tl]; simpa using hia
            have HN := Lib.hid (no_dig HE.out HR.out (fun y rest hy e => hia (by
              have e1 := ND.out y rest hy e
              rw [e1, atoi_itoa y hy] at ha
              injection ha with ha
              rw [e1, ha])))
            go_wp2_with fail
            rw [HZ.out]
            exact ⟨G3.out, .inr ⟨HN.out, rfl⟩⟩
        · have HN := Lib.hid (no_dig HE.out HR.out (fun y rest hy e => ha y (by rw [ND.out y rest hy e]; exact atoi_itoa y hy)))
          go_wp2_with fail
          rw [HZ.out]
          exact ⟨G2.out, .inr ⟨HN.out, rfl⟩⟩
      · have CU := Lib.hid (scut_out r hc)
        have HN := Lib.hid (no_dig HE.out hr (fun y rest _ e => hc (by rw [e]; simp)))
        clear own
        go_wp2_with fail
        refine (CU.out _).mono ?_
        rintro e w1 ⟨rfl, g1⟩
        have AT := atoi_call r (by omega) w1 (E0.out.below (HG.out.trans (g1.mono HG.out.size)))
        go_wp2_with fail
        refine AT.mono ?_
        rintro e w2 ⟨g2, h2⟩
        have HG2 := Lib.hid (HG.out.trans ((g1.mono HG.out.size).trans (g2.mono (Nat.le_trans HG.out.size g1.size))))
        rcases h2 with ⟨v, ha, rfl⟩ | ⟨ha, v, N, rfl⟩
        · go_wp2_with fail
          rw [HZ.out]
          exact ⟨HG2.out, .inr ⟨HN.out, rfl⟩⟩
        · go_wp2_with fail
          rw [HZ.out]
          exact ⟨HG2.out, .inr ⟨HN.out, rfl⟩⟩
end Go.Proofs.YtoagdmglchccnaaGreatDoor
namespace Go.Proofs.YtoagdmglchccnaaGreatDoor
open Go Go.RowKit
set_option linter.unusedVariables false
set_option linter.unusedSimpArgs false
def pos12 (xs : List Int) : Bool := xs.all fun x => decide (1 ≤ x)
theorem pos12_take {xs : List Int} {j : Nat} (h : j < xs.length) : pos12 (xs.take (j + 1)) = (pos12 (xs.take j) && decide (1 ≤ xs[j])) := by
  unfold pos12
  rw [List.take_add_one, List.getElem?_eq_getElem h, List.all_append]; simp
theorem pos12_no {xs : List Int} {j : Nat} (h : j < xs.length) (hx : xs[j] < 1) : pos12 xs = false := by
  unfold pos12
  rw [List.all_eq_false]
  exact ⟨xs[j], List.getElem_mem _, by simp; omega⟩
theorem positive_any (v : Value) (xs : List Int) (w : World) (h : RdV w v (xs.map T2.iv)) : Calls Tryz.prog 61 #[v] w fun e w' => e = .returned (.bool (pos12 xs)) ∧ w = w' := by
  obtain ⟨ao, cap, rfl, hle, hmax, hcell⟩ := T2.rdv_open h
  obtain ⟨Z, hZ⟩ : ∃ Z : Ending → World → Prop, Z = fun e w' => e = .returned (.bool (pos12 xs)) ∧ w = w' := ⟨_, rfl⟩
  rw [← hZ]
  have HZ := Lib.hid hZ
  have HM := Lib.hid (show xs.length ≤ 9223372036854775807 by unfold maxLen at hmax; omega)
  clear hZ h hle hmax
  go_enter Tryz.func61, Tryz.ntmps61
  go_wp2_with fail
  go_loopw [7] (fun i wr => ∃ j : Nat, j ≤ xs.length ∧ i = .int .i64 (j : Int) ∧ wr = w ∧ Hid (pos12 (xs.take j) = true)) (fun i _ => xs.length + 1 - (intOf i).toNat)
  case atStart => exact ⟨0, Nat.zero_le _, rfl, rfl, Lib.hid rfl⟩
  case round =>
    obtain ⟨j, hj, rfl, rfl, HP⟩ := hrel
    have hm := HM.out
    by_cases hlt : j < xs.length
    · obtain ⟨b, off, rfl, hb, hc0⟩ := hcell.out (by omega)
      have hc := hc0 j hlt
      have PT := pos12_take hlt
      have PN := fun hx => pos12_no hlt hx
      obtain ⟨x, hx⟩ : ∃ x, x = xs[j] := ⟨_, rfl⟩
      rw [← hx] at hc PT PN
      have PT := Lib.hid PT
      have PN := Lib.hid PN
      clear hx hc0 hcell
      by_cases h1 : x < 1
      · go_wp2_with fail
        show Z _ _
        rw [HZ.out, PN.out h1]
        exact ⟨rfl, rfl⟩
      · go_wp2_with fail
        exact ⟨⟨j + 1, by omega, by push_cast; rfl, (by first | trivial | rfl), Lib.hid (by rw [PT.out, HP.out]; simp; omega)⟩, by simp [intOf]; omega⟩
    · obtain rfl : j = xs.length := by omega
      go_wp2_with fail
      show Z _ _
      rw [HZ.out]
      have := HP.out
      rw [List.take_length] at this
      rw [this]
      exact ⟨rfl, rfl⟩
theorem positive_b (v : Value) (xs : List Int) (w : World) (b : Bool) (h : RdV w v (xs.map T2.iv)) (hb : pos12 xs = b) : Calls Tryz.prog 61 #[v] w fun e w' => e = .returned (.bool b) ∧ w = w' := by
  subst hb
  exact positive_any v xs w h
def textO (L : TxL) (n : Int) : Option T2.Txt := if 1 ≤ n ∧ n ≤ L.length then L[(n - 1).toNat]? else none
theorem textO_none {L : TxL} {n : Int} (h : ¬ (1 ≤ n ∧ n ≤ L.length)) : textO L n = none := by unfold textO; rw [if_neg h]
theorem textO_some {L : TxL} {n : Int} (h : 1 ≤ n ∧ n ≤ L.length) : ∃ k, ∃ hk : k < L.length, n = (k : Int) + 1 ∧ textO L n = some L[k] := by
  refine ⟨(n - 1).toNat, by omega, by omega, ?_⟩
  unfold textO
  rw [if_pos h, List.getElem?_eq_getElem (by omega)]
theorem text_any12 (base B M : Nat) (v : Value) (L : TxL) (n : Int) (w : World) (tb : T2.TB w base B M v L) :
    Calls Tryz.prog 19 #[.pointer (some ⟨B, 0, none⟩), .int .i64 n] w fun e w' => w = w' ∧ (textO L n = none ∧ e = .returned (.tuple #[.string (str []), .int .i64 6]) ∨ ∃ s, s ∈ L ∧ textO L n = some s ∧ e = .returned (.tuple #[.string (str s), .int .i64 0])) := by
  by_cases h : 1 ≤ n ∧ n ≤ L.length
  · obtain ⟨k, hk, rfl, e⟩ := textO_some h
    exact (T2.text_in base B M v L k hk w tb).mono (fun e' w' ⟨h1, h2⟩ => ⟨h2, .inr ⟨_, List.getElem_mem hk, e, h1⟩⟩)
  · exact (T2.text_out base B M v L n h w tb).mono (fun e' w' ⟨h1, h2⟩ => ⟨h2, .inl ⟨textO_none h, h1⟩⟩)
noncomputable def leavesO (L : TxL) (n : Int) : List Int × Int :=
  match textO L n with
  | none => ([], 6)
  | some s => match splO s with
    | none => ([], 3)
    | some xs => if xs.length = 16 ∧ pos12 xs = true then (xs, 0) else ([], 3)
theorem leavesO_some {L : TxL} {n : Int} {s : T2.Txt} {xs : List Int} (h1 : textO L n = some s) (h2 : splO s = some xs) (h3 : xs.length = 16) (h4 : pos12 xs = true) : leavesO L n = (xs, 0) := by
  unfold leavesO; rw [h1]; simp only; rw [h2]; simp only; rw [if_pos ⟨h3, h4⟩]
theorem leavesO_len {L : TxL} {n : Int} {s : T2.Txt} {xs : List Int} (h1 : textO L n = some s) (h2 : splO s = some xs) (h3 : ¬ xs.length = 16) : leavesO L n = ([], 3) := by
  unfold leavesO; rw [h1]; simp only; rw [h2]; simp only; rw [if_neg (fun h => h3 h.1)]
theorem leavesO_pos {L : TxL} {n : Int} {s : T2.Txt} {xs : List Int} (h1 : textO L n = some s) (h2 : splO s = some xs) (h4 : pos12 xs = false) : leavesO L n = ([], 3) := by
  unfold leavesO; rw [h1]; simp only; rw [h2]; simp only; rw [if_neg (fun h => by rw [h4] at h; exact absurd h.2 (by simp))]
theorem leavesO_bad {L : TxL} {n : Int} {s : T2.Txt} (h1 : textO L n = some s) (h2 : splO s = none) : leavesO L n = ([], 3) := by
  unfold leavesO; rw [h1]; simp only; rw [h2]
def Own2 (w : World) (R : List Int × Int) (e : Ending) (w' : World) : Prop := ∃ u, e = .returned (.tuple #[u, .int .i64 R.2]) ∧ w'.ownsRow w.heap.size 3 1 u R.1.length (R.1.map T2.iv) ∧ Below w.heap.size w w'
theorem own2_no {w w' : World} {c : Int} (g : Below w.heap.size w w') : Own2 w ([], c) (.returned (.tuple #[.slice none 0 0, .int .i64 c])) w' := ⟨_, rfl, World.ownsRow_nil _ _ _ _, g⟩
set_option maxRecDepth 100000 in
set_option maxHeartbeats 600000 in
theorem leaves12_any (base B M : Nat) (v : Value) (L : TxL) (n : Int) (w : World) (tb : T2.TB w base B M v L) (t : T2.Tab w) (es : ErrS w) (hL : ∀ s ∈ L, s.length ≤ 4000) :
    Calls Tryz.prog 20 #[.pointer (some ⟨B, 0, none⟩), .int .i64 n] w (Own2 w (leavesO L n)) := by
  obtain ⟨Z, hZ⟩ : ∃ Z, Z = Own2 w (leavesO L n) := ⟨_, rfl⟩
  rw [← hZ]
  have HZ := Lib.hid hZ
  have TX := Lib.hid (text_any12 base B M v L n w tb)
  have SP := Lib.hid (fun s (h : s ∈ L) => split_any s (hL s h) w t es)
  clear hZ tb t es hL
  go_enter Tryz.func20, Tryz.ntmps20
  go_wp2_with fail
  refine TX.out.mono ?_
  rintro e w' ⟨rfl, ⟨h1, rfl⟩ | ⟨s, hs, h1, rfl⟩⟩
  · go_wp2_with fail
    show Z _ _
    rw [HZ.out]
    unfold leavesO
    rw [h1]
    exact own2_no (Below.refl _ _)
  · go_wp2_with fail
    refine (SP.out s hs).mono ?_
    rintro e w1 ⟨g, ⟨xs, u, hx, rfl, own⟩ | ⟨hx, rfl⟩⟩
    · have hx2 := splO_some hx
      have RD := own_rdv own
      have OW := Lib.hid own
      by_cases h16 : xs.length = 16
      · have h16i : ((xs.length : Nat) : Int) = 16 := by omega
        rcases Bool.eq_false_or_eq_true (pos12 xs) with hp | hp
        · have PO := Lib.hid (positive_b u xs w1 true RD hp)
          have HR := Lib.hid (leavesO_some h1 hx2 h16 hp)
          have GX := Lib.hid g
          obtain ⟨au, cu, rfl⟩ := own_slice_n own
          clear own RD hx2 hp hx h16 h1 g
          go_wp2_with fail
          refine PO.out.mono ?_
          rintro e w2 ⟨rfl, rfl⟩
          go_wp2_with fail
          show Z _ _
          rw [HZ.out, HR.out]
          exact ⟨_, rfl, OW.out, GX.out⟩
        · have PO := Lib.hid (positive_b u xs w1 false RD hp)
          have HR := Lib.hid (leavesO_pos h1 hx2 hp)
          have GX := Lib.hid g
          obtain ⟨au, cu, rfl⟩ := own_slice_n own
          clear own RD hx2 hp hx h16 h1 g
          go_wp2_with fail
          refine PO.out.mono ?_
          rintro e w2 ⟨rfl, rfl⟩
          go_wp2_with fail
          show Z _ _
          rw [HZ.out, HR.out]
          exact own2_no GX.out
      · have h16i : ¬ ((xs.length : Nat) : Int) = 16 := by omega
        have HR := Lib.hid (leavesO_len h1 hx2 h16)
        have GX := Lib.hid g
        obtain ⟨au, cu, rfl⟩ := own_slice_n own
        clear own RD hx2 hx h1 g
        go_wp2_with fail
        show Z _ _
        rw [HZ.out, HR.out]
        exact own2_no GX.out
    · have HR := Lib.hid (leavesO_bad h1 (splO_none hx))
      have GX := Lib.hid g
      clear hx h1 g
      go_wp2_with fail
      show Z _ _
      rw [HZ.out, HR.out]
      exact own2_no GX.out
end Go.Proofs.YtoagdmglchccnaaGreatDoor
