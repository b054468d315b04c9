/- Trunks: structs of 32 cells that are loaded, stored, handed back whole; Get. Written by wip/tools/gen10c.py. -/
import Derived.Test.YtmjedjhkhjiigaaDoorQTKC22
import Derived.Deep.MidRow
namespace Go.Proofs.YtmjedjhkhjiigaaDoor
open Go Go.RowKit
set_option linter.unusedVariables false
set_option linter.unusedSimpArgs false
theorem infoT : (Tryd.prog.info? 26).map (·.size) = some 32 := by kernel_rfl
theorem infoTc {cs : Array Value} (h : cs.size = 32) : (Tryd.prog.info? 26).map (·.size) = some cs.size := by rw [h]; exact infoT
theorem zeroT_run (w : World) : (zeroValue 26).run Tryd.prog w = .ok (.agg zT) w := by kernel_rfl
theorem zT_size : zT.size = 32 := rfl
theorem zT_ne : zT ≠ #[] := by simp [zT]
theorem zT_built : Tryd.prog.built 26 [] = some zT := by kernel_rfl
/-- A struct is loaded under a guard that lets it. -/
theorem wpList_load_row_g {P : Program} {ops : Array Oper} {rest : List Oper} {o : Oper} {a : Act} {w : World} {Q : Exit → Act → World → Prop} (hw : Region.wanted o (yielded ops a.tmps) = true) (ty : TypeId) (x : Operand) (ho : o.op = .load ty x)
    (g : Nat) (hx : a.eval x = .pointer (some ⟨g, 0, none⟩)) (t : TypeId) (cs : Array Value) (fr : Nat × Nat) (d : TypeDesc) (hg : w.heap[g]? = some (.cells cs t fr))
    (hu : P.underlying ty = some d) (hd : (match d with | .struct _ | .array _ _ => true | _ => false) = true) (hi : (P.info? ty).map (·.size) = some cs.size)
    (h : wpList P ops Q rest (a.put o.dst (.agg cs)) w) : wpList P ops Q (o :: rest) a w := by
  simp only [wpList, hw, if_true]
  exact .inl (wp_load_row ty x ho g hx t cs fr d hg hu hd hi h)
theorem results_row_tmp {P : Program} {fn : Func} {p q : Tmp} {ty : TypeId} (h : fn.results = #[.cell p ty, .tmp q]) (tmps : Array Value) (w : World) (g : Nat) (t : TypeId) (cs : Array Value) (fr : Nat × Nat) (d : TypeDesc) (v : Value)
    (hp : tmps.getD p undef = .pointer (some ⟨g, 0, none⟩)) (hq : tmps.getD q undef = v) (hg : w.heap[g]? = some (.cells cs t fr))
    (hu : P.underlying ty = some d) (hd : (match d with | .struct _ | .array _ _ => true | _ => false) = true) (hi : (P.info? ty).map (·.size) = some cs.size) :
    (results fn tmps).run P w = .ok (.tuple #[.agg cs, v]) w := by
  have hp' : tmps[p]?.getD undef = .pointer (some ⟨g, 0, none⟩) := by simpa using hp
  have hq' : tmps[q]?.getD undef = v := by simpa using hq
  simp [results, h, hp', hq', asAddr, run_loadVar_row w g t ty cs fr d hg hu hd hi]
def tI (lv : Nat → List It) (vs : Nat → Int) (k : List UInt8) : It := if mayTs lv vs 16 = true then gTI lv k else zI
def tB (lv : Nat → List It) (vs : Nat → Int) (k : List UInt8) : Bool := mayTs lv vs 16 && gTB lv k
def tGet (lv : Nat → List It) (vs : Nat → Int) (k : List UInt8) : Value := .tuple #[itV (tI lv vs k), .bool (tB lv vs k)]
theorem tGet_nokey {lv : Nat → List It} {vs : Nat → Int} {k : List UInt8} (h : isB k = false) : tGet lv vs k = .tuple #[itZ, .bool false] := by
  have e : tI lv vs k = zI := by unfold tI gTI; rw [h]; simp
  unfold tGet tB gTB
  rw [h, e]; simp; rfl
theorem tGet_no {lv : Nat → List It} {vs : Nat → Int} {k : List UInt8} (h : mayTs lv vs 16 = false) : tGet lv vs k = .tuple #[itZ, .bool false] := by
  have e : tI lv vs k = zI := by unfold tI; rw [h]; simp
  unfold tGet tB
  rw [h, e]; simp; rfl
theorem tGet_yes {lv : Nat → List It} {vs : Nat → Int} {k : List UInt8} (h : mayTs lv vs 16 = true) (hk : isB k = true) : tGet lv vs k = getT (lv (bkN k)) k := by
  rw [getT_of]; unfold tGet tI tB gTI gTB; rw [h, hk]; simp
set_option maxRecDepth 100000 in
set_option maxHeartbeats 2000000 in
theorem tget_any (cs : Array Value) (lv : Nat → List It) (vs : Nat → Int) (k : List UInt8) (w : World) (tab : TabAt w) (h : RdT w cs lv vs) (hsz : SzT lv) (hk : k.length ≤ maxLen) :
    Calls Tryd.prog 13 #[.agg cs, .string (str k)] w fun e w' => e = .returned (tGet lv vs k) ∧ Below w.heap.size w w' := by
  have hs := infoTc h.size
  have HT := Lib.hid h
  have HS := Lib.hid hsz
  obtain ⟨R, hR⟩ : ∃ R, R = tGet lv vs k := ⟨_, rfl⟩
  rw [← hR]
  obtain ⟨q2, q4, -, -⟩ := two_allocs w (.cells cs 26) (.cells #[.string (str []), .int .i64 0, .int .i64 0, .string (str []), .int .i64 0] 32)
  have bel : Below w.heap.size w ((w.alloc (.cells cs 26)).alloc (.cells #[.string (str []), .int .i64 0, .int .i64 0, .string (str []), .int .i64 0] 32)) := ((Below.refl _ w).alloc (Nat.le_refl _) _).alloc (by simp) _
  have BK := bucket_any k hk
  change Ret _ _ (.int .i64 (bk k)) at BK
  have T0 := tab.below bel
  clear h hsz tab
  cases hb : isB k with
  | false =>
    have HR := Lib.hid (hR.trans (tGet_nokey hb))
    rw [bk_no hb] at BK
    clear hR hb
    go_enter Tryd.func13, Tryd.ntmps13
    go_wp2_with fail
    refine (BK.at _ T0).mono ?_
    rintro e w1 ⟨rfl, g⟩
    replace q4 := (g.block _ (lt_of_block q4)).trans q4
    replace bel := chain bel g
    obtain ⟨d0, d1, d2, d3, d4, dz⟩ := block_cells5 q4
    clear g q2
    go_wp2_with fail
    obtain ⟨r0, r1, r2, r3, r4, bel9⟩ := set5 (.string (str [])) (.int .i64 0) (.int .i64 0) (.string (str [])) (.int .i64 0) q4 bel (by omega)
    refine bodyPost_ret (v := .tuple #[.agg #[.string (str []), .int .i64 0, .int .i64 0, .string (str []), .int .i64 0], .bool false]) (by simp [results, Tryd.results13, go_sem, r0, r1, r2, r3, r4, str_e]) rfl ⟨by rw [HR.out]; rfl, bel9⟩
  | true =>
    rw [bk_is hb] at BK
    have hb16 := bkN_lt k
    cases hm : mayTs lv vs 16 with
    | false =>
      have HR := Lib.hid (hR.trans (tGet_no hm))
      obtain ⟨b, hbk⟩ : ∃ b, b = bkN k := ⟨_, rfl⟩
      rw [← hbk] at BK hb16
      have TM0 := fun W t h => tmay_any cs lv vs W t h HS.out
      rw [hm] at TM0
      have TM := Lib.hid TM0
      clear hR hb hm TM0 hbk
      go_enter Tryd.func13, Tryd.ntmps13
      go_wp2_with fail
      refine (BK.at _ T0).mono ?_
      rintro e w1 ⟨rfl, g⟩
      replace T0 := T0.below g
      replace q2 := (g.block _ (lt_of_block q2)).trans q2
      replace q4 := (g.block _ (lt_of_block q4)).trans q4
      replace bel := chain bel g
      clear g
      go_wp2_with (with_reducible refine wpList_load_row_g (o := ⟨some 12, _, _, _, _, _⟩) rfl 26 (.tmp 2) rfl _ rfl _ cs (0, 0) _ q2 Tryd.underlying26 rfl hs ?_)
      refine (TM.out _ T0 (HT.out.below bel (Nat.le_refl _))).mono ?_
      rintro e w2 ⟨rfl, g⟩
      replace q4 := (g.block _ (lt_of_block q4)).trans q4
      replace bel := chain bel g
      obtain ⟨d0, d1, d2, d3, d4, dz⟩ := block_cells5 q4
      clear g q2
      go_wp2_with fail
      obtain ⟨r0, r1, r2, r3, r4, bel9⟩ := set5 (.string (str [])) (.int .i64 0) (.int .i64 0) (.string (str [])) (.int .i64 0) q4 bel (by omega)
      refine bodyPost_ret (v := .tuple #[.agg #[.string (str []), .int .i64 0, .int .i64 0, .string (str []), .int .i64 0], .bool false]) (by simp [results, Tryd.results13, go_sem, r0, r1, r2, r3, r4, str_e]) rfl ⟨by rw [HR.out]; rfl, bel9⟩
    | true =>
      have HR0 := hR.trans (tGet_yes hm hb)
      rw [getT_of] at HR0
      obtain ⟨b, hbk⟩ : ∃ b, b = bkN k := ⟨_, rfl⟩
      rw [← hbk] at BK hb16 HR0
      obtain ⟨X, hX⟩ : ∃ X, X = gI (lv b) k := ⟨_, rfl⟩
      obtain ⟨Y, hY⟩ : ∃ Y, Y = gB (lv b) k := ⟨_, rfl⟩
      rw [← hX, ← hY] at HR0
      have LG0 := fun W u t h => lget_any u (lv b) k W t h (HS.out b hb16)
      simp only [getT_of, ← hX, ← hY] at LG0
      have LG := Lib.hid LG0
      have HR := Lib.hid HR0
      have TM0 := fun W t h => tmay_any cs lv vs W t h HS.out
      rw [hm] at TM0
      have TM := Lib.hid TM0
      clear hR hb hm TM0 hbk LG0 hX hY HR0
      obtain ⟨u, hu, hru⟩ := HT.out.leaf b hb16
      have HU := Lib.hid hu
      have HRU := Lib.hid hru
      clear hu hru
      go_enter Tryd.func13, Tryd.ntmps13
      go_wp2_with fail
      refine (BK.at _ T0).mono ?_
      rintro e w1 ⟨rfl, g⟩
      replace T0 := T0.below g
      replace q2 := (g.block _ (lt_of_block q2)).trans q2
      replace q4 := (g.block _ (lt_of_block q4)).trans q4
      replace bel := chain bel g
      clear g
      go_wp2_with (with_reducible refine wpList_load_row_g (o := ⟨some 12, _, _, _, _, _⟩) rfl 26 (.tmp 2) rfl _ rfl _ cs (0, 0) _ q2 Tryd.underlying26 rfl hs ?_)
      refine (TM.out _ T0 (HT.out.below bel (Nat.le_refl _))).mono ?_
      rintro e w2 ⟨rfl, g⟩
      replace T0 := T0.below g
      replace q2 := (g.block _ (lt_of_block q2)).trans q2
      replace q4 := (g.block _ (lt_of_block q4)).trans q4
      replace bel := chain bel g
      have c1 := (block_cell q2 b).trans HU.out
      have hlB := lt_of_block q2
      clear g
      go_wp2_with fail
      refine (LG.out _ _ T0 (HRU.out.below bel (Nat.le_refl _))).mono ?_
      rintro e w3 ⟨rfl, g⟩
      replace q4 := (g.block _ (lt_of_block q4)).trans q4
      replace bel := chain bel g
      obtain ⟨d0, d1, d2, d3, d4, dz⟩ := block_cells5 q4
      clear g q2 c1 hlB
      unfold itV at HR ⊢
      go_wp2_with fail
      obtain ⟨r0, r1, r2, r3, r4, bel9⟩ := set5 (.string (str X.key)) (.int .i64 X.v.k) (.int .i64 X.v.i) (.string (str X.v.s)) (.int .i64 X.ver) q4 bel (by omega)
      refine bodyPost_ret (v := .tuple #[.agg #[.string (str X.key), .int .i64 X.v.k, .int .i64 X.v.i, .string (str X.v.s), .int .i64 X.ver], .bool Y]) (by simp [results, Tryd.results13, go_sem, r0, r1, r2, r3, r4]) rfl ⟨by rw [HR.out], bel9⟩
end Go.Proofs.YtmjedjhkhjiigaaDoor
