/- Trunks: their mathematics. Which bucket a key has, what a change keeps. -/
/- Trunks: structs of 32 cells that are loaded, stored, handed back whole; Get. Written by wip/tools/gen10c.py. -/
import Derived.Test.YtbdfcgffkonbiaaDoorQST12
import Derived.Test.YtbdfcgffkonbiaaDoorQST10
import Derived.Deep.MidRow
namespace Go.Proofs.YtbdfcgffkonbiaaDoor
open Go Go.RowKit
set_option linter.unusedVariables false
set_option linter.unusedSimpArgs false
/-- A key's bucket. -/
def bkN (k : List UInt8) : Nat := (k.getD 0 0).toNat % 16
theorem bkN_lt (k : List UInt8) : bkN k < 16 := Nat.mod_lt _ (by decide)
theorem bk_is {k : List UInt8} (h : isB k = true) : bk k = ((bkN k : Nat) : Int) := by unfold bk; rw [if_pos h]; rfl
theorem bk_no {k : List UInt8} (h : isB k = false) : bk k = -1 := by unfold bk; rw [h, if_neg (by simp)]
theorem mayTs_at {lv : Nat → List It} {vs : Nat → Int} {n : Nat} (h : mayTs lv vs n = true) {b : Nat} (hb : b < n) : mayT (b : Int) (lv b) (vs b) = true := by
  unfold mayTs at h; rw [List.all_eq_true] at h; exact h b (List.mem_range.2 hb)
theorem mayTs_mk {lv : Nat → List It} {vs : Nat → Int} {n : Nat} (h : ∀ b, b < n → mayT (b : Int) (lv b) (vs b) = true) : mayTs lv vs n = true := by
  unfold mayTs; rw [List.all_eq_true]; exact fun b hb => h b (List.mem_range.1 hb)
theorem mayT_is {b v : Int} {l : List It} (h : mayT b l v = true) : isL l = true := by
  unfold mayT at h; simp only [Bool.and_eq_true] at h; exact h.1.1
theorem verB_iff {n : Int} : verB n = true ↔ (0 ≤ n ∧ n ≤ 2147483647) := by unfold verB; simp
theorem mayT_mem {b v : Int} {l : List It} (h : mayT b l v = true) {x : It} (hx : x ∈ l) : bk x.key = b ∧ x.ver ≤ v := by
  unfold mayT at h; simp only [Bool.and_eq_true, Bool.not_eq_true'] at h
  have h2 := h.2
  rw [List.any_eq_false] at h2
  have h3 := h2 x hx
  unfold badI at h3
  simp only [Bool.or_eq_true, bne_iff_ne, decide_eq_true_eq, not_or, Decidable.not_not, Int.not_lt] at h3
  exact ⟨h3.1, h3.2⟩
theorem mayT_mk {b v : Int} {l : List It} (h1 : isL l = true) (h2 : verB v = true) (h3 : ∀ x ∈ l, bk x.key = b ∧ x.ver ≤ v) : mayT b l v = true := by
  unfold mayT
  rw [h1, h2, Bool.true_and, Bool.true_and, Bool.not_eq_true', List.any_eq_false]
  intro x hx
  unfold badI
  simp only [Bool.or_eq_true, bne_iff_ne, decide_eq_true_eq, not_or, Decidable.not_not, Int.not_lt]
  exact h3 x hx
/-- A function with another value at one place. -/
def upd {α : Type} (f : Nat → α) (b : Nat) (x : α) : Nat → α := fun i => if i = b then x else f i
theorem upd_at {α : Type} (f : Nat → α) (b : Nat) (x : α) : upd f b x b = x := if_pos rfl
theorem upd_ne {α : Type} (f : Nat → α) {b i : Nat} (x : α) (h : i ≠ b) : upd f b x i = f i := if_neg h
theorem mayTs_upd {lv : Nat → List It} {vs : Nat → Int} {n b : Nat} {l : List It} {v : Int} (h : mayTs lv vs n = true) (hl : mayT (b : Int) l v = true) : mayTs (upd lv b l) (upd vs b v) n = true := by
  refine mayTs_mk fun i hi => ?_
  by_cases hb : i = b
  · subst hb; rw [upd_at, upd_at]; exact hl
  · rw [upd_ne _ _ hb, upd_ne _ _ hb]; exact mayTs_at h hi
theorem put_mayT {b v : Int} {l : List It} {x : It} (h : mayT b l v = true) (hp : putE l x = 0) (hb : bk x.key = b) (hv : v ≤ x.ver) : mayT b (withL l x) x.ver = true := by
  have hm := (putE_zero hp).2.1
  have hver : verB x.ver = true := by
    unfold mayI at hm
    simp only [Bool.and_eq_true, decide_eq_true_eq] at hm
    exact verB_iff.2 ⟨hm.2.2.2.1, hm.2.2.2.2⟩
  refine mayT_mk (with_is hp) hver fun y hy => ?_
  rcases with_mem.1 hy with ⟨h1, _⟩ | rfl | ⟨h1, _⟩
  · exact ⟨(mayT_mem h h1).1, Int.le_trans (mayT_mem h h1).2 hv⟩
  · exact ⟨hb, Int.le_refl _⟩
  · exact ⟨(mayT_mem h h1).1, Int.le_trans (mayT_mem h h1).2 hv⟩
theorem del_mayT {b v ver : Int} {l : List It} {k : List UInt8} (h : mayT b l v = true) (hp : delE l k = 0) (hv : v ≤ ver) (hr : verB ver = true) : mayT b (withoutL l k) ver = true := by
  refine mayT_mk (without_is hp) hr fun y hy => ?_
  have h1 : y ∈ l := (List.mem_filter.1 hy).1
  exact ⟨(mayT_mem h h1).1, Int.le_trans (mayT_mem h h1).2 hv⟩
/-- What is got of a trunk. -/
def gTI (lv : Nat → List It) (k : List UInt8) : It := if isB k = true then gI (lv (bkN k)) k else zI
def gTB (lv : Nat → List It) (k : List UInt8) : Bool := isB k && gB (lv (bkN k)) k
theorem RdT.put {w : World} {cs : Array Value} {lv : Nat → List It} {vs : Nat → Int} (h : RdT w cs lv vs) {b : Nat} (hb : b < 16) {u : Value} {l : List It} {v : Int} (hu : RdI w u l) :
    RdT w ((cs.setIfInBounds b u).setIfInBounds (16 + b) (.int .i64 v)) (upd lv b l) (upd vs b v) := by
  have hs := h.size
  refine ⟨by simp [hs], fun i hi => ?_, fun i hi => ?_⟩
  · rw [Array.getElem?_setIfInBounds_ne (by omega)]
    by_cases hib : i = b
    · subst hib
      exact ⟨u, by rw [Array.getElem?_setIfInBounds_self_of_lt (by omega)], by rw [upd_at]; exact hu⟩
    · rw [Array.getElem?_setIfInBounds_ne (by omega), upd_ne _ _ hib]
      exact h.leaf i hi
  · by_cases hib : i = b
    · subst hib
      rw [Array.getElem?_setIfInBounds_self_of_lt (by simp; omega), upd_at]
    · rw [Array.getElem?_setIfInBounds_ne (by omega), Array.getElem?_setIfInBounds_ne (by omega), upd_ne _ _ hib]
      exact h.ver i hi
/-- The empty trunk's cells. -/
def zT : Array Value := #[.slice none 0 0, .slice none 0 0, .slice none 0 0, .slice none 0 0, .slice none 0 0, .slice none 0 0, .slice none 0 0, .slice none 0 0, .slice none 0 0, .slice none 0 0, .slice none 0 0, .slice none 0 0, .slice none 0 0, .slice none 0 0, .slice none 0 0, .slice none 0 0, .int .i64 0, .int .i64 0, .int .i64 0, .int .i64 0, .int .i64 0, .int .i64 0, .int .i64 0, .int .i64 0, .int .i64 0, .int .i64 0, .int .i64 0, .int .i64 0, .int .i64 0, .int .i64 0, .int .i64 0, .int .i64 0]
theorem rdt_zero (w : World) : RdT w zT (fun _ => []) (fun _ => 0) := by
  refine ⟨rfl, fun b hb => ⟨.slice none 0 0, ?_, rdk_nil w⟩, fun b hb => ?_⟩
  · have : b = 0 ∨ b = 1 ∨ b = 2 ∨ b = 3 ∨ b = 4 ∨ b = 5 ∨ b = 6 ∨ b = 7 ∨ b = 8 ∨ b = 9 ∨ b = 10 ∨ b = 11 ∨ b = 12 ∨ b = 13 ∨ b = 14 ∨ b = 15 := by omega
    rcases this with rfl | rfl | rfl | rfl | rfl | rfl | rfl | rfl | rfl | rfl | rfl | rfl | rfl | rfl | rfl | rfl <;> rfl
  · have : b = 0 ∨ b = 1 ∨ b = 2 ∨ b = 3 ∨ b = 4 ∨ b = 5 ∨ b = 6 ∨ b = 7 ∨ b = 8 ∨ b = 9 ∨ b = 10 ∨ b = 11 ∨ b = 12 ∨ b = 13 ∨ b = 14 ∨ b = 15 := by omega
    rcases this with rfl | rfl | rfl | rfl | rfl | rfl | rfl | rfl | rfl | rfl | rfl | rfl | rfl | rfl | rfl | rfl <;> rfl
/-- What comes of putting into a trunk: the error. -/
def putTE (lv : Nat → List It) (vs : Nat → Int) (x : It) : Nat := if mayTs lv vs 16 = true ∧ isB x.key = true then (if putE (lv (bkN x.key)) x ≠ 1 ∧ x.ver < vs (bkN x.key) then 18 else putE (lv (bkN x.key)) x) else 1
/-- Likewise of deleting. -/
def delTE (lv : Nat → List It) (vs : Nat → Int) (k : List UInt8) (ver : Int) : Nat := if verB ver = false ∨ mayTs lv vs 16 = false then 1 else if isB k = false then 6 else if delE (lv (bkN k)) k = 0 ∧ ver < vs (bkN k) then 18 else delE (lv (bkN k)) k
end Go.Proofs.YtbdfcgffkonbiaaDoor
namespace Go.Proofs.YtbdfcgffkonbiaaDoor
open Go Go.RowKit
set_option linter.unusedVariables false
set_option linter.unusedSimpArgs false
theorem infoT : (Tryd.prog.info? 26).map (·.size) = some 32 := by kernel_rfl
theorem infoTc {cs : Array Value} (h : cs.size = 32) : (Tryd.prog.info? 26).map (·.size) = some cs.size := by rw [h]; exact infoT
theorem zeroT_run (w : World) : (zeroValue 26).run Tryd.prog w = .ok (.agg zT) w := by kernel_rfl
theorem zT_size : zT.size = 32 := rfl
theorem zT_ne : zT ≠ #[] := by simp [zT]
/-- A struct is loaded under a guard that lets it. -/
theorem wpList_load_row_g {P : Program} {ops : Array Oper} {rest : List Oper} {o : Oper} {a : Act} {w : World} {Q : Exit → Act → World → Prop} (hw : Region.wanted o (yielded ops a.tmps) = true) (ty : TypeId) (x : Operand) (ho : o.op = .load ty x)
    (g : Nat) (hx : a.eval x = .pointer (some ⟨g, 0, none⟩)) (t : TypeId) (cs : Array Value) (fr : Nat × Nat) (d : TypeDesc) (hg : w.heap[g]? = some (.cells cs t fr))
    (hu : P.underlying ty = some d) (hd : (match d with | .struct _ | .array _ _ => true | _ => false) = true) (hi : (P.info? ty).map (·.size) = some cs.size)
    (h : wpList P ops Q rest (a.put o.dst (.agg cs)) w) : wpList P ops Q (o :: rest) a w := by
  simp only [wpList, hw, if_true]
  exact .inl (wp_load_row ty x ho g hx t cs fr d hg hu hd hi h)
theorem results_row_tmp {P : Program} {fn : Func} {p q : Tmp} {ty : TypeId} (h : fn.results = #[.cell p ty, .tmp q]) (tmps : Array Value) (w : World) (g : Nat) (t : TypeId) (cs : Array Value) (fr : Nat × Nat) (d : TypeDesc) (v : Value)
    (hp : tmps.getD p undef = .pointer (some ⟨g, 0, none⟩)) (hq : tmps.getD q undef = v) (hg : w.heap[g]? = some (.cells cs t fr))
    (hu : P.underlying ty = some d) (hd : (match d with | .struct _ | .array _ _ => true | _ => false) = true) (hi : (P.info? ty).map (·.size) = some cs.size) :
    (results fn tmps).run P w = .ok (.tuple #[.agg cs, v]) w := by
  have hp' : tmps[p]?.getD undef = .pointer (some ⟨g, 0, none⟩) := by simpa using hp
  have hq' : tmps[q]?.getD undef = v := by simpa using hq
  simp [results, h, hp', hq', asAddr, run_loadVar_row w g t ty cs fr d hg hu hd hi]
def tI (lv : Nat → List It) (vs : Nat → Int) (k : List UInt8) : It := if mayTs lv vs 16 = true then gTI lv k else zI
def tB (lv : Nat → List It) (vs : Nat → Int) (k : List UInt8) : Bool := mayTs lv vs 16 && gTB lv k
def tGet (lv : Nat → List It) (vs : Nat → Int) (k : List UInt8) : Value := .tuple #[itV (tI lv vs k), .bool (tB lv vs k)]
theorem tGet_nokey {lv : Nat → List It} {vs : Nat → Int} {k : List UInt8} (h : isB k = false) : tGet lv vs k = .tuple #[itZ, .bool false] := by
  have e : tI lv vs k = zI := by unfold tI gTI; rw [h]; simp
  unfold tGet tB gTB
  rw [h, e]; simp; rfl
theorem tGet_no {lv : Nat → List It} {vs : Nat → Int} {k : List UInt8} (h : mayTs lv vs 16 = false) : tGet lv vs k = .tuple #[itZ, .bool false] := by
  have e : tI lv vs k = zI := by unfold tI; rw [h]; simp
  unfold tGet tB
  rw [h, e]; simp; rfl
theorem tGet_yes {lv : Nat → List It} {vs : Nat → Int} {k : List UInt8} (h : mayTs lv vs 16 = true) (hk : isB k = true) : tGet lv vs k = getT (lv (bkN k)) k := by
  rw [getT_of]; unfold tGet tI tB gTI gTB; rw [h, hk]; simp
set_option maxRecDepth 100000 in
set_option maxHeartbeats 2000000 in
theorem tget_any (cs : Array Value) (lv : Nat → List It) (vs : Nat → Int) (k : List UInt8) (w : World) (tab : TabAt w) (h : RdT w cs lv vs) (hsz : SzT lv) (hk : k.length ≤ maxLen) :
    Calls Tryd.prog 66 #[.agg cs, .string (str k)] w fun e w' => e = .returned (tGet lv vs k) ∧ Below w.heap.size w w' := by
  have hs := infoTc h.size
  have HT := Lib.hid h
  have HS := Lib.hid hsz
  obtain ⟨R, hR⟩ : ∃ R, R = tGet lv vs k := ⟨_, rfl⟩
  rw [← hR]
  obtain ⟨q2, q4, -, -⟩ := two_allocs w (.cells cs 26) (.cells #[.string (str []), .int .i64 0, .int .i64 0, .string (str []), .int .i64 0] 53)
  have bel : Below w.heap.size w ((w.alloc (.cells cs 26)).alloc (.cells #[.string (str []), .int .i64 0, .int .i64 0, .string (str []), .int .i64 0] 53)) := ((Below.refl _ w).alloc (Nat.le_refl _) _).alloc (by simp) _
  have BK := bucket_any k hk
  change Ret _ _ (.int .i64 (bk k)) at BK
  have T0 := tab.below bel
  clear h hsz tab
  cases hb : isB k with
  | false =>
    have HR := Lib.hid (hR.trans (tGet_nokey hb))
    rw [bk_no hb] at BK
    clear hR hb
    go_enter Tryd.func66, Tryd.ntmps66
    go_wp2_with fail
    refine (BK.at _ T0).mono ?_
    rintro e w1 ⟨rfl, g⟩
    replace q4 := (g.block _ (lt_of_block q4)).trans q4
    replace bel := chain bel g
    obtain ⟨d0, d1, d2, d3, d4, dz⟩ := block_cells5 q4
    clear g q2
    go_wp2_with fail
    obtain ⟨r0, r1, r2, r3, r4, bel9⟩ := set5 (.string (str [])) (.int .i64 0) (.int .i64 0) (.string (str [])) (.int .i64 0) q4 bel (by omega)
    refine bodyPost_ret (v := .tuple #[.agg #[.string (str []), .int .i64 0, .int .i64 0, .string (str []), .int .i64 0], .bool false]) (by simp [results, Tryd.results66, go_sem, r0, r1, r2, r3, r4, str_e]) rfl ⟨by rw [HR.out]; rfl, bel9⟩
  | true =>
    rw [bk_is hb] at BK
    have hb16 := bkN_lt k
    cases hm : mayTs lv vs 16 with
    | false =>
      have HR := Lib.hid (hR.trans (tGet_no hm))
      obtain ⟨b, hbk⟩ : ∃ b, b = bkN k := ⟨_, rfl⟩
      rw [← hbk] at BK hb16
      have TM0 := fun W t h => tmay_any cs lv vs W t h HS.out
      rw [hm] at TM0
      have TM := Lib.hid TM0
      clear hR hb hm TM0 hbk
      go_enter Tryd.func66, Tryd.ntmps66
      go_wp2_with fail
      refine (BK.at _ T0).mono ?_
      rintro e w1 ⟨rfl, g⟩
      replace T0 := T0.below g
      replace q2 := (g.block _ (lt_of_block q2)).trans q2
      replace q4 := (g.block _ (lt_of_block q4)).trans q4
      replace bel := chain bel g
      clear g
      go_wp2_with (with_reducible refine wpList_load_row_g (o := ⟨some 12, _, _, _, _, _⟩) rfl 26 (.tmp 2) rfl _ rfl _ cs (0, 0) _ q2 Tryd.underlying26 rfl hs ?_)
      refine (TM.out _ T0 (HT.out.below bel (Nat.le_refl _))).mono ?_
      rintro e w2 ⟨rfl, g⟩
      replace q4 := (g.block _ (lt_of_block q4)).trans q4
      replace bel := chain bel g
      obtain ⟨d0, d1, d2, d3, d4, dz⟩ := block_cells5 q4
      clear g q2
      go_wp2_with fail
      obtain ⟨r0, r1, r2, r3, r4, bel9⟩ := set5 (.string (str [])) (.int .i64 0) (.int .i64 0) (.string (str [])) (.int .i64 0) q4 bel (by omega)
      refine bodyPost_ret (v := .tuple #[.agg #[.string (str []), .int .i64 0, .int .i64 0, .string (str []), .int .i64 0], .bool false]) (by simp [results, Tryd.results66, go_sem, r0, r1, r2, r3, r4, str_e]) rfl ⟨by rw [HR.out]; rfl, bel9⟩
    | true =>
      have HR0 := hR.trans (tGet_yes hm hb)
      rw [getT_of] at HR0
      obtain ⟨b, hbk⟩ : ∃ b, b = bkN k := ⟨_, rfl⟩
      rw [← hbk] at BK hb16 HR0
      obtain ⟨X, hX⟩ : ∃ X, X = gI (lv b) k := ⟨_, rfl⟩
      obtain ⟨Y, hY⟩ : ∃ Y, Y = gB (lv b) k := ⟨_, rfl⟩
      rw [← hX, ← hY] at HR0
      have LG0 := fun W u t h => lget_any u (lv b) k W t h (HS.out b hb16)
      simp only [getT_of, ← hX, ← hY] at LG0
      have LG := Lib.hid LG0
      have HR := Lib.hid HR0
      have TM0 := fun W t h => tmay_any cs lv vs W t h HS.out
      rw [hm] at TM0
      have TM := Lib.hid TM0
      clear hR hb hm TM0 hbk LG0 hX hY HR0
      obtain ⟨u, hu, hru⟩ := HT.out.leaf b hb16
      have HU := Lib.hid hu
      have HRU := Lib.hid hru
      clear hu hru
      go_enter Tryd.func66, Tryd.ntmps66
      go_wp2_with fail
      refine (BK.at _ T0).mono ?_
      rintro e w1 ⟨rfl, g⟩
      replace T0 := T0.below g
      replace q2 := (g.block _ (lt_of_block q2)).trans q2
      replace q4 := (g.block _ (lt_of_block q4)).trans q4
      replace bel := chain bel g
      clear g
      go_wp2_with (with_reducible refine wpList_load_row_g (o := ⟨some 12, _, _, _, _, _⟩) rfl 26 (.tmp 2) rfl _ rfl _ cs (0, 0) _ q2 Tryd.underlying26 rfl hs ?_)
      refine (TM.out _ T0 (HT.out.below bel (Nat.le_refl _))).mono ?_
      rintro e w2 ⟨rfl, g⟩
      replace T0 := T0.below g
      replace q2 := (g.block _ (lt_of_block q2)).trans q2
      replace q4 := (g.block _ (lt_of_block q4)).trans q4
      replace bel := chain bel g
      have c1 := (block_cell q2 b).trans HU.out
      have hlB := lt_of_block q2
      clear g
      go_wp2_with fail
      refine (LG.out _ _ T0 (HRU.out.below bel (Nat.le_refl _))).mono ?_
      rintro e w3 ⟨rfl, g⟩
      replace q4 := (g.block _ (lt_of_block q4)).trans q4
      replace bel := chain bel g
      obtain ⟨d0, d1, d2, d3, d4, dz⟩ := block_cells5 q4
      clear g q2 c1 hlB
      unfold itV at HR ⊢
      go_wp2_with fail
      obtain ⟨r0, r1, r2, r3, r4, bel9⟩ := set5 (.string (str X.key)) (.int .i64 X.v.k) (.int .i64 X.v.i) (.string (str X.v.s)) (.int .i64 X.ver) q4 bel (by omega)
      refine bodyPost_ret (v := .tuple #[.agg #[.string (str X.key), .int .i64 X.v.k, .int .i64 X.v.i, .string (str X.v.s), .int .i64 X.ver], .bool Y]) (by simp [results, Tryd.results66, go_sem, r0, r1, r2, r3, r4]) rfl ⟨by rw [HR.out], bel9⟩
end Go.Proofs.YtbdfcgffkonbiaaDoor
