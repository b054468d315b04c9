/- Trunks: with, whose change makes a new leaf. Written by wip/tools/gen10d.py. -/
import Derived.Test.YtbdfcgffkonbiaaDoorQST13
namespace Go.Proofs.YtbdfcgffkonbiaaDoor
open Go Go.RowKit
set_option linter.unusedVariables false
set_option linter.unusedSimpArgs false
/-- What a change of a leaf hands back. -/
def ChgP (w : World) (l : List It) (ver : Int) (c : Nat) (e : Ending) (w' : World) : Prop := ∃ u, e = .returned (.tuple #[u, .int .i64 ver, .int .i64 (c : Int)]) ∧ w'.ownsRow w.heap.size 53 5 u l.length (l.flatMap itC) ∧ Below w.heap.size w w'
theorem own_moved {w w' : World} {base : Nat} {e : TypeId} {size : Nat} {v : Value} {n : Nat} {xs : List Value} (h : w.ownsRow base e size v n xs) (hh : ∀ g, base ≤ g → w'.heap[g]? = w.heap[g]?) : w'.ownsRow base e size v n xs := by
  refine ⟨h.1, ?_⟩
  rcases h.2 with h1 | ⟨g, cap, cur, h1, h2, h3, r⟩
  · exact .inl h1
  · exact .inr ⟨g, cap, cur, h1, h2, (hh g h2).trans h3, r⟩
theorem below_row {B g : Nat} {w0 w : World} (h : Below B w0 w) (hg : B ≤ g) (cs : Array Value) : Below B w0 (w.setRow g cs) :=
  ⟨h.os, h.tape, h.output, by rw [setRow_size]; exact h.size, fun k hk => by rw [setRow_other _ _ _ _ (by omega)]; exact h.block k hk⟩
theorem own_slice {w : World} {base : Nat} {e : TypeId} {size : Nat} {v : Value} {n : Nat} {xs : List Value} (h : w.ownsRow base e size v n xs) : ∃ a n c, v = .slice a n c := by
  rcases h.2 with ⟨h1, _⟩ | ⟨g, cap, cur, h1, _⟩
  · exact ⟨_, _, _, h1⟩
  · exact ⟨_, _, _, h1⟩
/-- A call hands back a trunk with a leaf of its own in a bucket. -/
def TrO (w : World) (cs : Array Value) (b : Nat) (l : List It) (ver : Int) (e : Ending) (w' : World) : Prop := ∃ u, e = .returned (.tuple #[.agg ((cs.setIfInBounds b u).setIfInBounds (16 + b) (.int .i64 ver)), .int .i64 0]) ∧ w'.ownsRow w.heap.size 53 5 u l.length (l.flatMap itC) ∧ Below w.heap.size w w'
/-- A call hands back the empty trunk and an error. -/
def TrZ (w : World) (c : Nat) (e : Ending) (w' : World) : Prop := e = .returned (.tuple #[.agg zT, .int .i64 (c : Int)]) ∧ Below w.heap.size w w'
theorem own_base {w : World} {b b' : Nat} {e : TypeId} {size : Nat} {v : Value} {n : Nat} {xs : List Value} (h : w.ownsRow b e size v n xs) (hb : b' ≤ b) : w.ownsRow b' e size v n xs := by
  refine ⟨h.1, ?_⟩
  rcases h.2 with h1 | ⟨g, cap, cur, h1, h2, r⟩
  · exact .inl h1
  · exact .inr ⟨g, cap, cur, h1, Nat.le_trans hb h2, r⟩
theorem two_cells {w : World} {B i j : Nat} {cs : Array Value} {t : TypeId} {u v : Value} (h : w.heap[B]? = some (.cells cs t (0, 0))) :
    ((w.setCell ⟨B, i, none⟩ u).setCell ⟨B, j, none⟩ v).heap[B]? = some (.cells ((cs.setIfInBounds i u).setIfInBounds j v) t (0, 0)) := set_at (set_at h)
theorem zT_one : zT.all (·.oneCell') = true := by kernel_rfl
theorem RdT.one {w : World} {cs : Array Value} {lv : Nat → List It} {vs : Nat → Int} (h : RdT w cs lv vs) : cs.all (·.oneCell') = true := by
  refine Array.all_eq_true_iff_forall_mem.2 fun v hv => ?_
  obtain ⟨i, hi, rfl⟩ := Array.getElem_of_mem hv
  have hs := h.size
  by_cases h16 : i < 16
  · obtain ⟨u, hu, hr⟩ := h.leaf i h16
    rw [Array.getElem?_eq_getElem hi] at hu
    obtain ⟨ao, cap, rfl, _⟩ := RdK.open hr
    rw [Option.some.inj hu]; rfl
  · have hu := h.ver (i - 16) (by omega)
    rw [show 16 + (i - 16) = i by omega, Array.getElem?_eq_getElem hi] at hu
    rw [Option.some.inj hu]; rfl
set_option maxRecDepth 100000 in
set_option maxHeartbeats 2000000 in
theorem with_put (cs : Array Value) (lv : Nat → List It) (vs : Nat → Int) (k : List UInt8) (n0 : Nat) (B1 B2 : Nat) (l : List It) (ver : Int) (c : Nat) (w : World) (tab : TabAt w) (h : RdT w cs lv vs) (hsz : SzT lv) (hk : k.length ≤ maxLen)
    (HC : mayTs lv vs 16 = true → isB k = true → ∀ W, Below w.heap.size w W → Calls Tryd.prog 129 #[.int .i64 (bkN k : Int), .pointer (some ⟨B1, 0, none⟩), .pointer (some ⟨B2, 0, none⟩)] W (ChgP W l ver c)) :
    Calls Tryd.prog 126 #[.agg cs, .string (str k), .int .i64 (n0 : Int), .func (.func 129) #[] #[.pointer (some ⟨B1, 0, none⟩), .pointer (some ⟨B2, 0, none⟩)]] w
      (if mayTs lv vs 16 = true then (if isB k = true then (if c = 0 then TrO w cs (bkN k) l ver else TrZ w c) else TrZ w n0) else TrZ w 1) := by
  have hs := infoTc h.size
  have HT := Lib.hid h
  have HS := Lib.hid hsz
  have z0 := zeroT_run
  have z1 := zT_ne
  obtain ⟨q4, q8, -, -⟩ := two_allocs w (.cells cs 26) (.cells zT 26)
  have bel : Below w.heap.size w ((w.alloc (.cells cs 26)).alloc (.cells zT 26)) := ((Below.refl _ w).alloc (Nat.le_refl _) _).alloc (by simp) _
  have BK := bucket_any k hk
  change Ret _ _ (.int .i64 (bk k)) at BK
  have T0 := tab.below bel
  have hlw := Nat.le_refl w.heap.size
  clear h hsz tab
  cases hm : mayTs lv vs 16 with
  | false =>
    rw [if_neg (by simp)]
    have TM0 := fun W t h => tmay_any cs lv vs W t h HS.out
    rw [hm] at TM0
    have TM := Lib.hid TM0
    clear hm TM0 HC
    obtain ⟨Z, hZ⟩ : ∃ Z, Z = TrZ w 1 := ⟨_, rfl⟩
    rw [← hZ]
    have HZ := Lib.hid hZ
    clear hZ
    go_enter Tryd.func126, Tryd.ntmps126
    go_wp2_with (with_reducible refine wpList_load_row (o := ⟨some 14, _, _, _, _, _⟩) rfl 26 (.tmp 4) rfl _ rfl _ cs (0, 0) _ q4 Tryd.underlying26 rfl hs ?_)
    refine (TM.out _ T0 (HT.out.below bel (Nat.le_refl _))).mono ?_
    rintro e w1 ⟨rfl, g⟩
    replace q8 := (g.block _ (lt_of_block q8)).trans q8
    replace bel := chain bel g
    clear g q4
    go_wp2_with (with_reducible refine wpList_store_row (o := ⟨none, _, _, _, _, _⟩) rfl 26 (.tmp 8) (.tmp 17) rfl _ zT rfl rfl _ zT q8 (infoTc zT_size) rfl zT_one ?_)
    rw [setRow_self _ _ _ _ _ q8]
    go_wp2_with fail
    refine bodyPost_ret (v := .tuple #[.agg zT, .int .i64 1]) (results_row_tmp rfl _ _ _ _ zT (0, 0) _ _ rfl rfl q8 Tryd.underlying26 rfl (infoTc zT_size)) rfl ?_
    rw [HZ.out]; exact ⟨rfl, bel⟩
  | true =>
    rw [if_pos rfl]
    have TM0 := fun W t h => tmay_any cs lv vs W t h HS.out
    rw [hm] at TM0
    have TM := Lib.hid TM0
    cases hb : isB k with
    | false =>
      rw [if_neg (by simp)]
      rw [bk_no hb] at BK
      clear hm TM0 HC hb
      obtain ⟨Z, hZ⟩ : ∃ Z, Z = TrZ w n0 := ⟨_, rfl⟩
      rw [← hZ]
      have HZ := Lib.hid hZ
      clear hZ
      go_enter Tryd.func126, Tryd.ntmps126
      go_wp2_with (with_reducible refine wpList_load_row (o := ⟨some 14, _, _, _, _, _⟩) rfl 26 (.tmp 4) rfl _ rfl _ cs (0, 0) _ q4 Tryd.underlying26 rfl hs ?_)
      refine (TM.out _ T0 (HT.out.below bel (Nat.le_refl _))).mono ?_
      rintro e w1 ⟨rfl, g⟩
      replace T0 := T0.below g
      replace q8 := (g.block _ (lt_of_block q8)).trans q8
      replace bel := chain bel g
      clear g q4
      go_wp2_with fail
      refine (BK.at _ T0).mono ?_
      rintro e w2 ⟨rfl, g⟩
      replace q8 := (g.block _ (lt_of_block q8)).trans q8
      replace bel := chain bel g
      clear g
      go_wp2_with (with_reducible refine wpList_store_row (o := ⟨none, _, _, _, _, _⟩) rfl 26 (.tmp 8) (.tmp 22) rfl _ zT rfl rfl _ zT q8 (infoTc zT_size) rfl zT_one ?_)
      rw [setRow_self _ _ _ _ _ q8]
      go_wp2_with fail
      refine bodyPost_ret (v := .tuple #[.agg zT, .int .i64 (n0 : Int)]) (results_row_tmp rfl _ _ _ _ zT (0, 0) _ _ rfl rfl q8 Tryd.underlying26 rfl (infoTc zT_size)) rfl ?_
      rw [HZ.out]; exact ⟨rfl, bel⟩
    | true =>
      rw [if_pos rfl]
      rw [bk_is hb] at BK
      have HCC := Lib.hid (HC hm hb)
      have hb16 := bkN_lt k
      clear hm TM0 HC hb
      obtain ⟨b, hbk⟩ : ∃ b, b = bkN k := ⟨_, rfl⟩
      rw [← hbk] at BK hb16 HCC ⊢
      clear hbk
      obtain ⟨u0, hu0, hru0⟩ := HT.out.leaf b hb16
      have HU := Lib.hid hu0
      have HV := Lib.hid (HT.out.ver b hb16)
      clear hu0 hru0
      by_cases hc : c = 0
      · rw [if_pos hc]
        subst hc
        obtain ⟨Z, hZ⟩ : ∃ Z, Z = TrO w cs b l ver := ⟨_, rfl⟩
        rw [← hZ]
        have HZ := Lib.hid hZ
        clear hZ
        go_enter Tryd.func126, Tryd.ntmps126
        go_wp2_with (with_reducible refine wpList_load_row (o := ⟨some 14, _, _, _, _, _⟩) rfl 26 (.tmp 4) rfl _ rfl _ cs (0, 0) _ q4 Tryd.underlying26 rfl hs ?_)
        refine (TM.out _ T0 (HT.out.below bel (Nat.le_refl _))).mono ?_
        rintro e w1 ⟨rfl, g⟩
        replace T0 := T0.below g
        replace q4 := (g.block _ (lt_of_block q4)).trans q4
        replace q8 := (g.block _ (lt_of_block q8)).trans q8
        replace bel := chain bel g
        clear g
        go_wp2_with fail
        refine (BK.at _ T0).mono ?_
        rintro e w2 ⟨rfl, g⟩
        replace q4 := (g.block _ (lt_of_block q4)).trans q4
        replace q8 := (g.block _ (lt_of_block q8)).trans q8
        replace bel := chain bel g
        clear g
        go_wp2_with fail
        have HL2 := Lib.hid (lt_of_block q8)
        refine (HCC.out _ bel).mono ?_
        rintro e w3 ⟨u, rfl, hru, g⟩
        replace q4 := (g.block _ (lt_of_block q4)).trans q4
        replace q8 := (g.block _ (lt_of_block q8)).trans q8
        replace bel := chain bel g
        clear g
        obtain ⟨a1, n1, c1, rfl⟩ := own_slice hru
        have OWN := Lib.hid hru
        clear hru
        have e1 := (block_cell q4 b).trans HU.out
        have f1 := block_frozen q4 b
        have q41 := set_at (i := b) (u := .slice a1 n1 c1) q4
        have e2 := (block_cell q41 (16 + b)).trans (Array.getElem?_setIfInBounds_ne (by omega) |>.trans HV.out)
        have f2 := block_frozen q41 (16 + b)
        have e3 := e2
        have f3 := f2
        rw [Nat.add_comm 16 b] at e3 f3
        have hl4 := lt_of_block q4
        clear q41
        obtain ⟨CS, hCS⟩ : ∃ CS, CS = (cs.setIfInBounds b (.slice a1 n1 c1)).setIfInBounds (16 + b) (.int .i64 ver) := ⟨_, rfl⟩
        have q4b : ((w3.setCell ⟨w.heap.size, b, none⟩ (.slice a1 n1 c1)).setCell ⟨w.heap.size, 16 + b, none⟩ (.int .i64 ver)).heap[w.heap.size]? = some (.cells CS 26 (0, 0)) := by rw [hCS]; exact two_cells q4
        have q8b : ((w3.setCell ⟨w.heap.size, b, none⟩ (.slice a1 n1 c1)).setCell ⟨w.heap.size, 16 + b, none⟩ (.int .i64 ver)).heap[w.heap.size + 1]? = some (.cells zT 26 (0, 0)) := by rw [set_old (by omega), set_old (by omega)]; exact q8
        have q8c := setRow_heap _ _ _ CS _ _ q8b
        have bel9 := below_row ((bel.setCell (p := ⟨w.heap.size, b, none⟩) (Nat.le_refl _) (.slice a1 n1 c1)).setCell (p := ⟨w.heap.size, 16 + b, none⟩) (Nat.le_refl _) (.int .i64 ver)) (Nat.le_succ w.heap.size) CS
        have own9 := own_moved (w' := (((w3.setCell ⟨w.heap.size, b, none⟩ (.slice a1 n1 c1)).setCell ⟨w.heap.size, 16 + b, none⟩ (.int .i64 ver)).setRow (w.heap.size + 1) CS)) OWN.out (fun g hg => by
          have := HL2.out
          rw [setRow_other _ _ _ _ (by omega), set_old (by omega), set_old (by omega)])
        have RT := (HT.out.below bel9 (Nat.le_refl _)).put hb16 (v := ver) (own_rdk itC_len own9)
        have OWN9 := Lib.hid (own_base (b' := w.heap.size) own9 (by have := HL2.out; omega))
        have HCS := Lib.hid hCS
        rw [← hCS] at RT
        have HC2 := infoTc RT.size
        have hcs2 : zT.size = CS.size := by rw [RT.size]; rfl
        have hone := RT.one
        have RTH := Lib.hid RT
        have BEL9 := Lib.hid bel9
        have Q8C := Lib.hid q8c
        clear RT bel9 q8c hCS own9
        go_wp2_with (first | (with_reducible refine wpList_load_row (o := ⟨some 43, _, _, _, _, _⟩) rfl 26 (.tmp 4) rfl _ rfl _ CS (0, 0) _ q4b Tryd.underlying26 rfl HC2 ?_) | (with_reducible refine wpList_store_row (o := ⟨none, _, _, _, _, _⟩) rfl 26 (.tmp 8) (.tmp 43) rfl _ CS rfl rfl _ zT q8b HC2 hcs2 hone ?_))
        refine bodyPost_ret (v := .tuple #[.agg CS, .int .i64 0]) (results_row_tmp rfl _ _ _ _ CS (0, 0) _ _ rfl rfl Q8C.out Tryd.underlying26 rfl HC2) rfl ?_
        rw [HZ.out]; exact ⟨_, by rw [HCS.out], OWN9.out, BEL9.out⟩
      · rw [if_neg hc]
        have hc1 : ((c : Int) != 0) = true := by rw [bne_iff_ne]; omega
        clear hc
        obtain ⟨Z, hZ⟩ : ∃ Z, Z = TrZ w c := ⟨_, rfl⟩
        rw [← hZ]
        have HZ := Lib.hid hZ
        clear hZ
        go_enter Tryd.func126, Tryd.ntmps126
        go_wp2_with (with_reducible refine wpList_load_row (o := ⟨some 14, _, _, _, _, _⟩) rfl 26 (.tmp 4) rfl _ rfl _ cs (0, 0) _ q4 Tryd.underlying26 rfl hs ?_)
        refine (TM.out _ T0 (HT.out.below bel (Nat.le_refl _))).mono ?_
        rintro e w1 ⟨rfl, g⟩
        replace T0 := T0.below g
        replace q8 := (g.block _ (lt_of_block q8)).trans q8
        replace bel := chain bel g
        clear g q4
        go_wp2_with fail
        refine (BK.at _ T0).mono ?_
        rintro e w2 ⟨rfl, g⟩
        replace q8 := (g.block _ (lt_of_block q8)).trans q8
        replace bel := chain bel g
        clear g
        go_wp2_with fail
        refine (HCC.out _ bel).mono ?_
        rintro e w3 ⟨u, rfl, hru, g⟩
        replace q8 := (g.block _ (lt_of_block q8)).trans q8
        replace bel := chain bel g
        clear g hru
        go_wp2_with (with_reducible refine wpList_store_row (o := ⟨none, _, _, _, _, _⟩) rfl 26 (.tmp 8) (.tmp 33) rfl _ zT rfl rfl _ zT q8 (infoTc zT_size) rfl zT_one ?_)
        rw [setRow_self _ _ _ _ _ q8]
        go_wp2_with fail
        refine bodyPost_ret (v := .tuple #[.agg zT, .int .i64 (c : Int)]) (results_row_tmp rfl _ _ _ _ zT (0, 0) _ _ rfl rfl q8 Tryd.underlying26 rfl (infoTc zT_size)) rfl ?_
        rw [HZ.out]; exact ⟨rfl, bel⟩
end Go.Proofs.YtbdfcgffkonbiaaDoor
