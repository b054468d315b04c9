/- Span: Last. Written by wip/tools/gen11w.py. -/
import Derived.Test.YtbdfcgffkonbiaaGreatDoorQSSC39
import Derived.Test.YtbdfcgffkonbiaaGreatDoorQSSC42
namespace Go.Proofs.YtbdfcgffkonbiaaGreatDoor
open Go Go.RowKit
set_option linter.unusedVariables false
set_option linter.unusedSimpArgs false
set_option maxRecDepth 100000
def laI (lv : Nat → List It) (vs : Nat → Int) (k : List UInt8) : It := if ckE lv vs [[], k] = 0 then (rngL lv [] k).getLastD zI else zI
def laE (lv : Nat → List It) (vs : Nat → Int) (k : List UInt8) : Nat := if ckE lv vs [[], k] = 0 then (if rngL lv [] k = [] then 6 else 0) else ckE lv vs [[], k]
theorem last_rev {l : List It} : l.reverse.headD zI = l.getLastD zI := by
  cases h : l.reverse with
  | nil => rw [List.reverse_eq_nil_iff] at h; subst h; rfl
  | cons x r =>
    have e : l = r.reverse ++ [x] := by rw [← List.reverse_reverse l, h]; simp
    rw [e]; simp
set_option maxHeartbeats 1000000 in
theorem last_any (cs : Array Value) (lv : Nat → List It) (vs : Nat → Int) (k : List UInt8) (w : World) (tab : TabAt w) (h : RdT w cs lv vs) (hsz : SzT lv) (hk : k.length ≤ maxLen) :
    Calls Tryz.prog 21 #[.agg cs, .string (str k)] w fun e w' => e = .returned (.tuple #[itV (laI lv vs k), .int .i64 (laE lv vs k : Int)]) ∧ Below w.heap.size w w' := by
  have hsT := infoTc h.size
  obtain ⟨q1, q2, zs⟩ := two_allocs w (.cells cs 26) (.cells #[.string { data := #[] }, .int .i64 0, .int .i64 0, .string { data := #[] }, .int .i64 0] 48)
  have bel := ((Below.refl _ w).alloc (Nat.le_refl _) (.cells cs 26)).alloc (by simp) (.cells #[.string { data := #[] }, .int .i64 0, .int .i64 0, .string { data := #[] }, .int .i64 0] 48)
  have BK0 := back_any cs lv vs [] k 1 _ (tab.below bel) (h.below bel (Nat.le_refl _)) hsz (by simp [maxLen]) hk
  obtain ⟨Z, hZ⟩ : ∃ Z : Ending → World → Prop, Z = fun e w' => e = .returned (.tuple #[itV (laI lv vs k), .int .i64 (laE lv vs k : Int)]) ∧ Below w.heap.size w w' := ⟨_, rfl⟩
  rw [← hZ]
  have HZ := Lib.hid hZ
  obtain ⟨B, hB⟩ : ∃ B, B = (scL lv vs [] k 1024).reverse.take (1 : Int).toNat := ⟨_, rfl⟩
  obtain ⟨E, hE⟩ : ∃ E, E = ckE lv vs [[], k] := ⟨_, rfl⟩
  rw [← hB, ← hE] at BK0
  have BK := Lib.hid BK0
  have EQ : (E = 0 → laI lv vs k = B.headD zI ∧ laE lv vs k = if B = [] then 6 else 0) ∧ (E ≠ 0 → laI lv vs k = zI ∧ laE lv vs k = E) := by
    rw [hB, hE]
    refine ⟨fun hc => ?_, fun hc => ?_⟩
    · rw [sc_full hc]
      unfold laI laE
      rw [if_pos hc, if_pos hc, ← last_rev]
      rw [show (1 : Int).toNat = 1 from rfl]
      cases hr : (rngL lv [] k).reverse with
      | nil => rw [List.reverse_eq_nil_iff.1 hr]; exact ⟨rfl, rfl⟩
      | cons x r =>
        refine ⟨rfl, ?_⟩
        rw [if_neg (show ¬ rngL lv [] k = [] from fun h0 => by rw [h0] at hr; simp at hr), if_neg (by simp)]
    · unfold laI laE; rw [if_neg hc, if_neg hc]; exact ⟨rfl, rfl⟩
  clear h hsz tab BK0 hB hE hZ
  have infoI5 := fun (a b c d e : Value) => infoI (a := a) (b := b) (c := c) (d := d) (e := e)
  by_cases hc : E = 0
  · subst hc
    have EQ1 := EQ.1 rfl
    clear EQ
    cases B with
    | nil =>
      have HE := Lib.hid (show laI lv vs k = zI ∧ laE lv vs k = 6 from EQ1)
      clear EQ1
      go_enter Tryz.func21, Tryz.ntmps21
      go_wp2_with (first | ((with_reducible refine wpList_load_row (o := ⟨some 9, _, _, _, _, _⟩) rfl 26 (.tmp 2) rfl _ rfl _ cs (0, 0) _ q1 Tryz.underlying26 rfl hsT ?_)) | ((refine BK.out.mono ?_); rintro e w2 ⟨v, rfl, own, g⟩; obtain ⟨al, cl, rfl, -, -, -⟩ := RdK.open (OwnI.rd (w := w2) own); (have p2 := (g.block _ (lt_of_block q2)).trans q2); (have bel := chain bel g); (have n1 := setRow_heap w2 (w.heap.size + 1) _ #[.string (str zI.key), .int .i64 zI.v.k, .int .i64 zI.v.i, .string (str zI.v.s), .int .i64 zI.ver] _ _ p2); (have BN := below_row bel (Nat.le_add_right _ 1) #[.string (str zI.key), .int .i64 zI.v.k, .int .i64 zI.v.i, .string (str zI.v.s), .int .i64 zI.ver]); (obtain ⟨WN, hWN⟩ : ∃ V, V = w2.setRow (w.heap.size + 1) #[.string (str zI.key), .int .i64 zI.v.k, .int .i64 zI.v.i, .string (str zI.v.s), .int .i64 zI.ver] := ⟨_, rfl⟩); rw [← hWN] at n1 BN; (have HBN := Lib.hid BN); (have HWN := Lib.hid hWN); (have N1 := Lib.hid n1); clear n1 BN hWN own g) | (refine wpList_store_row (o := ⟨none, _, _, _, _, _⟩) rfl 48 (.tmp 4) (.tmp 23) rfl _ #[.string (str zI.key), .int .i64 zI.v.k, .int .i64 zI.v.i, .string (str zI.v.s), .int .i64 zI.ver] rfl rfl 48 #[.string (str zI.key), .int .i64 zI.v.k, .int .i64 zI.v.i, .string (str zI.v.s), .int .i64 zI.ver] p2 infoI rfl (itc_one zI) ?_; rw [← HWN.out]))
      refine bodyPost_ret (results_row_tmp rfl _ _ _ 48 #[.string (str zI.key), .int .i64 zI.v.k, .int .i64 zI.v.i, .string (str zI.v.s), .int .i64 zI.ver] (0, 0) _ _ rfl rfl N1.out Tryz.underlying48 rfl infoI) rfl ?_
      rw [HZ.out, HE.out.1, HE.out.2]
      exact ⟨rfl, HBN.out⟩
    | cons x r =>
      have HE := Lib.hid (show laI lv vs k = x ∧ laE lv vs k = 0 from EQ1)
      clear EQ1
      go_enter Tryz.func21, Tryz.ntmps21
      go_wp2_with (first | ((with_reducible refine wpList_load_row (o := ⟨some 9, _, _, _, _, _⟩) rfl 26 (.tmp 2) rfl _ rfl _ cs (0, 0) _ q1 Tryz.underlying26 rfl hsT ?_)) | ((refine BK.out.mono ?_); rintro e w2 ⟨v, rfl, own, g⟩; obtain ⟨al, cl, rfl, -, -, RD1⟩ := RdK.open (OwnI.rd (w := w2) own); obtain ⟨b, off, rfl, hb, c0, c1, c2, c3, c4⟩ := rdi_cells (show RdI w2 (.slice al (x :: r).length cl) (x :: r) from RD1) 0 (by simp); (simp only [Nat.zero_mul, Nat.add_zero, List.getElem_cons_zero] at c0 c1 c2 c3 c4); (have p2 := (g.block _ (lt_of_block q2)).trans q2); (have bel := chain bel g); (have n1 := setRow_heap w2 (w.heap.size + 1) _ #[.string (str x.key), .int .i64 x.v.k, .int .i64 x.v.i, .string (str x.v.s), .int .i64 x.ver] _ _ p2); (have BN := below_row bel (Nat.le_add_right _ 1) #[.string (str x.key), .int .i64 x.v.k, .int .i64 x.v.i, .string (str x.v.s), .int .i64 x.ver]); (obtain ⟨WN, hWN⟩ : ∃ V, V = w2.setRow (w.heap.size + 1) #[.string (str x.key), .int .i64 x.v.k, .int .i64 x.v.i, .string (str x.v.s), .int .i64 x.ver] := ⟨_, rfl⟩); rw [← hWN] at n1 BN; (have HBN := Lib.hid BN); (have HWN := Lib.hid hWN); (have N1 := Lib.hid n1); clear n1 BN hWN own g RD1) | (refine wpList_store_row (o := ⟨none, _, _, _, _, _⟩) rfl 48 (.tmp 4) (.tmp 26) rfl _ #[.string (str x.key), .int .i64 x.v.k, .int .i64 x.v.i, .string (str x.v.s), .int .i64 x.ver] rfl rfl 48 #[.string (str zI.key), .int .i64 zI.v.k, .int .i64 zI.v.i, .string (str zI.v.s), .int .i64 zI.ver] p2 infoI rfl (itc_one x) ?_; rw [← HWN.out]))
      refine bodyPost_ret (results_row_tmp rfl _ _ _ 48 #[.string (str x.key), .int .i64 x.v.k, .int .i64 x.v.i, .string (str x.v.s), .int .i64 x.ver] (0, 0) _ _ rfl rfl N1.out Tryz.underlying48 rfl infoI) rfl ?_
      rw [HZ.out, HE.out.1, HE.out.2]
      exact ⟨rfl, HBN.out⟩
  · have EQ2 := EQ.2 hc
    have HE := Lib.hid EQ2
    have hcn : 1 ≤ E := by omega
    have d1 : ((E : Int) != 0) = true := by simp; omega
    clear EQ EQ2 hc
    go_enter Tryz.func21, Tryz.ntmps21
    go_wp2_with (first | ((with_reducible refine wpList_load_row (o := ⟨some 9, _, _, _, _, _⟩) rfl 26 (.tmp 2) rfl _ rfl _ cs (0, 0) _ q1 Tryz.underlying26 rfl hsT ?_)) | ((refine BK.out.mono ?_); rintro e w2 ⟨v, rfl, own, g⟩; obtain ⟨al, cl, rfl, -, -, -⟩ := RdK.open (OwnI.rd (w := w2) own); (have p2 := (g.block _ (lt_of_block q2)).trans q2); (have bel := chain bel g); (have n1 := setRow_heap w2 (w.heap.size + 1) _ #[.string (str zI.key), .int .i64 zI.v.k, .int .i64 zI.v.i, .string (str zI.v.s), .int .i64 zI.ver] _ _ p2); (have BN := below_row bel (Nat.le_add_right _ 1) #[.string (str zI.key), .int .i64 zI.v.k, .int .i64 zI.v.i, .string (str zI.v.s), .int .i64 zI.ver]); (obtain ⟨WN, hWN⟩ : ∃ V, V = w2.setRow (w.heap.size + 1) #[.string (str zI.key), .int .i64 zI.v.k, .int .i64 zI.v.i, .string (str zI.v.s), .int .i64 zI.ver] := ⟨_, rfl⟩); rw [← hWN] at n1 BN; (have HBN := Lib.hid BN); (have HWN := Lib.hid hWN); (have N1 := Lib.hid n1); clear n1 BN hWN own g) | (refine wpList_store_row (o := ⟨none, _, _, _, _, _⟩) rfl 48 (.tmp 4) (.tmp 17) rfl _ #[.string (str zI.key), .int .i64 zI.v.k, .int .i64 zI.v.i, .string (str zI.v.s), .int .i64 zI.ver] rfl rfl 48 #[.string (str zI.key), .int .i64 zI.v.k, .int .i64 zI.v.i, .string (str zI.v.s), .int .i64 zI.ver] p2 infoI rfl (itc_one zI) ?_; rw [← HWN.out]))
    refine bodyPost_ret (results_row_tmp rfl _ _ _ 48 #[.string (str zI.key), .int .i64 zI.v.k, .int .i64 zI.v.i, .string (str zI.v.s), .int .i64 zI.ver] (0, 0) _ _ rfl rfl N1.out Tryz.underlying48 rfl infoI) rfl ?_
    rw [HZ.out, HE.out.1, HE.out.2]
    exact ⟨rfl, HBN.out⟩
end Go.Proofs.YtbdfcgffkonbiaaGreatDoor
