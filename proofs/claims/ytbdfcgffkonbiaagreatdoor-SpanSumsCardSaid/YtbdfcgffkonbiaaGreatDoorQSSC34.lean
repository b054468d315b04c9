/- Span: the document's Head and Turned; short and wrong of the laws; check. -/
/- Span: check; wrong of the laws. Written by wip/tools/gen11h.py. -/
import Derived.Test.YtbdfcgffkonbiaaGreatDoorQSSC33
namespace Go.Proofs.YtbdfcgffkonbiaaGreatDoor
open Go Go.RowKit
set_option linter.unusedVariables false
set_option linter.unusedSimpArgs false
theorem short11_any (s : List UInt8) (w : World) (hs : s.length ≤ maxLen) :
    Calls Tryz.prog 5 #[.string (str s)] w fun e w' => e = .returned (.string (str (s.take 60))) ∧ w = w' := by
  unfold maxLen at hs
  have h1 : (str s).size = s.length := str_size s
  by_cases h : 60 < s.length
  · have hx : (str s).extract 0 60 = str (s.take 60) := by rw [k8str_extract]; simp
    go_enter Tryz.func5, Tryz.ntmps5
    go_wp2_with fail
    go_ret
    exact ⟨ret_str rfl, rfl⟩
  · rw [List.take_of_length_le (by omega)]
    go_enter Tryz.func5, Tryz.ntmps5
    go_wp2_with fail
    go_ret
    exact ⟨rfl, rfl⟩
end Go.Proofs.YtbdfcgffkonbiaaGreatDoor
namespace Go.Proofs.YtbdfcgffkonbiaaGreatDoor
open Go Go.RowKit
set_option linter.unusedVariables false
set_option linter.unusedSimpArgs false
def ckE (lv : Nat → List It) (vs : Nat → Int) (ps : List (List UInt8)) : Nat := if mayTs lv vs 16 = false then 1 else if ps.all patB = true then 0 else 3
theorem ck_no {lv : Nat → List It} {vs : Nat → Int} {ps : List (List UInt8)} (h : mayTs lv vs 16 = false) : ckE lv vs ps = 1 := by unfold ckE; rw [if_pos h]
theorem ck_ok {lv : Nat → List It} {vs : Nat → Int} {ps : List (List UInt8)} (h : mayTs lv vs 16 = true) (h2 : ps.all patB = true) : ckE lv vs ps = 0 := by unfold ckE; rw [h, if_neg (by simp), if_pos h2]
theorem ck_form {lv : Nat → List It} {vs : Nat → Int} {ps : List (List UInt8)} (h : mayTs lv vs 16 = true) (h2 : ps.all patB = false) : ckE lv vs ps = 3 := by unfold ckE; rw [h, if_neg (by simp), if_neg (by simp [h2])]
set_option maxRecDepth 100000 in
set_option maxHeartbeats 1000000 in
theorem check11_any (cs : Array Value) (lv : Nat → List It) (vs : Nat → Int) (ps : List (List UInt8)) (B cap : Nat) (w : World) (tab : TabAt w) (h : RdT w cs lv vs) (hsz : SzT lv) (hB : B < w.heap.size) (hc : ∀ i (hi : i < ps.length), w.cell? ⟨B, i, none⟩ = some (.string (str ps[i]))) (hl : ∀ p ∈ ps, p.length ≤ maxLen) (hn : ps.length ≤ 10) (hcap : ps.length ≤ cap) (hcap2 : cap ≤ 10) :
    Calls Tryz.prog 12 #[.agg cs, .slice (some ⟨B, 0, none⟩) ps.length cap] w fun e w' => e = .returned (.int .i64 (ckE lv vs ps : Int)) ∧ Below w.heap.size w w' := by
  have hs := infoTc h.size
  have q1 := heap_alloc_new w (.cells cs 26)
  have bel := (Below.refl w.heap.size w).alloc (Nat.le_refl _) (.cells cs 26)
  have MY0 := tmay_any cs lv vs _ (tab.below bel) (h.below bel (Nat.le_refl _)) hsz
  have TB := Lib.hid tab
  have HC := Lib.hid hc
  have HL := Lib.hid hl
  cases hm : mayTs lv vs 16 with
  | false =>
    rw [hm] at MY0
    have MY := Lib.hid MY0
    rw [ck_no hm]
    clear h hsz hm MY0 hc hl tab
    go_enter Tryz.func12, Tryz.ntmps12
    go_wp2_with ((with_reducible refine wpList_load_row (o := ⟨some 7, _, _, _, _, _⟩) rfl 26 (.tmp 2) rfl _ rfl _ cs (0, 0) _ q1 Tryz.underlying26 rfl hs ?_))
    refine MY.out.mono ?_
    rintro e w2 ⟨rfl, g⟩
    have bel2 := chain bel g
    clear g
    go_wp2_with fail
    go_ret
    exact ⟨rfl, bel2⟩
  | true =>
    rw [hm] at MY0
    have MY := Lib.hid MY0
    have HM := Lib.hid hm
    obtain ⟨Z, hZ⟩ : ∃ Z, Z = ckE lv vs ps := ⟨_, rfl⟩
    rw [← hZ]
    have HZ := Lib.hid hZ
    clear h hsz hm MY0 hc hl tab hZ
    go_enter Tryz.func12, Tryz.ntmps12
    go_wp2_with ((with_reducible refine wpList_load_row (o := ⟨some 7, _, _, _, _, _⟩) rfl 26 (.tmp 2) rfl _ rfl _ cs (0, 0) _ q1 Tryz.underlying26 rfl hs ?_))
    refine MY.out.mono ?_
    rintro e w2 ⟨rfl, g⟩
    have bel2 := chain bel g
    have BEL := Lib.hid bel2
    clear g bel bel2 q1
    go_wp2_with fail
    go_loopw [12] (fun i wr => ∃ (j : Nat), j ≤ ps.length ∧ i = .int .i64 (j : Int) ∧ Hid ((ps.take j).all patB = true) ∧ Below w2.heap.size w2 wr) (fun i _ => 30 - (intOf i).toNat)
    case atStart => exact ⟨0, Nat.zero_le _, rfl, Lib.hid rfl, Below.refl _ _⟩
    case round =>
      obtain ⟨j, hj, rfl, HA, bel⟩ := hrel
      have BB := chain BEL.out bel
      by_cases hlt : j < ps.length
      · have c0 := (BB.cell (p := ⟨B, j, none⟩) hB).trans (HC.out j hlt)
        obtain ⟨p, hp⟩ : ∃ p, p = ps[j]'hlt := ⟨_, rfl⟩
        rw [← hp] at c0
        have PT0 := pattern_any p (HL.out p (by rw [hp]; exact List.getElem_mem _)) wr (TB.out.below BB)
        have HX := Lib.hid (show (ps.take (j + 1)).all patB = patB p by rw [take_snoc11 hlt, List.all_append, HA.out, ← hp]; simp)
        have HM2 := Lib.hid (show patB p = false → ps.all patB = false from fun hf => by
          rw [List.all_eq_false]
          exact ⟨p, by rw [hp]; exact List.getElem_mem _, by simp [hf]⟩)
        clear hp
        cases hpp : patB p with
        | true =>
          rw [hpp] at PT0
          have PT := Lib.hid PT0
          have HX2 := Lib.hid (show (ps.take (j + 1)).all patB = true by rw [HX.out, hpp])
          clear PT0 hpp HX HM2
          go_wp2_with ((with_reducible refine PT.out.mono ?_); rintro e w5 ⟨rfl, g5⟩)
          exact ⟨⟨j + 1, by omega, by push_cast; rfl, HX2, chain bel g5⟩, by simp [intOf]; omega⟩
        | false =>
          rw [hpp] at PT0
          have PT := Lib.hid PT0
          have HF := Lib.hid (show Z = 3 by rw [HZ.out]; exact ck_form HM.out (HM2.out hpp))
          clear PT0 hpp HX HM2
          go_wp2_with ((with_reducible refine PT.out.mono ?_); rintro e w5 ⟨rfl, g5⟩)
          go_ret
          exact ⟨by rw [HF.out]; rfl, chain BB g5⟩
      · obtain rfl : j = ps.length := by omega
        have HF := Lib.hid (show Z = 0 by rw [HZ.out]; exact ck_ok HM.out (by have := HA.out; rwa [List.take_length] at this))
        go_wp2_with fail
        go_ret
        exact ⟨by rw [HF.out]; rfl, BB⟩
set_option maxRecDepth 100000 in
set_option maxHeartbeats 1000000 in
theorem wrong_any (cs : Array Value) (lv : Nat → List It) (vs : Nat → Int) (a b : List UInt8) (w : World) (tab : TabAt w) (h : RdT w cs lv vs) (hsz : SzT lv) (h100 : ∀ b, b < 16 → (lv b).length ≤ 100) (ha : a.length ≤ maxLen) (hb : b.length ≤ maxLen) :
    Calls Tryz.prog 7 #[.agg cs, .string (str a), .string (str b)] w fun e w' => e = .returned (.int .i64 (ckE lv vs [a, b] : Int)) ∧ Below w.heap.size w w' := by
  have hs := infoTc h.size
  have q1 := heap_alloc_new w (.cells cs 26)
  have bel := (Below.refl w.heap.size w).alloc (Nat.le_refl _) (.cells cs 26)
  have MY0 := refTmay_any cs lv vs _ (tab.below bel) (h.below bel (Nat.le_refl _)) hsz h100
  have PA0 := fun W t => refPattern_any a ha W t
  have PB0 := fun W t => refPattern_any b hb W t
  have TB := Lib.hid tab
  obtain ⟨M, hM⟩ : ∃ M, mayTs lv vs 16 = M := ⟨_, rfl⟩
  obtain ⟨A, hA⟩ : ∃ A, patB a = A := ⟨_, rfl⟩
  obtain ⟨C, hC⟩ : ∃ C, patB b = C := ⟨_, rfl⟩
  rw [hM] at MY0
  rw [hA] at PA0
  rw [hC] at PB0
  have e9 : ckE lv vs [a, b] = if M = false then 1 else if (A && C) = true then 0 else 3 := by unfold ckE; rw [hM]; simp [hA, hC]
  obtain ⟨Z, hZ⟩ : ∃ Z, Z = ckE lv vs [a, b] := ⟨_, rfl⟩
  rw [← hZ] at e9 ⊢
  have PA := Lib.hid PA0
  have PB := Lib.hid PB0
  have MY := Lib.hid MY0
  clear h hsz h100 tab MY0 PA0 PB0 hM hA hC hZ
  cases M with
  | false =>
    obtain rfl : Z = 1 := e9
    try clear e9
    go_enter Tryz.func7, Tryz.ntmps7
    go_wp2_with ((with_reducible refine wpList_load_row (o := ⟨some 7, _, _, _, _, _⟩) rfl 26 (.tmp 3) rfl _ rfl _ cs (0, 0) _ q1 Tryz.underlying26 rfl hs ?_))
    refine MY.out.mono ?_
    rintro e w2 ⟨rfl, g⟩
    have bel2 := chain bel g
    have TB2 := TB.out.below bel2
    go_wp2_with fail
    go_ret
    exact ⟨rfl, bel2⟩
  | true =>
    cases A with
    | false =>
      obtain rfl : Z = 3 := by cases C <;> exact e9
      try clear e9
      go_enter Tryz.func7, Tryz.ntmps7
      go_wp2_with ((with_reducible refine wpList_load_row (o := ⟨some 7, _, _, _, _, _⟩) rfl 26 (.tmp 3) rfl _ rfl _ cs (0, 0) _ q1 Tryz.underlying26 rfl hs ?_))
      refine MY.out.mono ?_
      rintro e w2 ⟨rfl, g⟩
      have bel2 := chain bel g
      have TB2 := TB.out.below bel2
      go_wp2_with ((with_reducible refine (PA.out _ TB2).mono ?_); rintro e w3 ⟨rfl, rfl⟩)
      go_ret
      exact ⟨rfl, bel2⟩
    | true =>
      cases C with
      | false =>
        obtain rfl : Z = 3 := e9
        try clear e9
        go_enter Tryz.func7, Tryz.ntmps7
        go_wp2_with ((with_reducible refine wpList_load_row (o := ⟨some 7, _, _, _, _, _⟩) rfl 26 (.tmp 3) rfl _ rfl _ cs (0, 0) _ q1 Tryz.underlying26 rfl hs ?_))
        refine MY.out.mono ?_
        rintro e w2 ⟨rfl, g⟩
        have bel2 := chain bel g
        have TB2 := TB.out.below bel2
        go_wp2_with (first | ((with_reducible refine (PA.out _ TB2).mono ?_); rintro e w3 ⟨rfl, rfl⟩) | ((with_reducible refine (PB.out _ TB2).mono ?_); rintro e w3 ⟨rfl, rfl⟩))
        go_ret
        exact ⟨rfl, bel2⟩
      | true =>
        obtain rfl : Z = 0 := e9
        try clear e9
        go_enter Tryz.func7, Tryz.ntmps7
        go_wp2_with ((with_reducible refine wpList_load_row (o := ⟨some 7, _, _, _, _, _⟩) rfl 26 (.tmp 3) rfl _ rfl _ cs (0, 0) _ q1 Tryz.underlying26 rfl hs ?_))
        refine MY.out.mono ?_
        rintro e w2 ⟨rfl, g⟩
        have bel2 := chain bel g
        have TB2 := TB.out.below bel2
        go_wp2_with (first | ((with_reducible refine (PA.out _ TB2).mono ?_); rintro e w3 ⟨rfl, rfl⟩) | ((with_reducible refine (PB.out _ TB2).mono ?_); rintro e w3 ⟨rfl, rfl⟩))
        go_ret
        exact ⟨rfl, bel2⟩
end Go.Proofs.YtbdfcgffkonbiaaGreatDoor
