/- Leaves: items in memory; which may be. Written by wip/tools/gen9a.py. -/
import Derived.Test.YtoagdmglchccnaaGreatDoorQRR12
import Derived.Test.YtoagdmglchccnaaGreatDoorQRR13
import Derived.Test.YtoagdmglchccnaaGreatDoorQRR14
namespace Go.Proofs.YtoagdmglchccnaaGreatDoor
open Go Go.RowKit
set_option linter.unusedVariables false
set_option linter.unusedSimpArgs false
set_option maxRecDepth 100000
def itC (x : It) : List Value := [.string (str x.key), .int .i64 x.v.k, .int .i64 x.v.i, .string (str x.v.s), .int .i64 x.ver]
def itV (x : It) : Value := .agg #[.string (str x.key), .int .i64 x.v.k, .int .i64 x.v.i, .string (str x.v.s), .int .i64 x.ver]
theorem itC_len (x : It) : (itC x).length = 5 := rfl
theorem itC_one (x : It) : ∀ u ∈ itC x, u.oneCell' = true := by
  intro u hu
  simp only [itC, List.mem_cons, List.not_mem_nil, or_false] at hu
  rcases hu with rfl | rfl | rfl | rfl | rfl <;> rfl
def RdI (w : World) (v : Value) (l : List It) : Prop := RdK 5 itC w v l
theorem RdI.below {w w' : World} {v : Value} {l : List It} (h : RdI w v l) {B : Nat} (hb : Below B w w') (hB : w.heap.size ≤ B) : RdI w' v l := RdK.below h hb hB
theorem block_cells5 {w : World} {B : Nat} {a0 a1 a2 a3 a4 : Value} {t : TypeId} (h : w.heap[B]? = some (.cells #[a0, a1, a2, a3, a4] t (0, 0))) :
    w.cell? ⟨B, 0, none⟩ = some a0 ∧ w.cell? ⟨B, 1, none⟩ = some a1 ∧ w.cell? ⟨B, 2, none⟩ = some a2 ∧ w.cell? ⟨B, 3, none⟩ = some a3 ∧ w.cell? ⟨B, 4, none⟩ = some a4 ∧ ∀ i, w.frozen? ⟨B, i, none⟩ = false := by
  refine ⟨?_, ?_, ?_, ?_, ?_, ?_⟩
  all_goals simp [World.cell?, World.frozen?, h]
/-- An element that is read: its five cells. -/
theorem rdi_cells {w : World} {ao : Option Addr} {n cap : Nat} {l : List It} (h : RdI w (.slice ao n cap) l) (j : Nat) (hj : j < l.length) :
    ∃ b off, ao = some ⟨b, off, none⟩ ∧ b < w.heap.size ∧ w.cell? ⟨b, off + j * 5, none⟩ = some (.string (str l[j].key)) ∧ w.cell? ⟨b, off + j * 5 + 1, none⟩ = some (.int .i64 l[j].v.k) ∧ w.cell? ⟨b, off + j * 5 + 2, none⟩ = some (.int .i64 l[j].v.i) ∧ w.cell? ⟨b, off + j * 5 + 3, none⟩ = some (.string (str l[j].v.s)) ∧ w.cell? ⟨b, off + j * 5 + 4, none⟩ = some (.int .i64 l[j].ver) := by
  obtain ⟨b, off, h1, h2, h3⟩ := RdK.cell itC_len h j hj
  exact ⟨b, off, h1, h2, h3 0 (by omega), by rw [Nat.add_assoc]; exact h3 1 (by omega), by rw [Nat.add_assoc]; exact h3 2 (by omega), by rw [Nat.add_assoc]; exact h3 3 (by omega), by rw [Nat.add_assoc]; exact h3 4 (by omega)⟩
theorem leafMay_any (x : It) (hk : x.key.length ≤ maxLen) (hs : x.v.s.length ≤ maxLen) : Ret 81 #[itV x] (.bool (mayI x)) := by
  obtain ⟨key, ⟨k, i, s⟩, ver⟩ := x
  intro w tab
  have q0 := heap_alloc_new w (.cells #[.string (str key), .int .i64 k, .int .i64 i, .string (str s), .int .i64 ver] 154)
  have B0 := (Below.refl w.heap.size w).alloc (Nat.le_refl _) (.cells #[.string (str key), .int .i64 k, .int .i64 i, .string (str s), .int .i64 ver] 154)
  have T0 := tab.below B0
  have IH0 := (is_any key hk).ret
  have MH0 := fun w' => V7.may_any k i s w' hs
  obtain ⟨R, hR⟩ : ∃ R, R = mayI ⟨key, ⟨k, i, s⟩, ver⟩ := ⟨_, rfl⟩
  rw [← hR]
  unfold mayI at hR
  cases hb : isB key with
  | false =>
    rw [hb] at IH0 hR
    have IH := Lib.hid IH0
    have RES := Lib.hid (show R = false by rw [hR]; rfl)
    clear IH0 MH0 hR hb
    unfold itV
    go_enter Tryz.func81, Tryz.ntmps81
    go_wp2_with fail
    refine (IH.out.at _ T0).mono ?_
    rintro e w1 ⟨rfl, g1⟩
    have q1 := (g1.block _ (lt_of_block q0)).trans q0
    obtain ⟨d0, d1, d2, d3, d4, -⟩ := block_cells5 q1
    have B1 := chain B0 g1
    clear g1
    go_wp2_with fail
    go_ret
    exact ⟨ret_bool (by first | exact RES.out.symm | (rw [RES.out]; simp; omega)), B1⟩
  | true =>
    rw [hb] at IH0 hR
    cases hm : V7.mayB ⟨k, i, s⟩ with
    | false =>
      simp only [hm] at MH0 hR
      have IH := Lib.hid IH0
      have MH := Lib.hid MH0
      have RES := Lib.hid (show R = false by rw [hR]; rfl)
      clear IH0 MH0 hR hb hm
      unfold itV
      go_enter Tryz.func81, Tryz.ntmps81
      go_wp2_with fail
      refine (IH.out.at _ T0).mono ?_
      rintro e w1 ⟨rfl, g1⟩
      have q1 := (g1.block _ (lt_of_block q0)).trans q0
      obtain ⟨d0, d1, d2, d3, d4, -⟩ := block_cells5 q1
      have B1 := chain B0 g1
      clear g1
      go_wp2_with fail
      refine (MH.out _).mono ?_
      rintro e w2 ⟨rfl, g2⟩
      have q2 := (g2.block _ (lt_of_block q1)).trans q1
      obtain ⟨d0, d1, d2, d3, d4, -⟩ := block_cells5 q2
      have B2 := chain B1 g2
      clear g2
      go_wp2_with fail
      go_ret
      exact ⟨ret_bool (by first | exact RES.out.symm | (rw [RES.out]; simp; omega)), B2⟩
    | true =>
      simp only [hm] at MH0 hR
      have IH := Lib.hid IH0
      have MH := Lib.hid MH0
      clear IH0 MH0 hb hm
      unfold itV
      by_cases h0 : k = 0
      · subst h0
        have RES := Lib.hid (show R = false by rw [hR]; simp)
        clear hR
        go_enter Tryz.func81, Tryz.ntmps81
        go_wp2_with fail
        refine (IH.out.at _ T0).mono ?_
        rintro e w1 ⟨rfl, g1⟩
        have q1 := (g1.block _ (lt_of_block q0)).trans q0
        obtain ⟨d0, d1, d2, d3, d4, -⟩ := block_cells5 q1
        have B1 := chain B0 g1
        clear g1
        go_wp2_with fail
        refine (MH.out _).mono ?_
        rintro e w2 ⟨rfl, g2⟩
        have q2 := (g2.block _ (lt_of_block q1)).trans q1
        obtain ⟨d0, d1, d2, d3, d4, -⟩ := block_cells5 q2
        have B2 := chain B1 g2
        clear g2
        go_wp2_with fail
        go_ret
        exact ⟨ret_bool (by first | exact RES.out.symm | (rw [RES.out]; simp; omega)), B2⟩
      · have hn0 : (k != 0) = true := by simp [h0]
        have hn1 : (k == 0) = false := by simp [h0]
        by_cases h1 : 0 ≤ ver
        · by_cases h2 : ver ≤ 2147483647
          · have RES := Lib.hid (show R = true by rw [hR]; simp [h0, h1, h2])
            clear hR
            go_enter Tryz.func81, Tryz.ntmps81
            go_wp2_with fail
            refine (IH.out.at _ T0).mono ?_
            rintro e w1 ⟨rfl, g1⟩
            have q1 := (g1.block _ (lt_of_block q0)).trans q0
            obtain ⟨d0, d1, d2, d3, d4, -⟩ := block_cells5 q1
            have B1 := chain B0 g1
            clear g1
            go_wp2_with fail
            refine (MH.out _).mono ?_
            rintro e w2 ⟨rfl, g2⟩
            have q2 := (g2.block _ (lt_of_block q1)).trans q1
            obtain ⟨d0, d1, d2, d3, d4, -⟩ := block_cells5 q2
            have B2 := chain B1 g2
            clear g2
            go_wp2_with fail
            go_ret
            exact ⟨ret_bool (by first | exact RES.out.symm | (rw [RES.out]; simp; omega)), B2⟩
          · have RES := Lib.hid (show R = false by rw [hR]; simp [h2])
            clear hR
            go_enter Tryz.func81, Tryz.ntmps81
            go_wp2_with fail
            refine (IH.out.at _ T0).mono ?_
            rintro e w1 ⟨rfl, g1⟩
            have q1 := (g1.block _ (lt_of_block q0)).trans q0
            obtain ⟨d0, d1, d2, d3, d4, -⟩ := block_cells5 q1
            have B1 := chain B0 g1
            clear g1
            go_wp2_with fail
            refine (MH.out _).mono ?_
            rintro e w2 ⟨rfl, g2⟩
            have q2 := (g2.block _ (lt_of_block q1)).trans q1
            obtain ⟨d0, d1, d2, d3, d4, -⟩ := block_cells5 q2
            have B2 := chain B1 g2
            clear g2
            go_wp2_with fail
            go_ret
            exact ⟨ret_bool (by first | exact RES.out.symm | (rw [RES.out]; simp; omega)), B2⟩
        · have RES := Lib.hid (show R = false by rw [hR]; simp [h1])
          clear hR
          go_enter Tryz.func81, Tryz.ntmps81
          go_wp2_with fail
          refine (IH.out.at _ T0).mono ?_
          rintro e w1 ⟨rfl, g1⟩
          have q1 := (g1.block _ (lt_of_block q0)).trans q0
          obtain ⟨d0, d1, d2, d3, d4, -⟩ := block_cells5 q1
          have B1 := chain B0 g1
          clear g1
          go_wp2_with fail
          refine (MH.out _).mono ?_
          rintro e w2 ⟨rfl, g2⟩
          have q2 := (g2.block _ (lt_of_block q1)).trans q1
          obtain ⟨d0, d1, d2, d3, d4, -⟩ := block_cells5 q2
          have B2 := chain B1 g2
          clear g2
          go_wp2_with fail
          go_ret
          exact ⟨ret_bool (by first | exact RES.out.symm | (rw [RES.out]; simp; omega)), B2⟩
theorem refLeafMay_any (x : It) (hk : x.key.length ≤ maxLen) (hs : x.v.s.length ≤ maxLen) : Ret 86 #[itV x] (.bool (mayI x)) := by
  obtain ⟨key, ⟨k, i, s⟩, ver⟩ := x
  intro w tab
  have q0 := heap_alloc_new w (.cells #[.string (str key), .int .i64 k, .int .i64 i, .string (str s), .int .i64 ver] 154)
  have B0 := (Below.refl w.heap.size w).alloc (Nat.le_refl _) (.cells #[.string (str key), .int .i64 k, .int .i64 i, .string (str s), .int .i64 ver] 154)
  have T0 := tab.below B0
  have IH0 := refIs_any key hk
  have MH0 := fun w' => V7.refMay_any k i s w' hs
  obtain ⟨R, hR⟩ : ∃ R, R = mayI ⟨key, ⟨k, i, s⟩, ver⟩ := ⟨_, rfl⟩
  rw [← hR]
  unfold mayI at hR
  cases hb : isB key with
  | false =>
    rw [hb] at IH0 hR
    have IH := Lib.hid IH0
    have RES := Lib.hid (show R = false by rw [hR]; rfl)
    clear IH0 MH0 hR hb
    unfold itV
    go_enter Tryz.func86, Tryz.ntmps86
    go_wp2_with fail
    refine (IH.out.at _ T0).mono ?_
    rintro e w1 ⟨rfl, g1⟩
    have q1 := (g1.block _ (lt_of_block q0)).trans q0
    obtain ⟨d0, d1, d2, d3, d4, -⟩ := block_cells5 q1
    have B1 := chain B0 g1
    clear g1
    go_wp2_with fail
    go_ret
    exact ⟨ret_bool (by first | exact RES.out.symm | (rw [RES.out]; simp; omega)), B1⟩
  | true =>
    rw [hb] at IH0 hR
    cases hm : V7.mayB ⟨k, i, s⟩ with
    | false =>
      simp only [hm] at MH0 hR
      have IH := Lib.hid IH0
      have MH := Lib.hid MH0
      have RES := Lib.hid (show R = false by rw [hR]; rfl)
      clear IH0 MH0 hR hb hm
      unfold itV
      go_enter Tryz.func86, Tryz.ntmps86
      go_wp2_with fail
      refine (IH.out.at _ T0).mono ?_
      rintro e w1 ⟨rfl, g1⟩
      have q1 := (g1.block _ (lt_of_block q0)).trans q0
      obtain ⟨d0, d1, d2, d3, d4, -⟩ := block_cells5 q1
      have B1 := chain B0 g1
      clear g1
      go_wp2_with fail
      refine (MH.out _).mono ?_
      rintro e w2 ⟨rfl, g2⟩
      have q2 := (g2.block _ (lt_of_block q1)).trans q1
      obtain ⟨d0, d1, d2, d3, d4, -⟩ := block_cells5 q2
      have B2 := chain B1 g2
      clear g2
      go_wp2_with fail
      go_ret
      exact ⟨ret_bool (by first | exact RES.out.symm | (rw [RES.out]; simp; omega)), B2⟩
    | true =>
      simp only [hm] at MH0 hR
      have IH := Lib.hid IH0
      have MH := Lib.hid MH0
      clear IH0 MH0 hb hm
      unfold itV
      by_cases h0 : k = 0
      · subst h0
        have RES := Lib.hid (show R = false by rw [hR]; simp)
        clear hR
        go_enter Tryz.func86, Tryz.ntmps86
        go_wp2_with fail
        refine (IH.out.at _ T0).mono ?_
        rintro e w1 ⟨rfl, g1⟩
        have q1 := (g1.block _ (lt_of_block q0)).trans q0
        obtain ⟨d0, d1, d2, d3, d4, -⟩ := block_cells5 q1
        have B1 := chain B0 g1
        clear g1
        go_wp2_with fail
        refine (MH.out _).mono ?_
        rintro e w2 ⟨rfl, g2⟩
        have q2 := (g2.block _ (lt_of_block q1)).trans q1
        obtain ⟨d0, d1, d2, d3, d4, -⟩ := block_cells5 q2
        have B2 := chain B1 g2
        clear g2
        go_wp2_with fail
        go_ret
        exact ⟨ret_bool (by first | exact RES.out.symm | (rw [RES.out]; simp; omega)), B2⟩
      · have hn0 : (k != 0) = true := by simp [h0]
        have hn1 : (k == 0) = false := by simp [h0]
        by_cases h1 : 0 ≤ ver
        · by_cases h2 : ver ≤ 2147483647
          · have RES := Lib.hid (show R = true by rw [hR]; simp [h0, h1, h2])
            clear hR
            go_enter Tryz.func86, Tryz.ntmps86
            go_wp2_with fail
            refine (IH.out.at _ T0).mono ?_
            rintro e w1 ⟨rfl, g1⟩
            have q1 := (g1.block _ (lt_of_block q0)).trans q0
            obtain ⟨d0, d1, d2, d3, d4, -⟩ := block_cells5 q1
            have B1 := chain B0 g1
            clear g1
            go_wp2_with fail
            refine (MH.out _).mono ?_
            rintro e w2 ⟨rfl, g2⟩
            have q2 := (g2.block _ (lt_of_block q1)).trans q1
            obtain ⟨d0, d1, d2, d3, d4, -⟩ := block_cells5 q2
            have B2 := chain B1 g2
            clear g2
            go_wp2_with fail
            go_ret
            exact ⟨ret_bool (by first | exact RES.out.symm | (rw [RES.out]; simp; omega)), B2⟩
          · have RES := Lib.hid (show R = false by rw [hR]; simp [h2])
            clear hR
            go_enter Tryz.func86, Tryz.ntmps86
            go_wp2_with fail
            refine (IH.out.at _ T0).mono ?_
            rintro e w1 ⟨rfl, g1⟩
            have q1 := (g1.block _ (lt_of_block q0)).trans q0
            obtain ⟨d0, d1, d2, d3, d4, -⟩ := block_cells5 q1
            have B1 := chain B0 g1
            clear g1
            go_wp2_with fail
            refine (MH.out _).mono ?_
            rintro e w2 ⟨rfl, g2⟩
            have q2 := (g2.block _ (lt_of_block q1)).trans q1
            obtain ⟨d0, d1, d2, d3, d4, -⟩ := block_cells5 q2
            have B2 := chain B1 g2
            clear g2
            go_wp2_with fail
            go_ret
            exact ⟨ret_bool (by first | exact RES.out.symm | (rw [RES.out]; simp; omega)), B2⟩
        · have RES := Lib.hid (show R = false by rw [hR]; simp [h1])
          clear hR
          go_enter Tryz.func86, Tryz.ntmps86
          go_wp2_with fail
          refine (IH.out.at _ T0).mono ?_
          rintro e w1 ⟨rfl, g1⟩
          have q1 := (g1.block _ (lt_of_block q0)).trans q0
          obtain ⟨d0, d1, d2, d3, d4, -⟩ := block_cells5 q1
          have B1 := chain B0 g1
          clear g1
          go_wp2_with fail
          refine (MH.out _).mono ?_
          rintro e w2 ⟨rfl, g2⟩
          have q2 := (g2.block _ (lt_of_block q1)).trans q1
          obtain ⟨d0, d1, d2, d3, d4, -⟩ := block_cells5 q2
          have B2 := chain B1 g2
          clear g2
          go_wp2_with fail
          go_ret
          exact ⟨ret_bool (by first | exact RES.out.symm | (rw [RES.out]; simp; omega)), B2⟩
end Go.Proofs.YtoagdmglchccnaaGreatDoor
