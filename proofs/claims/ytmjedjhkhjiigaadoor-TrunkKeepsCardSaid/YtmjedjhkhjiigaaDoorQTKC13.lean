/- Leaves: is it one, where a key stands; the law's shorter lists. Written by wip/tools/gen9c.py. -/
import Derived.Test.YtmjedjhkhjiigaaDoorQTKC12
namespace Go.Proofs.YtmjedjhkhjiigaaDoor
open Go Go.RowKit
set_option linter.unusedVariables false
set_option linter.unusedSimpArgs false
theorem isL_cases (l : List It) : (isL l = true ∧ (chkL l).1 = 0) ∨ (isL l = false ∧ 1 ≤ (chkL l).1) := by
  unfold isL
  cases h : (chkL l).1 with
  | zero => exact .inl ⟨rfl, rfl⟩
  | succ n => exact .inr ⟨rfl, by omega⟩
theorem cast_eq0 {n : Nat} (h : n = 0) : ((n : Int) == 0) = true := by simp [h]
theorem cast_ne0 {n : Nat} (h : 1 ≤ n) : ((n : Int) == 0) = false := by simp; omega
set_option maxRecDepth 100000 in
theorem is9_any (v : Value) (l : List It) (w : World) (tab : TabAt w) (h : RdI w v l) (hsz : SzI l) :
    Calls Tryd.prog 91 #[v] w fun e w' => e = .returned (.bool (isL l)) ∧ Below w.heap.size w w' := by
  have C := check_any v l w tab h hsz
  obtain ⟨a, ha⟩ : ∃ a : Nat, a = (chkL l).1 := ⟨_, rfl⟩
  obtain ⟨b, hb⟩ : ∃ b : Nat, b = (chkL l).2 := ⟨_, rfl⟩
  rw [← ha, ← hb] at C
  rcases isL_cases l with ⟨h1, h2⟩ | ⟨h1, h2⟩
  · rw [h1]
    rw [← ha] at h2
    have e0 := cast_eq0 h2
    clear ha hb h1 h2
    go_enter Tryd.func91, Tryd.ntmps91
    go_wp2_with fail
    refine C.mono ?_
    rintro e w1 ⟨rfl, g⟩
    go_wp2_with fail
    go_ret
    exact ⟨rfl, g⟩
  · rw [h1]
    rw [← ha] at h2
    have e0 := cast_ne0 h2
    clear ha hb h1 h2
    go_enter Tryd.func91, Tryd.ntmps91
    go_wp2_with fail
    refine C.mono ?_
    rintro e w1 ⟨rfl, g⟩
    go_wp2_with fail
    go_ret
    exact ⟨rfl, g⟩
set_option maxRecDepth 100000 in
theorem refIs9_any (v : Value) (l : List It) (w : World) (tab : TabAt w) (h : RdI w v l) (hsz : SzI l) :
    Calls Tryd.prog 76 #[v] w fun e w' => e = .returned (.bool (isL l)) ∧ Below w.heap.size w w' := by
  have C := refCheck_any v l w tab h hsz
  obtain ⟨a, ha⟩ : ∃ a : Nat, a = (chkL l).1 := ⟨_, rfl⟩
  obtain ⟨b, hb⟩ : ∃ b : Nat, b = (chkL l).2 := ⟨_, rfl⟩
  rw [← ha, ← hb] at C
  rcases isL_cases l with ⟨h1, h2⟩ | ⟨h1, h2⟩
  · rw [h1]
    rw [← ha] at h2
    have e0 := cast_eq0 h2
    clear ha hb h1 h2
    go_enter Tryd.func76, Tryd.ntmps76
    go_wp2_with fail
    refine C.mono ?_
    rintro e w1 ⟨rfl, g⟩
    go_wp2_with fail
    go_ret
    exact ⟨rfl, g⟩
  · rw [h1]
    rw [← ha] at h2
    have e0 := cast_ne0 h2
    clear ha hb h1 h2
    go_enter Tryd.func76, Tryd.ntmps76
    go_wp2_with fail
    refine C.mono ?_
    rintro e w1 ⟨rfl, g⟩
    go_wp2_with fail
    go_ret
    exact ⟨rfl, g⟩
/-- Does the key stand there? -/
def foundL (l : List It) (k : List UInt8) : Bool := match l[posL l k]? with | some x => decide (x.key = k) | none => false
theorem found_yes {l : List It} {k : List UInt8} (h : foundL l k = true) : ∃ h : posL l k < l.length, l[posL l k].key = k := by
  unfold foundL at h
  by_cases hp : posL l k < l.length
  · rw [List.getElem?_eq_getElem hp] at h
    exact ⟨hp, by simpa using h⟩
  · rw [List.getElem?_eq_none (by omega)] at h; cases h
theorem found_no {l : List It} {k : List UInt8} (h : foundL l k = false) : ∀ h : posL l k < l.length, l[posL l k].key ≠ k := by
  intro hp
  unfold foundL at h
  rw [List.getElem?_eq_getElem hp] at h
  simpa using h
set_option maxRecDepth 100000 in
set_option maxHeartbeats 1000000 in
theorem find_any (v : Value) (l : List It) (k : List UInt8) (w : World) (h : RdI w v l) (h64 : l.length ≤ 64) (hs : l.Pairwise (fun a b => ltB a.key b.key = true)) :
    Calls Tryd.prog 92 #[v, .string (str k)] w fun e w' => e = .returned (.tuple #[.int .i64 (posL l k : Int), .bool (foundL l k)]) ∧ ∃ n, w' = w.drewN n := by
  obtain ⟨ao, cap, rfl, hc, hm, hr⟩ := RdK.open h
  have hr : RdI w (.slice ao l.length cap) l := hr
  have HRD := Lib.hid hr
  have SO := Lib.hid hs
  clear h hr hs
  go_enter Tryd.func92, Tryd.ntmps92
  go_wp2
  go_step3
  go_wp2
  go_step3
  go_wp2
  go_loop [6, 7] (fun a b => ∃ lo hi : Nat, a = .int .i64 (lo : Int) ∧ b = .int .i64 (hi : Int) ∧ lo ≤ hi ∧ hi ≤ l.length ∧ Hid (∀ i (h : i < l.length), i < lo → ltB l[i].key k = true) ∧ Hid (∀ i (h : i < l.length), hi ≤ i → ltB l[i].key k = false)) (fun a b => (intOf b).toNat - (intOf a).toNat)
  case atStart => exact ⟨0, l.length, rfl, rfl, by omega, by omega, fun i _ h => by omega, fun i _ h => by omega⟩
  case round =>
    obtain ⟨lo, hi, rfl, rfl, h1, h2, B1, B2⟩ := hrel
    by_cases hlt : lo < hi
    · obtain ⟨m, hm⟩ : ∃ m : Nat, m = (lo + hi) / 2 := ⟨_, rfl⟩
      have e1 : ((lo : Int) + (hi : Int)) / 2 = (m : Int) := by omega
      have e2 : ((lo : Int) + (hi : Int)).tdiv 2 = (m : Int) := by rw [Int.tdiv_eq_ediv_of_nonneg (by omega)]; exact e1
      have e3 : (lo + hi) / 2 = m := by omega
      have m1 : lo ≤ m := by omega
      have m2 : m < hi := by omega
      have m3 : m < l.length := by omega
      clear hm
      have hr := HRD.out
      obtain ⟨b, off, rfl, hb, c0, -⟩ := rdi_cells hr m m3
      obtain ⟨y, hy⟩ : ∃ y, y = l[m]'m3 := ⟨_, rfl⟩
      rw [← hy] at c0
      by_cases hyk : y.key = k
      · have q1 : ((str y.key).toList == (str k).toList) = true := by rw [eq_str]; simp [hyk]
        have PP : posL l k = m := posL_of (by omega) (fun i hi2 hi3 => by have := sorted_at SO.out hi3 m3; rwa [← hy, hyk] at this) (fun _ => by rw [← hy, hyk]; exact ltB_self k)
        have HP := Lib.hid PP
        have FD := Lib.hid (show foundL l k = true by unfold foundL; rw [PP, List.getElem?_eq_getElem m3, ← hy]; simp [hyk])
        clear hy hyk hr PP
        go_wp2_with fail
        go_quiet (fail)
        go_wp2_with fail
        simp only [Exit.noGoto]
        go_ret2
        exact ⟨by rw [HP.out, FD.out]; rfl, nq, rfl⟩
      · have q1 : ((str y.key).toList == (str k).toList) = false := by rw [eq_str]; simp [hyk]
        have q2 := less_str y.key k
        cases hlk : ltB y.key k with
        | true =>
          rw [hlk] at q2
          have B3 : Hid (∀ i (h : i < l.length), i < m + 1 → ltB l[i].key k = true) := Lib.hid (fun i h hi3 => by
            rcases Nat.lt_or_eq_of_le (show i ≤ m by omega) with h4 | h4
            · exact lt_trans (by have := sorted_at SO.out h4 m3; rwa [← hy] at this) hlk
            · subst h4; rw [← hy]; exact hlk)
          clear hy hyk hr hlk
          go_wp2_with fail
          exact ⟨⟨m + 1, hi, by push_cast; rfl, rfl, by omega, by omega, B3, B2⟩, by simp [intOf]; omega⟩
        | false =>
          rw [hlk] at q2
          have B3 : Hid (∀ i (h : i < l.length), m ≤ i → ltB l[i].key k = false) := Lib.hid (fun i h hi3 => by
            cases hc : ltB l[i].key k with
            | false => rfl
            | true =>
              rcases Nat.lt_or_eq_of_le hi3 with h4 | h4
              · have := lt_trans (sorted_at SO.out h4 h) hc
                rw [← hy, hlk] at this; cases this
              · subst h4; rw [← hy, hlk] at hc; cases hc)
          clear hy hyk hr hlk
          go_wp2_with fail
          exact ⟨⟨lo, m, rfl, rfl, by omega, by omega, B1, B3⟩, by simp [intOf]; omega⟩
    · obtain rfl : lo = hi := by omega
      have PP : posL l k = lo := posL_of (by omega) (fun i hi2 hi3 => B1.out i hi2 hi3) (fun h => B2.out lo h (Nat.le_refl _))
      obtain ⟨p, hpm⟩ : ∃ p, p = lo := ⟨_, rfl⟩
      subst hpm
      have HP := Lib.hid (show posL l k = p from PP)
      clear PP
      by_cases hp : p < l.length
      · have hr := HRD.out
        obtain ⟨b2, off2, hbo, hb2, e0, -⟩ := rdi_cells hr p hp
        cases hbo
        obtain ⟨z, hz⟩ : ∃ z, z = l[p]'hp := ⟨_, rfl⟩
        rw [← hz] at e0
        by_cases hzk : z.key = k
        · have FD := Lib.hid (show foundL l k = true by unfold foundL; rw [HP.out, List.getElem?_eq_getElem hp, ← hz]; simp [hzk])
          have hs1 : ((str z.key).toList == (str k).toList) = true := by rw [eq_str]; simp [hzk]
          clear hz hzk hr
          go_wp2_with fail
          go_quiet (fail)
          go_wp2_with fail
          simp only [Exit.noGoto]
          go_ret2
          exact ⟨by rw [HP.out, FD.out]; rfl, nq, rfl⟩
        · have FD := Lib.hid (show foundL l k = false by unfold foundL; rw [HP.out, List.getElem?_eq_getElem hp, ← hz]; simp [hzk])
          have hs1 : ((str z.key).toList == (str k).toList) = false := by rw [eq_str]; simp [hzk]
          clear hz hzk hr
          go_wp2_with fail
          go_quiet (fail)
          go_wp2_with fail
          simp only [Exit.noGoto]
          go_ret2
          exact ⟨by rw [HP.out, FD.out]; rfl, nq, rfl⟩
      · have FD := Lib.hid (show foundL l k = false by unfold foundL; rw [HP.out, List.getElem?_eq_none (by omega)])
        have hpn : decide ((p : Int) < (l.length : Int)) = false := decide_eq_false (by omega)
        have hpn2 : decide (p < l.length) = false := decide_eq_false hp
        go_wp2_with fail
        go_quiet (fail)
        go_wp2_with fail
        simp only [Exit.noGoto]
        go_ret2
        exact ⟨by rw [HP.out, FD.out]; rfl, nq, rfl⟩
end Go.Proofs.YtmjedjhkhjiigaaDoor
