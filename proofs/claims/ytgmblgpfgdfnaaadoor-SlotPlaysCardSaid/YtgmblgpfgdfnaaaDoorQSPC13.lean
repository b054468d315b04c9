/- Slots: comparing, searching, cloning; who agrees. Written by wip/tools/gen29d.py. -/
import Derived.Test.YtgmblgpfgdfnaaaDoorQSPC12
import Derived.Lib.AppendZeros
import Derived.Lib.BufferMore
namespace Go.Proofs.YtgmblgpfgdfnaaaDoor
open Go Go.RowKit
set_option linter.unusedVariables false
set_option linter.unusedSimpArgs false
set_option maxRecDepth 100000
theorem info_parts {P : Program} {e : TypeId} {z : Value} {n m : Nat} (h : (P.info? e).map (fun i => (i.zero, i.size, i.bytes)) = some (some z, n, m)) : ∃ i, P.info? e = some i ∧ i.zero = some z ∧ i.size = n ∧ i.bytes = m := by
  obtain ⟨i, h1, h2⟩ := Option.map_eq_some_iff.1 h
  simp only [Prod.mk.injEq] at h2
  exact ⟨i, h1, h2.1, h2.2.1, h2.2.2⟩
theorem vote_info : (Tryd.prog.info? 26).map (fun i => (i.zero, i.size, i.bytes)) = some (some (.agg #[.int .i64 0, .int .i64 0, .int .i64 0]), 3, 24) := by kernel_rfl
/-- What a call hands back is a list of votes of its own. -/
def OwnT (w : World) (l : List Vt) (e : Ending) (w' : World) : Prop := ∃ v', e = .returned v' ∧ w'.ownsRow w.heap.size 26 3 v' l.length (l.flatMap vtC) ∧ Below w.heap.size w w'
theorem isNaN_any (x : Int) (w : World) : Calls Tryd.prog 56 #[.int .i64 x] w fun e w' => e = .returned (.bool false) ∧ w = w' := by
  go_enter Tryd.func56, Tryd.ntmps56
  go_wp2_with fail
  go_ret
  exact ⟨rfl, rfl⟩
def cmpZ (x y : Int) : Int := if x < y then -1 else if y < x then 1 else 0
theorem compare_any (x y : Int) (w : World) : Calls Tryd.prog 45 #[.int .i64 x, .int .i64 y] w fun e w' => e = .returned (.int .i64 (cmpZ x y)) ∧ w = w' := by
  have NX := Lib.hid (fun w => isNaN_any x w)
  have NY := Lib.hid (fun w => isNaN_any y w)
  rcases Int.lt_trichotomy x y with h | h | h
  · rw [show cmpZ x y = -1 by unfold cmpZ; rw [if_pos h]]
    go_enter Tryd.func45, Tryd.ntmps45
    go_wp2_with (first | ((with_reducible refine (NX.out _).mono ?_); rintro e w1 ⟨rfl, rfl⟩) | ((with_reducible refine (NY.out _).mono ?_); rintro e w1 ⟨rfl, rfl⟩))
    go_ret
    exact ⟨rfl, rfl⟩
  · subst h
    rw [show cmpZ x x = 0 by unfold cmpZ; simp]
    go_enter Tryd.func45, Tryd.ntmps45
    go_wp2_with ((with_reducible refine (NX.out _).mono ?_); rintro e w1 ⟨rfl, rfl⟩)
    go_ret
    exact ⟨rfl, rfl⟩
  · have h2 : ¬ x < y := by omega
    rw [show cmpZ x y = 1 by unfold cmpZ; rw [if_neg h2, if_pos h]]
    go_enter Tryd.func45, Tryd.ntmps45
    go_wp2_with (first | ((with_reducible refine (NX.out _).mono ?_); rintro e w1 ⟨rfl, rfl⟩) | ((with_reducible refine (NY.out _).mono ?_); rintro e w1 ⟨rfl, rfl⟩))
    go_ret
    exact ⟨rfl, rfl⟩
theorem castF_any (x : Vt) (p : Int) (w : World) : Calls Tryd.prog 44 #[.agg #[.int .i64 x.fr, .int .i64 x.vw, .int .i64 x.tm], .int .i64 p] w fun e w' => e = .returned (.int .i64 (cmpZ x.fr p)) ∧ Below w.heap.size w w' := by
  have C := Lib.hid (fun w => compare_any x.fr p w)
  have q0 := heap_alloc_new w (.cells #[.int .i64 x.fr, .int .i64 x.vw, .int .i64 x.tm] 26)
  have B0 := (Below.refl w.heap.size w).alloc (Nat.le_refl _) (.cells #[.int .i64 x.fr, .int .i64 x.vw, .int .i64 x.tm] 26)
  go_enter Tryd.func44, Tryd.ntmps44
  go_wp2_with ((with_reducible refine (C.out _).mono ?_); rintro e w1 ⟨rfl, rfl⟩)
  go_ret
  exact ⟨rfl, B0⟩
theorem cmpZ_lt {x y : Int} (h : x < y) : cmpZ x y = -1 := by unfold cmpZ; rw [if_pos h]
theorem cmpZ_gt {x y : Int} (h : y < x) : cmpZ x y = 1 := by unfold cmpZ; rw [if_neg (by omega), if_pos h]
theorem cmpZ_eq {x y : Int} (h : x = y) : cmpZ x y = 0 := by subst h; unfold cmpZ; simp
set_option maxHeartbeats 1000000 in
theorem search_any (v : Value) (l : List Vt) (p : Int) (w : World) (h : RdT w v l) (h64 : l.length ≤ 64) (hs : l.Pairwise (fun a b => a.fr < b.fr)) :
    Calls Tryd.prog 43 #[v, .int .i64 p, .func (.func 44) #[] #[]] w fun e w' => e = .returned (.tuple #[.int .i64 (posV l p : Int), .bool (foundV l p)]) ∧ Below w.heap.size w w' := by
  obtain ⟨ao, cap, rfl, hc, hm, hr⟩ := RdK.open h
  have hr : RdT w (.slice ao l.length cap) l := hr
  have HRD := Lib.hid hr
  have SO := Lib.hid hs
  clear h hr hs
  go_enter Tryd.func43, Tryd.ntmps43
  go_wp2_with fail
  go_loopw [9, 10] (fun a b wr => ∃ lo hi : Nat, a = .int .i64 (lo : Int) ∧ b = .int .i64 (hi : Int) ∧ lo ≤ hi ∧ hi ≤ l.length ∧ Hid (∀ i (h : i < l.length), i < lo → l[i].fr < p) ∧ Hid (∀ i (h : i < l.length), hi ≤ i → p ≤ l[i].fr) ∧ Below w.heap.size w wr) (fun a b _ => (intOf b).toNat - (intOf a).toNat)
  case atStart => exact ⟨0, l.length, rfl, rfl, by omega, by omega, Lib.hid (fun i _ h => by omega), Lib.hid (fun i _ h => by omega), Below.refl _ _⟩
  case round =>
    obtain ⟨lo, hi, rfl, rfl, h1, h2, B1, B2, bel⟩ := hrel
    by_cases hlt : lo < hi
    · obtain ⟨m, hm⟩ : ∃ m : Nat, m = (lo + hi) / 2 := ⟨_, rfl⟩
      have e1 : ((lo : Int) + (hi : Int)) / 2 = (m : Int) := by omega
      have e3 : (lo + hi) / 2 = m := by omega
      have m1 : lo ≤ m := by omega
      have m2 : m < hi := by omega
      have m3 : m < l.length := by omega
      clear hm
      obtain ⟨pb, po, rfl, hpb, C0, C1, C2⟩ := rdt_cells HRD.out m m3
      have c0 := (bel.cell (p := ⟨pb, po + m * 3, none⟩) hpb).trans C0
      have c1 := (bel.cell (p := ⟨pb, po + m * 3 + 1, none⟩) hpb).trans C1
      have c2 := (bel.cell (p := ⟨pb, po + m * 3 + 2, none⟩) hpb).trans C2
      obtain ⟨y, hy⟩ : ∃ y, y = l[m]'m3 := ⟨_, rfl⟩
      rw [← hy] at c0 c1 c2
      have CF := Lib.hid (fun w => castF_any y p w)
      by_cases hlk : y.fr < p
      · have B3 : Hid (∀ i (h : i < l.length), i < m + 1 → l[i].fr < p) := Lib.hid (fun i h hi3 => by
          rcases Nat.lt_or_eq_of_le (show i ≤ m by omega) with h4 | h4
          · have := vt_at SO.out h4 m3; rw [← hy] at this; omega
          · subst h4; rw [← hy]; exact hlk)
        have Z := cmpZ_lt hlk
        rw [Z] at CF
        clear hy hlk C0 C1 C2 Z
        go_wp2_with ((with_reducible refine (CF.out _).mono ?_); rintro e w1 ⟨rfl, g⟩)
        exact ⟨⟨m + 1, hi, by push_cast; rfl, rfl, by omega, by omega, B3, B2, chain bel g⟩, by simp [intOf]; omega⟩
      · have B3 : Hid (∀ i (h : i < l.length), m ≤ i → p ≤ l[i].fr) := Lib.hid (fun i h hi3 => by
          rcases Nat.lt_or_eq_of_le hi3 with h4 | h4
          · have := vt_at SO.out h4 h; rw [← hy] at this; omega
          · subst h4; rw [← hy]; omega)
        have Z : 0 ≤ cmpZ y.fr p := by unfold cmpZ; rw [if_neg hlk]; split <;> omega
        obtain ⟨z, hz⟩ : ∃ z, z = cmpZ y.fr p := ⟨_, rfl⟩
        rw [← hz] at CF Z
        clear hy hlk C0 C1 C2 hz
        go_wp2_with ((with_reducible refine (CF.out _).mono ?_); rintro e w1 ⟨rfl, g⟩)
        exact ⟨⟨lo, m, rfl, rfl, by omega, by omega, B1, B3, chain bel g⟩, by simp [intOf]; omega⟩
    · obtain rfl : lo = hi := by omega
      have PP : posV l p = lo := posV_of (by omega) (fun i hi2 hi3 => B1.out i hi2 hi3) (fun h => by have := B2.out lo h (Nat.le_refl _); omega)
      obtain ⟨q, hpm⟩ : ∃ q, q = lo := ⟨_, rfl⟩
      subst hpm
      have HP := Lib.hid (show posV l p = q from PP)
      clear PP
      by_cases hp : q < l.length
      · obtain ⟨pb, po, rfl, hpb, C0, C1, C2⟩ := rdt_cells HRD.out q hp
        have c0 := (bel.cell (p := ⟨pb, po + q * 3, none⟩) hpb).trans C0
        have c1 := (bel.cell (p := ⟨pb, po + q * 3 + 1, none⟩) hpb).trans C1
        have c2 := (bel.cell (p := ⟨pb, po + q * 3 + 2, none⟩) hpb).trans C2
        obtain ⟨y, hy⟩ : ∃ y, y = l[q]'hp := ⟨_, rfl⟩
        rw [← hy] at c0 c1 c2
        have CF := Lib.hid (fun w => castF_any y p w)
        have FD := Lib.hid (show foundV l p = (cmpZ y.fr p == 0) by
          unfold foundV; rw [HP.out, List.getElem?_eq_getElem hp, ← hy]
          unfold cmpZ
          rw [Bool.eq_iff_iff]
          simp only [decide_eq_true_eq, beq_iff_eq]
          split
          · omega
          · split <;> omega)
        obtain ⟨z, hz⟩ : ∃ z, z = cmpZ y.fr p := ⟨_, rfl⟩
        rw [← hz] at CF FD
        obtain ⟨Zb, hZb⟩ : ∃ Zb, (z == 0) = Zb := ⟨_, rfl⟩
        rw [hZb] at FD
        clear hy C0 C1 C2 hz
        go_wp2_with ((with_reducible refine (CF.out _).mono ?_); rintro e w1 ⟨rfl, g⟩)
        go_ret2
        exact ⟨by rw [HP.out, FD.out]; rfl, chain bel g⟩
      · have FD := Lib.hid (show foundV l p = false by unfold foundV; rw [HP.out, List.getElem?_eq_none (by omega)])
        have hpn : decide ((q : Int) < (l.length : Int)) = false := decide_eq_false (by omega)
        have hpn2 : decide (q < l.length) = false := decide_eq_false hp
        go_wp2_with fail
        go_ret2
        exact ⟨by rw [HP.out, FD.out]; rfl, bel⟩
theorem clone_any (v : Value) (l : List Vt) (w : World) (h : RdT w v l) (h66 : l.length ≤ 1000) :
    Calls Tryd.prog 41 #[v] w (OwnT w l) := by
  obtain ⟨i0, hi, hz0, hz1, hz2⟩ := info_parts vote_info
  obtain ⟨ao, cap, rfl, hc, hm, hr⟩ := RdK.open h
  cases ao with
  | none =>
    have hcap : cap = 0 := by obtain ⟨_, _, he, _, _, h4, _⟩ := hr; cases he; exact h4 rfl
    obtain rfl : l = [] := List.eq_nil_of_length_eq_zero (by omega)
    subst hcap
    have hnil : ∀ W, (binOp .eql 22 (.slice none 0 0) (.slice none 0 0)).run Tryd.prog W = .ok (.bool true) W := fun W => Lib.run_eql_slice_nil_nil W 0 0 Tryd.underlying22
    clear h hr
    go_enter Tryd.func41, Tryd.ntmps41
    go_wp2_with fail
    go_ret
    exact ⟨_, rfl, World.ownsRow_nil _ _ _ _, Below.refl _ _⟩
  | some ad =>
    have hr : RdT w (.slice (some ad) l.length cap) l := hr
    have HSZ := Lib.hid (show (w.alloc (.cells #[] 26)).heap.size = w.heap.size + 1 from by simp)
    have HLIT := Lib.hid (World.ownsRow_lit (e := 26) (size := 3) w #[] 0 (Nat.le_refl _) (by decide) rfl)
    have HRD := Lib.hid hr
    have hsome := fun W => Lib.run_eql_slice_some_nil (P := Tryd.prog) W ad l.length cap Tryd.underlying22
    clear h hr
    go_enter Tryd.func41, Tryd.ntmps41
    go_wp2_with (at_builtin; refine wpList_app_rdk vtC_len (by decide) w rfl (.tmp 5) (.tmp 6) 22 rfl w.heap.size 26 i0 (.agg #[.int .i64 0, .int .i64 0, .int .i64 0]) 24 Tryd.underlying22 hi hz0 hz1 hz2 rfl (.slice (some ⟨w.heap.size, 0, none⟩) 0 0) [] rfl HLIT.out (.slice (some ad) l.length cap) l rfl (HRD.out.below ((Below.refl _ _).alloc (Nat.le_refl _) _) (Nat.le_refl _)) vtC_one (by unfold maxLen; simp; omega) (by simp; omega) (Nat.le_refl _) ((Below.refl _ _).alloc (Nat.le_refl _) _) ?_; intro v' w1 hown2 hb2 hq2; clear hq2)
    go_ret
    exact ⟨_, rfl, hown2, hb2⟩
end Go.Proofs.YtgmblgpfgdfnaaaDoor
