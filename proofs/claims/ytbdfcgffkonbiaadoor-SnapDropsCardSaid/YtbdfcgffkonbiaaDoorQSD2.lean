/- Items: the document's Same, of any two lists. Written by wip/tools/gen14t.py. -/
import Derived.Test.YtbdfcgffkonbiaaDoorQSD1
namespace Go.Proofs.YtbdfcgffkonbiaaDoor
open Go Go.RowKit
set_option linter.unusedVariables false
set_option linter.unusedSimpArgs false
set_option maxRecDepth 100000 in
set_option maxHeartbeats 1000000 in
theorem refSameG_any (v u : Value) (l m : List It) (w : World) (h : RdI w v l) (hu : RdI w u m) (h66 : l.length ≤ 100) (h67 : m.length ≤ 100) :
    Calls Tryd.prog 28 #[v, u] w fun e w' => e = .returned (.bool (lsEq l m)) ∧ ∃ n, w' = w.drewN n := by
  obtain ⟨ao, cap, rfl, hc, hm, hr⟩ := RdK.open h
  obtain ⟨ao2, cap2, rfl, hc2, hm2, hr2⟩ := RdK.open hu
  have hr : RdI w (.slice ao l.length cap) l := hr
  have hr2 : RdI w (.slice ao2 m.length cap2) m := hr2
  have HRD := Lib.hid hr
  have HRD2 := Lib.hid hr2
  obtain ⟨R, hR⟩ : ∃ R, R = lsEq l m := ⟨_, rfl⟩
  rw [← hR]
  have HR := Lib.hid hR
  clear h hr hu hr2 hR
  by_cases hlm : l.length = m.length
  · have HLM := Lib.hid hlm
    have hb1 : ((l.length : Int) != (m.length : Int)) = false := by rw [bne_eq_false_iff_eq]; omega
    rw [← hlm] at hb1 ⊢
    have hb2 : ((l.length : Int) != (l.length : Int)) = false := by rw [bne_eq_false_iff_eq]
    clear hlm hb1
    go_enter Tryd.func28, Tryd.ntmps28
    go_wp2_with fail
    go_loopw [5] (fun i wr => ∃ (j n0 : Nat), j ≤ l.length ∧ i = .int .i64 (j : Int) ∧ Hid (wr = w.drewN n0) ∧ Hid (l.take j = m.take j)) (fun i _ => 200 - (intOf i).toNat)
    case atStart => exact ⟨0, 0, Nat.zero_le _, rfl, (rfl : w = w.drewN 0), Lib.hid rfl⟩
    case round =>
      obtain ⟨j, n0, hj, rfl, HW, HE⟩ := hrel
      by_cases hlt : j < l.length
      · have bel : Below w.heap.size w wr := by rw [HW.out]; exact below_drewN (Below.refl _ _)
        have hlt2 : j < m.length := by have := HLM.out; omega
        have hr := HRD.out
        have R1 := hr.below bel (Nat.le_refl _)
        obtain ⟨b, off, rfl, hb, c0, c1, c2, c3, c4⟩ := rdi_cells R1 j hlt
        have hr2 := HRD2.out
        rw [← HLM.out] at hr2
        have R2 := hr2.below bel (Nat.le_refl _)
        obtain ⟨b2, off2, rfl, hb2, d0, d1, d2, d3, d4⟩ := rdi_cells R2 j hlt2
        obtain ⟨x, hx⟩ : ∃ x, x = l[j]'hlt := ⟨_, rfl⟩
        obtain ⟨y, hy⟩ : ∃ y, y = m[j]'hlt2 := ⟨_, rfl⟩
        rw [← hx] at c0 c1 c2 c3 c4
        rw [← hy] at d0 d1 d2 d3 d4
        by_cases hxy : x = y
        · have HN := Lib.hid (take_same hlt hlt2 HE.out (by rw [← hx, ← hy]; exact hxy))
          clear hx hy hr hr2 R1 R2 hlt2
          subst hxy
          have NE := fun W => it_ne_same x W
          unfold itV at NE
          go_wp2_with fail
          go_quiet (fail)
          have bel2 : Hid (wr.drewN nq = w.drewN (n0 + nq)) := by have h := HW.out; exact Lib.hid (by rw [h, World.drewN_drewN])
          go_wp2_with fail
          exact ⟨⟨j + 1, n0 + nq, by omega, by push_cast; rfl, bel2, HN⟩, by simp [intOf]; omega⟩
        · have HF := Lib.hid (show R = false by rw [HR.out]; exact lsEq_at hlt hlt2 (by rw [← hx, ← hy]; exact hxy))
          have NE := fun W => it_ne_yes x y hxy W
          unfold itV at NE
          clear hx hy hr hr2 R1 R2 hxy hlt2
          go_wp2_with fail
          go_quiet (fail)
          have bel2 : Hid (wr.drewN nq = w.drewN (n0 + nq)) := by have h := HW.out; exact Lib.hid (by rw [h, World.drewN_drewN])
          go_wp2_with fail
          go_ret
          exact ⟨by rw [HF.out]; rfl, _, bel2.out⟩
      · obtain rfl : j = l.length := by omega
        have HF := Lib.hid (show R = true by
          have h := HE.out
          rw [List.take_length, HLM.out, List.take_length] at h
          rw [HR.out, h]; exact lsEq_yes)
        go_wp2_with fail
        go_ret
        exact ⟨by rw [HF.out]; rfl, _, HW.out⟩
  · have HF := Lib.hid (show R = false by rw [HR.out]; exact lsEq_len hlm)
    have hb1 : ((l.length : Int) != (m.length : Int)) = true := by rw [bne_iff_ne]; omega
    clear hlm
    go_enter Tryd.func28, Tryd.ntmps28
    go_wp2_with fail
    go_ret
    exact ⟨by rw [HF.out]; rfl, 0, rfl⟩
theorem unl_at {lv lv' : Nat → List It} {vs vs' : Nat → Int} {k : Nat} (hk : k < 16) (h : unlB lv lv' vs vs' k = true) : ∃ hn : (unlL lv lv' vs vs' k).length < (unlL lv lv' vs vs' 16).length, (unlL lv lv' vs vs' 16)[(unlL lv lv' vs vs' k).length] = k := by
  have key : ∀ d, ∃ r, unlL lv lv' vs vs' (k + 1 + d) = unlL lv lv' vs vs' k ++ k :: r := by
    intro d
    induction d with
    | zero => exact ⟨[], by rw [Nat.add_zero, unlL_succ, if_pos h]⟩
    | succ d ih =>
      obtain ⟨r, hr⟩ := ih
      refine ⟨r ++ (if unlB lv lv' vs vs' (k + 1 + d) = true then [k + 1 + d] else []), ?_⟩
      rw [show k + 1 + (d + 1) = (k + 1 + d) + 1 by omega, unlL_succ, hr]; simp
  obtain ⟨r, hr⟩ := key (15 - k)
  rw [show k + 1 + (15 - k) = 16 by omega] at hr
  refine ⟨by rw [hr]; simp, ?_⟩
  simp [hr]
end Go.Proofs.YtbdfcgffkonbiaaDoor
