/- Quorums: the set of a list; the document's list of a set. -/
import Derived.Test.YtlhdbggjablofaaDoorQ05I
import Derived.Test.YtlhdbggjablofaaDoorLst
namespace Go.Proofs.YtlhdbggjablofaaDoor
open Go.RowKit
set_option linter.unusedVariables false
set_option linter.unusedSimpArgs false
def iz (n : Int) : Value := .int .i64 n
set_option maxRecDepth 100000 in
set_option maxHeartbeats 400000 in
theorem of_any (v : Value) (l : List Int) (w : World) (h : RdV w v (l.map iz)) :
    Calls Tryd.prog 21 #[v] w fun e w' => e = .returned (.int .u64 (ofZ l 0 : Nat)) ∧ w = w' := by
  obtain ⟨ao, cap, ev, hlc, hcm, -, hx⟩ := h
  obtain ⟨n, en⟩ : ∃ n, n = l.length := ⟨_, rfl⟩
  rw [List.length_map, ← en] at ev hlc hx
  subst ev
  have EN := Lib.hid en
  have HX := Lib.hid hx
  clear hx en
  unfold maxLen at hcm
  go_enter Tryd.func21, Tryd.ntmps21
  go_wp2_with fail
  go_loop [3, 8] (fun x i => ∃ k s : Nat, k ≤ n ∧ i = .int .i64 (k : Int) ∧ x = .int .u64 (s : Int) ∧ Hid (s = ofZ (l.take k) 0)) (fun _ i => n - (intOf i).toNat)
  case atStart => exact ⟨0, 0, Nat.zero_le _, rfl, rfl, rfl⟩
  case round =>
    obtain ⟨k, s, hk, rfl, rfl, hs⟩ := hrel
    by_cases hlt : k < n
    · obtain ⟨b, off, rfl, hb, hcell⟩ := HX.out (by omega)
      have hkl : k < l.length := by have := EN.out; omega
      have hc := hcell k hlt
      have hc2 : w.cell? ⟨b, off + k, none⟩ = some (.int .i64 l[k]) := by rw [hc]; simp [hkl, iz]
      have hs2 : s < 18446744073709551616 := by rw [hs.out]; exact ofZ_lt _ _ (by decide)
      have W := with_any s hs2 l[k]
      have hn : s ||| bitZ l[k] = ofZ (l.take (k + 1)) 0 := by
        rw [List.take_succ_eq_append_getElem hkl, ofZ_snoc, ← hs.out]
      generalize s ||| bitZ l[k] = s' at W hn
      generalize l[k] = z at W hc2
      have HN := Lib.hid hn
      clear hn hc hs hcell hs2
      go_wp2_with fail
      refine (W _).mono ?_
      rintro e w1 ⟨rfl, rfl⟩
      go_wp2_with fail
      exact ⟨⟨k + 1, s', by omega, by push_cast; rfl, rfl, HN⟩, by simp [intOf]; omega⟩
    · obtain rfl : k = n := by omega
      have hs2 : s = ofZ l 0 := by rw [hs.out, List.take_of_length_le (by have := EN.out; omega)]
      have HS := Lib.hid hs2
      clear hs hs2
      go_wp2_with fail
      go_ret
      exact ⟨by rw [← HS.out]; rfl, rfl⟩
set_option maxRecDepth 100000 in
set_option maxHeartbeats 1000000 in
theorem refList_any (s : Nat) (hs : s < 18446744073709551616) (w : World) :
    Calls Tryd.prog 14 #[.int .u64 (s : Int)] w fun e w' => ∃ v, e = .returned v ∧ w'.ownsRow w.heap.size 3 1 v (listN s).length ((listN s).map iv) ∧ Below w.heap.size w w' := by
  obtain ⟨i0, hi, hz0, hz1, hz2⟩ := info_parts intinfo
  have R := fun n => refHas_any s hs n
  have HR := Lib.hid R
  clear R hs
  go_enter Tryd.func14, Tryd.ntmps14
  go_wp2_with fail
  go_loopw [3, 4] (fun x i wr => ∃ (k m : Nat) (ao : Option Addr) (cap : Nat), k ≤ 64 ∧ i = .int .i64 (k : Int) ∧ x = .slice ao m cap ∧ m ≤ k ∧ wr.ownsRow w.heap.size 3 1 (.slice ao m cap) m (((List.range k).filter fun i => s.testBit i).map iv) ∧ Below w.heap.size w wr)
    (fun _ i _ => 64 - (intOf i).toNat)
  case atStart => exact ⟨0, 0, none, 0, by omega, rfl, rfl, by omega, World.ownsRow_nil _ _ _ _, Below.refl _ _⟩
  case round =>
    obtain ⟨k, m, ao, cap, hk, rfl, rfl, hm, ho, hb⟩ := hrel
    by_cases hlt : k < 64
    · have R := HR.out (k : Int)
      rw [hasZ_in s k hlt] at R
      have ef : (List.range (k + 1)).filter (fun i => s.testBit i) = (List.range k).filter (fun i => s.testBit i) ++ if s.testBit k then [k] else [] := by
        rw [List.range_succ, List.filter_append]
        by_cases h : s.testBit k <;> simp [h]
      cases ht : s.testBit k with
      | true =>
        rw [ht] at R ef
        simp only [if_true] at ef
        have EF := Lib.hid ef
        clear ef ht
        go_wp2_with fail
        refine (R _).mono ?_
        rintro e w1 ⟨rfl, rfl⟩
        go_wp2_with (at_builtin; go_loud (refine wpList_app1 w rfl _ _ 30 rfl w.heap.size 3 i0 (.int .i64 0) 8 Tryd.underlying30 hi hz0 hz1 hz2 rfl _ _ _ rfl ho _ _ rfl rfl (by unfold maxLen; omega) (by omega) (Nat.le_refl _) hb ?_); intro v' w2 o2 b2)
        obtain ⟨g2, cap2, rfl, _, _⟩ := slice_of_own o2 (by omega)
        refine ⟨⟨k + 1, m + 1, some ⟨g2, 0, none⟩, cap2, by omega, by push_cast; rfl, rfl, by omega, ?_, b2⟩, by simp [intOf]; omega⟩
        rw [EF.out, List.map_append]
        exact o2
      | false =>
        rw [ht] at R ef
        simp only [List.append_nil, if_false, Bool.false_eq_true] at ef
        have EF := Lib.hid ef
        clear ef ht
        go_wp2_with fail
        refine (R _).mono ?_
        rintro e w1 ⟨rfl, rfl⟩
        go_wp2_with fail
        refine ⟨⟨k + 1, m, ao, cap, by omega, by push_cast; rfl, rfl, by omega, ?_, hb⟩, by simp [intOf]; omega⟩
        rw [EF.out]
        exact ho
    · obtain rfl : k = 64 := by omega
      have hl := ho.1
      go_wp2_with fail
      go_ret
      refine ⟨_, rfl, ?_, hb⟩
      have : (listN s).length = m := by have := hl; simp at this; exact this
      rw [this]
      exact ho
end Go.Proofs.YtlhdbggjablofaaDoor
