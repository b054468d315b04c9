/- Leaves: what is put is got, what is deleted is not, all else is as it was. Plain mathematics. -/
/- Leaves: the document's With. Written by wip/tools/gen9w.py. -/
import Derived.Test.YtbdfcgffkonbiaaDoorQST9
namespace Go.Proofs.YtbdfcgffkonbiaaDoor
open Go Go.RowKit
set_option linter.unusedVariables false
set_option linter.unusedSimpArgs false
theorem at_mem {l : List It} (hs : l.Pairwise (fun a b => ltB a.key b.key = true)) {k : List UInt8} {y : It} : atL l k = some y ↔ (y ∈ l ∧ y.key = k) := by
  unfold atL
  constructor
  · intro h
    have h1 := List.find?_some h
    exact ⟨List.mem_of_find?_eq_some h, by simpa using h1⟩
  · rintro ⟨h1, h2⟩
    obtain ⟨i, hi, rfl⟩ := List.getElem_of_mem h1
    rw [List.find?_eq_some_iff_getElem]
    refine ⟨by simp [h2], i, hi, rfl, fun j hj => ?_⟩
    have h3 := ltB_ne (sorted_at hs hj hi)
    rw [h2] at h3
    simpa using h3
theorem with_mem {l : List It} {x y : It} : y ∈ withL l x ↔ ((y ∈ l ∧ ltB y.key x.key = true) ∨ y = x ∨ (y ∈ l ∧ ltB x.key y.key = true)) := by
  unfold withL
  simp only [List.mem_append, List.mem_cons, List.mem_filter]
theorem with_sorted {l : List It} (hs : l.Pairwise (fun a b => ltB a.key b.key = true)) (x : It) : (withL l x).Pairwise (fun a b => ltB a.key b.key = true) := by
  unfold withL
  rw [List.pairwise_append]
  refine ⟨hs.filter _, ?_, ?_⟩
  · rw [List.pairwise_cons]
    exact ⟨fun y hy => (List.mem_filter.1 hy).2, hs.filter _⟩
  · intro a ha b hb
    have h1 := (List.mem_filter.1 ha).2
    rcases List.mem_cons.1 hb with rfl | hb
    · exact h1
    · exact lt_trans h1 (List.mem_filter.1 hb).2
theorem putE_zero {l : List It} {x : It} (h : putE l x = 0) : isL l = true ∧ mayI x = true ∧ (foundL l x.key = true ∨ l.length < 64) := by
  unfold putE at h
  by_cases h1 : isL l = true ∧ mayI x = true
  · rw [if_pos h1] at h
    refine ⟨h1.1, h1.2, ?_⟩
    by_cases h2 : foundL l x.key = false ∧ l.length = 64
    · rw [if_pos h2] at h; omega
    · have := isL_len h1.1
      cases hf : foundL l x.key with
      | true => exact .inl rfl
      | false => exact .inr (by rw [hf] at h2; simp at h2; omega)
  · rw [if_neg h1] at h; omega
theorem with_len {l : List It} {x : It} (h : putE l x = 0) : (withL l x).length ≤ 64 := by
  obtain ⟨h1, h2, h3⟩ := putE_zero h
  have hs := isL_sorted h1
  have h64 := isL_len h1
  cases hf : foundL l x.key with
  | true =>
    obtain ⟨hp, hk⟩ := found_yes hf
    rw [← with_in hs x hp hk]
    simp; omega
  | false =>
    rw [← with_out hs x (found_no hf)]
    have := posL_le l x.key
    rw [hf] at h3
    simp at h3 ⊢; omega
theorem with_is {l : List It} {x : It} (h : putE l x = 0) : isL (withL l x) = true := by
  obtain ⟨h1, h2, h3⟩ := putE_zero h
  refine (isL_iff _).2 ⟨with_len h, fun y hy => ?_, with_sorted (isL_sorted h1) x⟩
  rcases with_mem.1 hy with ⟨hy, _⟩ | rfl | ⟨hy, _⟩
  · exact isL_may h1 y hy
  · exact h2
  · exact isL_may h1 y hy
theorem with_at {l : List It} {x : It} (h : putE l x = 0) : atL (withL l x) x.key = some x :=
  (at_mem (with_sorted (isL_sorted (putE_zero h).1) x)).2 ⟨with_mem.2 (.inr (.inl rfl)), rfl⟩
theorem with_other {l : List It} {x : It} (h : putE l x = 0) {k : List UInt8} (hk : k ≠ x.key) : atL (withL l x) k = atL l k := by
  have hs := isL_sorted (putE_zero h).1
  apply Option.ext
  intro y
  rw [at_mem (with_sorted hs x), at_mem hs, with_mem]
  constructor
  · rintro ⟨(⟨h1, _⟩ | rfl | ⟨h1, _⟩), h2⟩
    · exact ⟨h1, h2⟩
    · exact absurd h2.symm hk
    · exact ⟨h1, h2⟩
  · rintro ⟨h1, h2⟩
    refine ⟨?_, h2⟩
    cases h3 : ltB y.key x.key with
    | true => exact .inl ⟨h1, rfl⟩
    | false =>
      cases h4 : ltB x.key y.key with
      | true => exact .inr (.inr ⟨h1, rfl⟩)
      | false => exact absurd (h2.symm.trans (ltB_tri h3 h4)) hk
theorem delE_zero {l : List It} {k : List UInt8} (h : delE l k = 0) : isL l = true ∧ foundL l k = true := by
  unfold delE at h
  by_cases h1 : isL l = true
  · rw [if_pos h1] at h
    by_cases h2 : foundL l k = true
    · exact ⟨h1, h2⟩
    · rw [if_neg h2] at h; omega
  · rw [if_neg h1] at h; omega
theorem without_sorted {l : List It} (hs : l.Pairwise (fun a b => ltB a.key b.key = true)) (k : List UInt8) : (withoutL l k).Pairwise (fun a b => ltB a.key b.key = true) := hs.filter _
theorem without_len {l : List It} {k : List UInt8} (h : delE l k = 0) : (withoutL l k).length + 1 = l.length := by
  obtain ⟨h1, h2⟩ := delE_zero h
  obtain ⟨hp, hk⟩ := found_yes h2
  rw [← without_in (isL_sorted h1) hp hk]
  simp; omega
theorem without_is {l : List It} {k : List UInt8} (h : delE l k = 0) : isL (withoutL l k) = true := by
  obtain ⟨h1, h2⟩ := delE_zero h
  refine (isL_iff _).2 ⟨by have := without_len h; have := isL_len h1; omega, fun y hy => ?_, without_sorted (isL_sorted h1) k⟩
  exact isL_may h1 y (List.mem_filter.1 hy).1
theorem without_at {l : List It} {k : List UInt8} (h : delE l k = 0) : atL (withoutL l k) k = none := by
  unfold atL
  rw [List.find?_eq_none]
  intro y hy
  have := (List.mem_filter.1 hy).2
  simpa using this
theorem without_other {l : List It} {k' : List UInt8} (h : delE l k' = 0) {k : List UInt8} (hk : k ≠ k') : atL (withoutL l k') k = atL l k := by
  have hs := isL_sorted (delE_zero h).1
  apply Option.ext
  intro y
  rw [at_mem (without_sorted hs k'), at_mem hs]
  unfold withoutL
  rw [List.mem_filter]
  constructor
  · rintro ⟨⟨h1, _⟩, h2⟩; exact ⟨h1, h2⟩
  · rintro ⟨h1, h2⟩; exact ⟨⟨h1, by simp [h2, hk]⟩, h2⟩
def zI : It := ⟨[], ⟨0, 0, []⟩, 0⟩
def gI (l : List It) (k : List UInt8) : It := if isL l = true then (atL l k).getD zI else zI
def gB (l : List It) (k : List UInt8) : Bool := isL l && (atL l k).isSome
theorem getT_of (l : List It) (k : List UInt8) : getT l k = .tuple #[itV (gI l k), .bool (gB l k)] := by
  unfold getT gI gB
  cases hl : isL l with
  | false => rfl
  | true =>
    rw [if_pos rfl, if_pos rfl]
    cases atL l k <;> rfl
end Go.Proofs.YtbdfcgffkonbiaaDoor
namespace Go.Proofs.YtbdfcgffkonbiaaDoor
open Go Go.RowKit
set_option linter.unusedVariables false
set_option linter.unusedSimpArgs false
set_option maxRecDepth 100000 in
set_option maxHeartbeats 4000000 in
theorem refWith_any (v : Value) (l : List It) (x : It) (w : World) (h : RdI w v l) (hsz : SzI l) (hxk : x.key.length ≤ maxLen) (h66 : l.length ≤ 66) :
    Calls Tryd.prog 81 #[v, itV x] w (OwnI w (withL l x)) := by
  obtain ⟨i0, hi, hz0, hz1, hz2⟩ := info_parts item_info
  obtain ⟨ao, cap, rfl, hc, hm, hr⟩ := RdK.open h
  obtain ⟨w1, hw1⟩ : ∃ w1, w1 = w.alloc (.cells #[.string (str x.key), .int .i64 x.v.k, .int .i64 x.v.i, .string (str x.v.s), .int .i64 x.ver] 53) := ⟨_, rfl⟩
  have q1 : w1.heap[w.heap.size]? = some (.cells #[.string (str x.key), .int .i64 x.v.k, .int .i64 x.v.i, .string (str x.v.s), .int .i64 x.ver] 53 (0, 0)) := by rw [hw1]; exact heap_alloc_new _ _
  have b1 : Below w.heap.size w w1 := by rw [hw1]; exact (Below.refl _ _).alloc (Nat.le_refl _) _
  have z1 : w1.heap.size = w.heap.size + 1 := by rw [hw1, World.size_alloc]
  have HRD := Lib.hid (show RdI w1 (.slice ao l.length cap) l from RdI.below hr b1 (Nat.le_refl _))
  have HS := Lib.hid hsz
  have Q1 := Lib.hid q1
  have B1 := Lib.hid b1
  have Z1 := Lib.hid z1
  unfold itV
  clear h hr hsz q1 b1 z1
  go_enter Tryd.func81, Tryd.ntmps81
  go_wp2_with fail
  rw [← hw1]
  clear hw1
  go_loopw [5, 6] (fun out i wr => ∃ (j : Nat) (acc : List It), j ≤ l.length ∧ i = .int .i64 (j : Int) ∧ acc.length ≤ j ∧ Hid (acc = (l.take j).filter (fun y => ltB y.key x.key)) ∧ wr.ownsRow w1.heap.size 53 5 out acc.length (acc.flatMap itC) ∧ Below w1.heap.size w1 wr) (fun _ i _ => 100 - (intOf i).toNat)
  case atStart => exact ⟨0, [], Nat.zero_le _, rfl, Nat.le_refl _, rfl, World.ownsRow_nil _ _ _ _, Below.refl _ _⟩
  case round =>
    obtain ⟨j, acc, hj, rfl, hacc, HA, hown, bel⟩ := hrel
    have qx := (bel.block _ (lt_of_block Q1.out)).trans Q1.out
    obtain ⟨f0, f1, f2, f3, f4, fz⟩ := block_cells5 qx
    by_cases hlt : j < l.length
    · have R1 := HRD.out.below bel (Nat.le_refl _)
      obtain ⟨b, off, rfl, hb, c0, c1, c2, c3, c4⟩ := rdi_cells R1 j hlt
      obtain ⟨y, hy⟩ : ∃ y, y = l[j]'hlt := ⟨_, rfl⟩
      rw [← hy] at c0 c1 c2 c3 c4
      have hyk : y.key.length ≤ maxLen := by rw [hy]; exact (HS.out _ (List.getElem_mem _)).1
      have HY := Lib.hid hy
      have AQ0 := fun W => ahead_q y.key x.key W (by assumption) (by assumption)
      clear hy R1 qx
      cases ho : ltB y.key x.key with
      | true =>
        simp only [ho] at AQ0
        have AQH := Lib.hid AQ0
        have HN := Lib.hid (show acc ++ [y] = (l.take (j + 1)).filter (fun y => ltB y.key x.key) by rw [filter_succ hlt, HA.out, ← HY.out]; simp [ho])
        clear AQ0 ho
        go_wp2_with fail
        go_quiet ((go_at_call 101; exact Calls.quiet_of (AQH.out _)))
        have bel2 := below_drewN (k := nq) bel
        have hown3 := own_draw hown nq
        obtain ⟨wq, hwq⟩ : ∃ wq, wq = wr.drewN nq := ⟨_, rfl⟩
        have c0 : (wr.drewN nq).cell? ⟨b, off + j * 5, none⟩ = some (.string (str y.key)) := c0
        have c1 : (wr.drewN nq).cell? ⟨b, off + j * 5 + 1, none⟩ = some (.int .i64 y.v.k) := c1
        have c2 : (wr.drewN nq).cell? ⟨b, off + j * 5 + 2, none⟩ = some (.int .i64 y.v.i) := c2
        have c3 : (wr.drewN nq).cell? ⟨b, off + j * 5 + 3, none⟩ = some (.string (str y.v.s)) := c3
        have c4 : (wr.drewN nq).cell? ⟨b, off + j * 5 + 4, none⟩ = some (.int .i64 y.ver) := c4
        rw [← hwq] at bel2 hown3 c0 c1 c2 c3 c4 ⊢
        clear hwq hown bel
        go_wp2_with (at_builtin; refine wpList_app1k itC_len (by decide) w1 rfl (.tmp 22) (.tmp 27) 22 rfl w1.heap.size 53 i0 (.agg #[.string ⟨#[]⟩, .int .i64 0, .int .i64 0, .string ⟨#[]⟩, .int .i64 0]) 56 Tryd.underlying22 hi hz0 hz1 hz2 rfl _ _ rfl hown3 _ y _ rfl rfl itC_one (by unfold maxLen; omega) (by omega) (Nat.le_refl _) bel2 ?_; intro v' w9 hown2 hb2 hq2; clear hq2)
        exact ⟨⟨j + 1, acc ++ [y], by omega, by push_cast; rfl, by simp; omega, HN, hown2, hb2⟩, by simp [intOf]; omega⟩
      | false =>
        simp only [ho] at AQ0
        have AQH := Lib.hid AQ0
        have HN := Lib.hid (show acc = (l.take (j + 1)).filter (fun y => ltB y.key x.key) by rw [filter_succ hlt, HA.out, ← HY.out]; simp [ho])
        clear AQ0 ho
        go_wp2_with fail
        go_quiet ((go_at_call 101; exact Calls.quiet_of (AQH.out _)))
        have bel2 := below_drewN (k := nq) bel
        have hown3 := own_draw hown nq
        go_wp2_with fail
        exact ⟨⟨j + 1, acc, by omega, by push_cast; rfl, by omega, HN, hown3, bel2⟩, by simp [intOf]; omega⟩
    · obtain rfl : j = l.length := by omega
      have EP := Lib.hid (show acc = l.filter (fun y => ltB y.key x.key) by rw [HA.out, List.take_length])
      have hPl : acc.length ≤ l.length := by rw [EP.out]; exact List.length_filter_le _ _
      obtain ⟨PP, rfl⟩ : ∃ PP, PP = acc := ⟨_, rfl⟩
      clear HA hacc
      go_wp2_with (at_builtin; refine wpList_app1k itC_len (by decide) w1 rfl (.tmp 29) (.tmp 31) 22 rfl w1.heap.size 53 i0 (.agg #[.string ⟨#[]⟩, .int .i64 0, .int .i64 0, .string ⟨#[]⟩, .int .i64 0]) 56 Tryd.underlying22 hi hz0 hz1 hz2 rfl _ _ rfl hown _ x _ rfl rfl itC_one (by unfold maxLen; omega) (by omega) (Nat.le_refl _) bel ?_; intro v' w9 hown2 hb2 hq2; clear hq2)
      clear hown bel qx f0 f1 f2 f3 f4 fz
      go_loopw [5, 7] (fun out i wr => ∃ (j : Nat) (acc : List It), j ≤ l.length ∧ i = .int .i64 (j : Int) ∧ acc.length ≤ l.length + 1 + j ∧ Hid (acc = PP ++ [x] ++ (l.take j).filter (fun y => ltB x.key y.key)) ∧ wr.ownsRow w1.heap.size 53 5 out acc.length (acc.flatMap itC) ∧ Below w1.heap.size w1 wr) (fun _ i _ => 100 - (intOf i).toNat)
      case atStart => exact ⟨0, PP ++ [x], Nat.zero_le _, rfl, by simp; omega, Lib.hid (by simp), hown2, hb2⟩
      case round =>
        obtain ⟨j, acc, hj, rfl, hacc, HA, hown, bel⟩ := hrel
        have qx := (bel.block _ (lt_of_block Q1.out)).trans Q1.out
        obtain ⟨f0, f1, f2, f3, f4, fz⟩ := block_cells5 qx
        by_cases hlt : j < l.length
        · have R1 := HRD.out.below bel (Nat.le_refl _)
          obtain ⟨b, off, rfl, hb, c0, c1, c2, c3, c4⟩ := rdi_cells R1 j hlt
          obtain ⟨y, hy⟩ : ∃ y, y = l[j]'hlt := ⟨_, rfl⟩
          rw [← hy] at c0 c1 c2 c3 c4
          have hyk : y.key.length ≤ maxLen := by rw [hy]; exact (HS.out _ (List.getElem_mem _)).1
          have HY := Lib.hid hy
          have AQ0 := fun W => ahead_q x.key y.key W (by assumption) (by assumption)
          clear hy R1 qx
          cases ho : ltB x.key y.key with
          | true =>
            simp only [ho] at AQ0
            have AQH := Lib.hid AQ0
            have HN := Lib.hid (show acc ++ [y] = PP ++ [x] ++ (l.take (j + 1)).filter (fun y => ltB x.key y.key) by rw [filter_succ hlt, HA.out, ← HY.out]; simp [ho])
            clear AQ0 ho
            go_wp2_with fail
            go_quiet ((go_at_call 101; exact Calls.quiet_of (AQH.out _)))
            have bel2 := below_drewN (k := nq) bel
            have hown3 := own_draw hown nq
            obtain ⟨wq, hwq⟩ : ∃ wq, wq = wr.drewN nq := ⟨_, rfl⟩
            have c0 : (wr.drewN nq).cell? ⟨b, off + j * 5, none⟩ = some (.string (str y.key)) := c0
            have c1 : (wr.drewN nq).cell? ⟨b, off + j * 5 + 1, none⟩ = some (.int .i64 y.v.k) := c1
            have c2 : (wr.drewN nq).cell? ⟨b, off + j * 5 + 2, none⟩ = some (.int .i64 y.v.i) := c2
            have c3 : (wr.drewN nq).cell? ⟨b, off + j * 5 + 3, none⟩ = some (.string (str y.v.s)) := c3
            have c4 : (wr.drewN nq).cell? ⟨b, off + j * 5 + 4, none⟩ = some (.int .i64 y.ver) := c4
            rw [← hwq] at bel2 hown3 c0 c1 c2 c3 c4 ⊢
            clear hwq hown bel
            go_wp2_with (at_builtin; refine wpList_app1k itC_len (by decide) w1 rfl (.tmp 47) (.tmp 52) 22 rfl w1.heap.size 53 i0 (.agg #[.string ⟨#[]⟩, .int .i64 0, .int .i64 0, .string ⟨#[]⟩, .int .i64 0]) 56 Tryd.underlying22 hi hz0 hz1 hz2 rfl _ _ rfl hown3 _ y _ rfl rfl itC_one (by unfold maxLen; omega) (by omega) (Nat.le_refl _) bel2 ?_; intro v' w9 hown2 hb2 hq2; clear hq2)
            exact ⟨⟨j + 1, acc ++ [y], by omega, by push_cast; rfl, by simp; omega, HN, hown2, hb2⟩, by simp [intOf]; omega⟩
          | false =>
            simp only [ho] at AQ0
            have AQH := Lib.hid AQ0
            have HN := Lib.hid (show acc = PP ++ [x] ++ (l.take (j + 1)).filter (fun y => ltB x.key y.key) by rw [filter_succ hlt, HA.out, ← HY.out]; simp [ho])
            clear AQ0 ho
            go_wp2_with fail
            go_quiet ((go_at_call 101; exact Calls.quiet_of (AQH.out _)))
            have bel2 := below_drewN (k := nq) bel
            have hown3 := own_draw hown nq
            go_wp2_with fail
            exact ⟨⟨j + 1, acc, by omega, by push_cast; rfl, by omega, HN, hown3, bel2⟩, by simp [intOf]; omega⟩
        · obtain rfl : j = l.length := by omega
          have E := Lib.hid (show withL l x = acc by rw [HA.out, List.take_length, EP.out]; unfold withL; simp)
          go_wp2_with fail
          go_ret
          have e := E.out
          rw [e]
          exact ⟨_, rfl, own_up hown (by rw [Z1.out]; omega), B1.out.trans (bel.mono (by rw [Z1.out]; omega))⟩
end Go.Proofs.YtbdfcgffkonbiaaDoor
