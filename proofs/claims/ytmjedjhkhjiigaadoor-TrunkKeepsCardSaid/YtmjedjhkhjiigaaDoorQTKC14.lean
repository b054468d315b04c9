/- Leaves: the law's one and few, the document's At, Without, With, Same. Written by wip/tools/gen9d.py. -/
import Derived.Test.YtmjedjhkhjiigaaDoorQTKC13
namespace Go.Proofs.YtmjedjhkhjiigaaDoor
open Go Go.RowKit
set_option linter.unusedVariables false
set_option linter.unusedSimpArgs false
theorem item_info : (Tryd.prog.info? 32).map (fun i => (i.zero, i.size, i.bytes)) = some (some (.agg #[.string ⟨#[]⟩, .int .i64 0, .int .i64 0, .string ⟨#[]⟩, .int .i64 0]), 5, 56) := by kernel_rfl
theorem own_keep {w w' : World} {b : Nat} {e : TypeId} {size : Nat} {v : Value} {n : Nat} {xs : List Value} (h : w.ownsRow b e size v n xs) (hb : Below w.heap.size w w') : w'.ownsRow b e size v n xs := by
  refine ⟨h.1, ?_⟩
  rcases h.2 with h1 | ⟨g, cap, cur, rfl, h2, h3, h4⟩
  · exact .inl h1
  · exact .inr ⟨g, cap, cur, rfl, h2, (hb.block g (lt_of_block h3)).trans h3, h4⟩
theorem own_draw {w : World} {b : Nat} {e : TypeId} {size : Nat} {v : Value} {n : Nat} {xs : List Value} (h : w.ownsRow b e size v n xs) (k : Nat) : (w.drewN k).ownsRow b e size v n xs := own_keep h (below_drewN (Below.refl _ _))
/-- A call hands back a list of items of its own. -/
def OwnI (w : World) (l : List It) (e : Ending) (w' : World) : Prop := ∃ v', e = .returned v' ∧ w'.ownsRow w.heap.size 32 5 v' l.length (l.flatMap itC) ∧ Below w.heap.size w w'
theorem OwnI.rd {w w' : World} {v : Value} {b : Nat} {l : List It} (h : w'.ownsRow b 32 5 v l.length (l.flatMap itC)) : RdI w' v l := own_rdk itC_len h
def oneI (x : It) : It := ⟨x.key.take 60, ⟨x.v.k, x.v.i, x.v.s.take 200⟩, x.ver⟩
def fewL (l : List It) : List It := (l.take 66).map oneI
theorem take_map9 {f : It → It} {l : List It} {j : Nat} (h : j < l.length) : (l.take j).map f ++ [f l[j]] = (l.take (j + 1)).map f := by
  rw [List.take_add_one, List.getElem?_eq_getElem h, List.map_append]; rfl
theorem it_eq_same (x : It) (w : World) : (binOp .eql 32 (itV x) (itV x)).run Tryd.prog w = .ok (.bool true) w := by
  unfold itV; go_simp
theorem it_ne_same (x : It) (w : World) : (binOp .neq 32 (itV x) (itV x)).run Tryd.prog w = .ok (.bool false) w := by
  unfold itV; go_simp
/-- Where the document finds a key. -/
def AtR (l : List It) (k : List UInt8) (w : World) (e : Ending) (w' : World) : Prop := w = w' ∧ ∃ i : Int, e = .returned (.int .i64 i) ∧ ((i = -1 ∧ ∀ x ∈ l, x.key ≠ k) ∨ ∃ j, ∃ h : j < l.length, i = (j : Int) ∧ l[j].key = k)
set_option maxRecDepth 100000 in
theorem refAt_any (v : Value) (l : List It) (k : List UInt8) (w : World) (h : RdI w v l) :
    Calls Tryd.prog 63 #[v, .string (str k)] w (AtR l k w) := by
  obtain ⟨ao, cap, rfl, hc, hm, hr⟩ := RdK.open h
  have hr : RdI w (.slice ao l.length cap) l := hr
  have HRD := Lib.hid hr
  clear h hr
  go_enter Tryd.func63, Tryd.ntmps63
  go_wp2_with fail
  go_loop [5] (fun i => ∃ j : Nat, j ≤ l.length ∧ i = .int .i64 (j : Int) ∧ Hid (∀ x ∈ l.take j, x.key ≠ k)) (fun i => l.length - (intOf i).toNat)
  case atStart => exact ⟨0, Nat.zero_le _, rfl, fun x hx => by simp at hx⟩
  case round =>
    obtain ⟨j, hj, rfl, H0⟩ := hrel
    by_cases hlt : j < l.length
    · have hr := HRD.out
      obtain ⟨b, off, rfl, hb, c0, -⟩ := rdi_cells hr j hlt
      obtain ⟨x, hx⟩ : ∃ x, x = l[j]'hlt := ⟨_, rfl⟩
      rw [← hx] at c0
      have HX := Lib.hid hx
      clear hx hr
      by_cases he : x.key = k
      · have q1 : ((str x.key).toList == (str k).toList) = true := by rw [eq_str]; simp [he]
        have HE := Lib.hid he
        clear he
        go_wp2_with fail
        go_ret
        exact ⟨rfl, (j : Int), rfl, .inr ⟨j, hlt, rfl, by rw [← HX.out]; exact HE.out⟩⟩
      · have q1 : ((str x.key).toList == (str k).toList) = false := by rw [eq_str]; simp [he]
        have H1 : Hid (∀ x ∈ l.take (j + 1), x.key ≠ k) := Lib.hid (fun y hy => by
          rw [List.take_add_one, List.getElem?_eq_getElem hlt] at hy
          rcases List.mem_append.1 hy with h1 | h1
          · exact H0.out y h1
          · simp at h1; rw [h1, ← HX.out]; exact he)
        clear he
        go_wp2_with fail
        exact ⟨⟨j + 1, by omega, by push_cast; rfl, H1⟩, by simp [intOf]; omega⟩
    · obtain rfl : j = l.length := by omega
      go_wp2_with fail
      go_ret
      exact ⟨rfl, -1, rfl, .inl ⟨rfl, by have := H0.out; rwa [List.take_length] at this⟩⟩
theorem filter_succ {f : It → Bool} {l : List It} {j : Nat} (h : j < l.length) : (l.take (j + 1)).filter f = (l.take j).filter f ++ (if f l[j] then [l[j]] else []) := by
  rw [List.take_add_one, List.getElem?_eq_getElem h, List.filter_append]
  by_cases hf : f l[j] = true <;> simp [hf]
theorem ne_str (a b : List UInt8) : ((str a).toList != (str b).toList) = !decide (a = b) := by
  show (!((str a).toList == (str b).toList)) = _
  rw [eq_str]
set_option maxRecDepth 100000 in
set_option maxHeartbeats 1000000 in
theorem refWithout_any (v : Value) (l : List It) (k : List UInt8) (w : World) (h : RdI w v l) (h66 : l.length ≤ 66) :
    Calls Tryd.prog 74 #[v, .string (str k)] w (OwnI w (withoutL l k)) := by
  obtain ⟨i0, hi, hz0, hz1, hz2⟩ := info_parts item_info
  obtain ⟨ao, cap, rfl, hc, hm, hr⟩ := RdK.open h
  have hr : RdI w (.slice ao l.length cap) l := hr
  have HRD := Lib.hid hr
  clear h hr
  go_enter Tryd.func74, Tryd.ntmps74
  go_wp2_with fail
  go_loopw [5, 6] (fun out i wr => ∃ (j : Nat) (acc : List It), j ≤ l.length ∧ i = .int .i64 (j : Int) ∧ acc.length ≤ j ∧ Hid (acc = (l.take j).filter (fun x => decide (x.key ≠ k))) ∧ wr.ownsRow w.heap.size 32 5 out acc.length (acc.flatMap itC) ∧ Below w.heap.size w wr) (fun _ i _ => 100 - (intOf i).toNat)
  case atStart => exact ⟨0, [], Nat.zero_le _, rfl, Nat.le_refl _, rfl, World.ownsRow_nil _ _ _ _, Below.refl _ _⟩
  case round =>
    obtain ⟨j, acc, hj, rfl, hacc, HA, hown, bel⟩ := hrel
    by_cases hlt : j < l.length
    · have hr := HRD.out
      have R1 := hr.below bel (Nat.le_refl _)
      obtain ⟨b, off, rfl, hb, c0, c1, c2, c3, c4⟩ := rdi_cells R1 j hlt
      obtain ⟨x, hx⟩ : ∃ x, x = l[j]'hlt := ⟨_, rfl⟩
      rw [← hx] at c0 c1 c2 c3 c4
      have HX := Lib.hid hx
      clear hx hr R1
      by_cases he : x.key = k
      · have q1 : ((str x.key).toList != (str k).toList) = false := by rw [ne_str]; simp [he]
        have q2 : ((str x.key).toList == (str k).toList) = true := by rw [eq_str]; simp [he]
        have HN := Lib.hid (show acc = (l.take (j + 1)).filter (fun x => decide (x.key ≠ k)) by rw [filter_succ hlt, HA.out, ← HX.out]; simp [he])
        clear he
        go_wp2_with fail
        exact ⟨⟨j + 1, acc, by omega, by push_cast; rfl, by omega, HN, hown, bel⟩, by simp [intOf]; omega⟩
      · have q1 : ((str x.key).toList != (str k).toList) = true := by rw [ne_str]; simp [he]
        have q2 : ((str x.key).toList == (str k).toList) = false := by rw [eq_str]; simp [he]
        have HN := Lib.hid (show acc ++ [x] = (l.take (j + 1)).filter (fun x => decide (x.key ≠ k)) by rw [filter_succ hlt, HA.out, ← HX.out]; simp [he])
        clear he
        go_wp2_with (at_builtin; refine wpList_app1k itC_len (by decide) w rfl (.tmp 20) (.tmp 25) 22 rfl w.heap.size 32 i0 (.agg #[.string ⟨#[]⟩, .int .i64 0, .int .i64 0, .string ⟨#[]⟩, .int .i64 0]) 56 Tryd.underlying22 hi hz0 hz1 hz2 rfl _ _ rfl hown _ x _ rfl rfl itC_one (by unfold maxLen; omega) (by omega) (Nat.le_refl _) bel ?_; intro v' w1 hown2 hb2 hq2; clear hq2)
        exact ⟨⟨j + 1, acc ++ [x], by omega, by push_cast; rfl, by simp; omega, HN, hown2, hb2⟩, by simp [intOf]; omega⟩
    · obtain rfl : j = l.length := by omega
      have E := Lib.hid (show withoutL l k = acc by rw [HA.out, List.take_length]; rfl)
      go_wp2_with fail
      go_ret
      have e := E.out
      rw [e]
      exact ⟨_, rfl, hown, bel⟩
set_option maxRecDepth 100000 in
set_option maxHeartbeats 1000000 in
theorem refSame_yes (v u : Value) (l : List It) (w : World) (h : RdI w v l) (hu : RdI w u l) (h66 : l.length ≤ 100) :
    Calls Tryd.prog 41 #[v, u] w fun e w' => e = .returned (.bool true) ∧ ∃ n, w' = w.drewN n := by
  obtain ⟨ao, cap, rfl, hc, hm, hr⟩ := RdK.open h
  obtain ⟨ao2, cap2, rfl, hc2, hm2, hr2⟩ := RdK.open hu
  have hr : RdI w (.slice ao l.length cap) l := hr
  have hr2 : RdI w (.slice ao2 l.length cap2) l := hr2
  have HRD := Lib.hid hr
  have HRD2 := Lib.hid hr2
  clear h hr hu hr2
  go_enter Tryd.func41, Tryd.ntmps41
  go_wp2_with fail
  go_loopw [5] (fun i wr => ∃ (j n0 : Nat), j ≤ l.length ∧ i = .int .i64 (j : Int) ∧ Hid (wr = w.drewN n0)) (fun i _ => 200 - (intOf i).toNat)
  case atStart => exact ⟨0, 0, Nat.zero_le _, rfl, (rfl : w = w.drewN 0)⟩
  case round =>
    obtain ⟨j, n0, hj, rfl, HW⟩ := hrel
    by_cases hlt : j < l.length
    · have bel : Below w.heap.size w wr := by rw [HW.out]; exact below_drewN (Below.refl _ _)
      have hr := HRD.out
      have R1 := hr.below bel (Nat.le_refl _)
      obtain ⟨b, off, rfl, hb, c0, c1, c2, c3, c4⟩ := rdi_cells R1 j hlt
      have hr2 := HRD2.out
      have R2 := hr2.below bel (Nat.le_refl _)
      obtain ⟨b2, off2, rfl, hb2, d0, d1, d2, d3, d4⟩ := rdi_cells R2 j hlt
      obtain ⟨x, hx⟩ : ∃ x, x = l[j]'hlt := ⟨_, rfl⟩
      rw [← hx] at c0 c1 c2 c3 c4 d0 d1 d2 d3 d4
      have NE := fun W => it_ne_same x W
      unfold itV at NE
      clear hx hr hr2 R1 R2
      go_wp2_with fail
      go_quiet (fail)
      have bel2 : Hid (wr.drewN nq = w.drewN (n0 + nq)) := by have h := HW.out; exact Lib.hid (by rw [h, World.drewN_drewN])
      go_wp2_with fail
      exact ⟨⟨j + 1, n0 + nq, by omega, by push_cast; rfl, bel2⟩, by simp [intOf]; omega⟩
    · obtain rfl : j = l.length := by omega
      go_wp2_with fail
      go_ret
      exact ⟨rfl, _, HW.out⟩
end Go.Proofs.YtmjedjhkhjiigaaDoor
