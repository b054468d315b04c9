/- Leaves: is it one, where a key stands; the law's shorter lists. Written by wip/tools/gen9c.py. -/
/- Leaves: the law's one and few, the document's At, Without, With, Same. Written by wip/tools/gen9d.py. -/
import Derived.Test.YtbdfcgffkonbiaaDoorQST6
namespace Go.Proofs.YtbdfcgffkonbiaaDoor
open Go Go.RowKit
set_option linter.unusedVariables false
set_option linter.unusedSimpArgs false
theorem isL_cases (l : List It) : (isL l = true ∧ (chkL l).1 = 0) ∨ (isL l = false ∧ 1 ≤ (chkL l).1) := by
  unfold isL
  cases h : (chkL l).1 with
  | zero => exact .inl ⟨rfl, rfl⟩
  | succ n => exact .inr ⟨rfl, by omega⟩
theorem cast_eq0 {n : Nat} (h : n = 0) : ((n : Int) == 0) = true := by simp [h]
theorem cast_ne0 {n : Nat} (h : 1 ≤ n) : ((n : Int) == 0) = false := by simp; omega
set_option maxRecDepth 100000 in
theorem is9_any (v : Value) (l : List It) (w : World) (tab : TabAt w) (h : RdI w v l) (hsz : SzI l) :
    Calls Tryd.prog 112 #[v] w fun e w' => e = .returned (.bool (isL l)) ∧ Below w.heap.size w w' := by
  have C := check_any v l w tab h hsz
  obtain ⟨a, ha⟩ : ∃ a : Nat, a = (chkL l).1 := ⟨_, rfl⟩
  obtain ⟨b, hb⟩ : ∃ b : Nat, b = (chkL l).2 := ⟨_, rfl⟩
  rw [← ha, ← hb] at C
  rcases isL_cases l with ⟨h1, h2⟩ | ⟨h1, h2⟩
  · rw [h1]
    rw [← ha] at h2
    have e0 := cast_eq0 h2
    clear ha hb h1 h2
    go_enter Tryd.func112, Tryd.ntmps112
    go_wp2_with fail
    refine C.mono ?_
    rintro e w1 ⟨rfl, g⟩
    go_wp2_with fail
    go_ret
    exact ⟨rfl, g⟩
  · rw [h1]
    rw [← ha] at h2
    have e0 := cast_ne0 h2
    clear ha hb h1 h2
    go_enter Tryd.func112, Tryd.ntmps112
    go_wp2_with fail
    refine C.mono ?_
    rintro e w1 ⟨rfl, g⟩
    go_wp2_with fail
    go_ret
    exact ⟨rfl, g⟩
set_option maxRecDepth 100000 in
theorem refIs9_any (v : Value) (l : List It) (w : World) (tab : TabAt w) (h : RdI w v l) (hsz : SzI l) :
    Calls Tryd.prog 114 #[v] w fun e w' => e = .returned (.bool (isL l)) ∧ Below w.heap.size w w' := by
  have C := refCheck_any v l w tab h hsz
  obtain ⟨a, ha⟩ : ∃ a : Nat, a = (chkL l).1 := ⟨_, rfl⟩
  obtain ⟨b, hb⟩ : ∃ b : Nat, b = (chkL l).2 := ⟨_, rfl⟩
  rw [← ha, ← hb] at C
  rcases isL_cases l with ⟨h1, h2⟩ | ⟨h1, h2⟩
  · rw [h1]
    rw [← ha] at h2
    have e0 := cast_eq0 h2
    clear ha hb h1 h2
    go_enter Tryd.func114, Tryd.ntmps114
    go_wp2_with fail
    refine C.mono ?_
    rintro e w1 ⟨rfl, g⟩
    go_wp2_with fail
    go_ret
    exact ⟨rfl, g⟩
  · rw [h1]
    rw [← ha] at h2
    have e0 := cast_ne0 h2
    clear ha hb h1 h2
    go_enter Tryd.func114, Tryd.ntmps114
    go_wp2_with fail
    refine C.mono ?_
    rintro e w1 ⟨rfl, g⟩
    go_wp2_with fail
    go_ret
    exact ⟨rfl, g⟩
/-- Does the key stand there? -/
def foundL (l : List It) (k : List UInt8) : Bool := match l[posL l k]? with | some x => decide (x.key = k) | none => false
theorem found_yes {l : List It} {k : List UInt8} (h : foundL l k = true) : ∃ h : posL l k < l.length, l[posL l k].key = k := by
  unfold foundL at h
  by_cases hp : posL l k < l.length
  · rw [List.getElem?_eq_getElem hp] at h
    exact ⟨hp, by simpa using h⟩
  · rw [List.getElem?_eq_none (by omega)] at h; cases h
theorem found_no {l : List It} {k : List UInt8} (h : foundL l k = false) : ∀ h : posL l k < l.length, l[posL l k].key ≠ k := by
  intro hp
  unfold foundL at h
  rw [List.getElem?_eq_getElem hp] at h
  simpa using h
set_option maxRecDepth 100000 in
set_option maxHeartbeats 1000000 in
theorem find_any (v : Value) (l : List It) (k : List UInt8) (w : World) (h : RdI w v l) (h64 : l.length ≤ 64) (hs : l.Pairwise (fun a b => ltB a.key b.key = true)) :
    Calls Tryd.prog 119 #[v, .string (str k)] w fun e w' => e = .returned (.tuple #[.int .i64 (posL l k : Int), .bool (foundL l k)]) ∧ ∃ n, w' = w.drewN n := by
  obtain ⟨ao, cap, rfl, hc, hm, hr⟩ := RdK.open h
  have hr : RdI w (.slice ao l.length cap) l := hr
  have HRD := Lib.hid hr
  have SO := Lib.hid hs
  clear h hr hs
  go_enter Tryd.func119, Tryd.ntmps119
  go_wp2
  go_step3
  go_wp2
  go_step3
  go_wp2
  go_loop [6, 7] (fun a b => ∃ lo hi : Nat, a = .int .i64 (lo : Int) ∧ b = .int .i64 (hi : Int) ∧ lo ≤ hi ∧ hi ≤ l.length ∧ Hid (∀ i (h : i < l.length), i < lo → ltB l[i].key k = true) ∧ Hid (∀ i (h : i < l.length), hi ≤ i → ltB l[i].key k = false)) (fun a b => (intOf b).toNat - (intOf a).toNat)
  case atStart => exact ⟨0, l.length, rfl, rfl, by omega, by omega, fun i _ h => by omega, fun i _ h => by omega⟩
  case round =>
    obtain ⟨lo, hi, rfl, rfl, h1, h2, B1, B2⟩ := hrel
    by_cases hlt : lo < hi
    · obtain ⟨m, hm⟩ : ∃ m : Nat, m = (lo + hi) / 2 := ⟨_, rfl⟩
      have e1 : ((lo : Int) + (hi : Int)) / 2 = (m : Int) := by omega
      have e2 : ((lo : Int) + (hi : Int)).tdiv 2 = (m : Int) := by rw [Int.tdiv_eq_ediv_of_nonneg (by omega)]; exact e1
      have e3 : (lo + hi) / 2 = m := by omega
      have m1 : lo ≤ m := by omega
      have m2 : m < hi := by omega
      have m3 : m < l.length := by omega
      clear hm
      have hr := HRD.out
      obtain ⟨b, off, rfl, hb, c0, -⟩ := rdi_cells hr m m3
      obtain ⟨y, hy⟩ : ∃ y, y = l[m]'m3 := ⟨_, rfl⟩
      rw [← hy] at c0
      by_cases hyk : y.key = k
      · have q1 : ((str y.key).toList == (str k).toList) = true := by rw [eq_str]; simp [hyk]
        have PP : posL l k = m := posL_of (by omega) (fun i hi2 hi3 => by have := sorted_at SO.out hi3 m3; rwa [← hy, hyk] at this) (fun _ => by rw [← hy, hyk]; exact ltB_self k)
        have HP := Lib.hid PP
        have FD := Lib.hid (show foundL l k = true by unfold foundL; rw [PP, List.getElem?_eq_getElem m3, ← hy]; simp [hyk])
        clear hy hyk hr PP
        go_wp2_with fail
        go_quiet (fail)
        go_wp2_with fail
        simp only [Exit.noGoto]
        go_ret2
        exact ⟨by rw [HP.out, FD.out]; rfl, nq, rfl⟩
      · have q1 : ((str y.key).toList == (str k).toList) = false := by rw [eq_str]; simp [hyk]
        have q2 := less_str y.key k
        cases hlk : ltB y.key k with
        | true =>
          rw [hlk] at q2
          have B3 : Hid (∀ i (h : i < l.length), i < m + 1 → ltB l[i].key k = true) := Lib.hid (fun i h hi3 => by
            rcases Nat.lt_or_eq_of_le (show i ≤ m by omega) with h4 | h4
            · exact lt_trans (by have := sorted_at SO.out h4 m3; rwa [← hy] at this) hlk
            · subst h4; rw [← hy]; exact hlk)
          clear hy hyk hr hlk
          go_wp2_with fail
          exact ⟨⟨m + 1, hi, by push_cast; rfl, rfl, by omega, by omega, B3, B2⟩, by simp [intOf]; omega⟩
        | false =>
          rw [hlk] at q2
          have B3 : Hid (∀ i (h : i < l.length), m ≤ i → ltB l[i].key k = false) := Lib.hid (fun i h hi3 => by
            cases hc : ltB l[i].key k with
            | false => rfl
            | true =>
              rcases Nat.lt_or_eq_of_le hi3 with h4 | h4
              · have := lt_trans (sorted_at SO.out h4 h) hc
                rw [← hy, hlk] at this; cases this
              · subst h4; rw [← hy, hlk] at hc; cases hc)
          clear hy hyk hr hlk
          go_wp2_with fail
          exact ⟨⟨lo, m, rfl, rfl, by omega, by omega, B1, B3⟩, by simp [intOf]; omega⟩
    · obtain rfl : lo = hi := by omega
      have PP : posL l k = lo := posL_of (by omega) (fun i hi2 hi3 => B1.out i hi2 hi3) (fun h => B2.out lo h (Nat.le_refl _))
      obtain ⟨p, hpm⟩ : ∃ p, p = lo := ⟨_, rfl⟩
      subst hpm
      have HP := Lib.hid (show posL l k = p from PP)
      clear PP
      by_cases hp : p < l.length
      · have hr := HRD.out
        obtain ⟨b2, off2, hbo, hb2, e0, -⟩ := rdi_cells hr p hp
        cases hbo
        obtain ⟨z, hz⟩ : ∃ z, z = l[p]'hp := ⟨_, rfl⟩
        rw [← hz] at e0
        by_cases hzk : z.key = k
        · have FD := Lib.hid (show foundL l k = true by unfold foundL; rw [HP.out, List.getElem?_eq_getElem hp, ← hz]; simp [hzk])
          have hs1 : ((str z.key).toList == (str k).toList) = true := by rw [eq_str]; simp [hzk]
          clear hz hzk hr
          go_wp2_with fail
          go_quiet (fail)
          go_wp2_with fail
          simp only [Exit.noGoto]
          go_ret2
          exact ⟨by rw [HP.out, FD.out]; rfl, nq, rfl⟩
        · have FD := Lib.hid (show foundL l k = false by unfold foundL; rw [HP.out, List.getElem?_eq_getElem hp, ← hz]; simp [hzk])
          have hs1 : ((str z.key).toList == (str k).toList) = false := by rw [eq_str]; simp [hzk]
          clear hz hzk hr
          go_wp2_with fail
          go_quiet (fail)
          go_wp2_with fail
          simp only [Exit.noGoto]
          go_ret2
          exact ⟨by rw [HP.out, FD.out]; rfl, nq, rfl⟩
      · have FD := Lib.hid (show foundL l k = false by unfold foundL; rw [HP.out, List.getElem?_eq_none (by omega)])
        have hpn : decide ((p : Int) < (l.length : Int)) = false := decide_eq_false (by omega)
        have hpn2 : decide (p < l.length) = false := decide_eq_false hp
        go_wp2_with fail
        go_quiet (fail)
        go_wp2_with fail
        simp only [Exit.noGoto]
        go_ret2
        exact ⟨by rw [HP.out, FD.out]; rfl, nq, rfl⟩
end Go.Proofs.YtbdfcgffkonbiaaDoor
namespace Go.Proofs.YtbdfcgffkonbiaaDoor
open Go Go.RowKit
set_option linter.unusedVariables false
set_option linter.unusedSimpArgs false
theorem item_info : (Tryd.prog.info? 53).map (fun i => (i.zero, i.size, i.bytes)) = some (some (.agg #[.string ⟨#[]⟩, .int .i64 0, .int .i64 0, .string ⟨#[]⟩, .int .i64 0]), 5, 56) := by kernel_rfl
theorem own_keep {w w' : World} {b : Nat} {e : TypeId} {size : Nat} {v : Value} {n : Nat} {xs : List Value} (h : w.ownsRow b e size v n xs) (hb : Below w.heap.size w w') : w'.ownsRow b e size v n xs := by
  refine ⟨h.1, ?_⟩
  rcases h.2 with h1 | ⟨g, cap, cur, rfl, h2, h3, h4⟩
  · exact .inl h1
  · exact .inr ⟨g, cap, cur, rfl, h2, (hb.block g (lt_of_block h3)).trans h3, h4⟩
theorem own_draw {w : World} {b : Nat} {e : TypeId} {size : Nat} {v : Value} {n : Nat} {xs : List Value} (h : w.ownsRow b e size v n xs) (k : Nat) : (w.drewN k).ownsRow b e size v n xs := own_keep h (below_drewN (Below.refl _ _))
/-- A call hands back a list of items of its own. -/
def OwnI (w : World) (l : List It) (e : Ending) (w' : World) : Prop := ∃ v', e = .returned v' ∧ w'.ownsRow w.heap.size 53 5 v' l.length (l.flatMap itC) ∧ Below w.heap.size w w'
theorem OwnI.rd {w w' : World} {v : Value} {b : Nat} {l : List It} (h : w'.ownsRow b 53 5 v l.length (l.flatMap itC)) : RdI w' v l := own_rdk itC_len h
def oneI (x : It) : It := ⟨x.key.take 60, ⟨x.v.k, x.v.i, x.v.s.take 200⟩, x.ver⟩
def fewL (l : List It) : List It := (l.take 66).map oneI
theorem take_map9 {f : It → It} {l : List It} {j : Nat} (h : j < l.length) : (l.take j).map f ++ [f l[j]] = (l.take (j + 1)).map f := by
  rw [List.take_add_one, List.getElem?_eq_getElem h, List.map_append]; rfl
theorem it_eq_same (x : It) (w : World) : (binOp .eql 53 (itV x) (itV x)).run Tryd.prog w = .ok (.bool true) w := by
  unfold itV; go_simp
theorem it_ne_same (x : It) (w : World) : (binOp .neq 53 (itV x) (itV x)).run Tryd.prog w = .ok (.bool false) w := by
  unfold itV; go_simp
/-- Where the document finds a key. -/
def AtR (l : List It) (k : List UInt8) (w : World) (e : Ending) (w' : World) : Prop := w = w' ∧ ∃ i : Int, e = .returned (.int .i64 i) ∧ ((i = -1 ∧ ∀ x ∈ l, x.key ≠ k) ∨ ∃ j, ∃ h : j < l.length, i = (j : Int) ∧ l[j].key = k)
set_option maxRecDepth 100000 in
theorem refAt_any (v : Value) (l : List It) (k : List UInt8) (w : World) (h : RdI w v l) :
    Calls Tryd.prog 71 #[v, .string (str k)] w (AtR l k w) := by
  obtain ⟨ao, cap, rfl, hc, hm, hr⟩ := RdK.open h
  have hr : RdI w (.slice ao l.length cap) l := hr
  have HRD := Lib.hid hr
  clear h hr
  go_enter Tryd.func71, Tryd.ntmps71
  go_wp2_with fail
  go_loop [5] (fun i => ∃ j : Nat, j ≤ l.length ∧ i = .int .i64 (j : Int) ∧ Hid (∀ x ∈ l.take j, x.key ≠ k)) (fun i => l.length - (intOf i).toNat)
  case atStart => exact ⟨0, Nat.zero_le _, rfl, fun x hx => by simp at hx⟩
  case round =>
    obtain ⟨j, hj, rfl, H0⟩ := hrel
    by_cases hlt : j < l.length
    · have hr := HRD.out
      obtain ⟨b, off, rfl, hb, c0, -⟩ := rdi_cells hr j hlt
      obtain ⟨x, hx⟩ : ∃ x, x = l[j]'hlt := ⟨_, rfl⟩
      rw [← hx] at c0
      have HX := Lib.hid hx
      clear hx hr
      by_cases he : x.key = k
      · have q1 : ((str x.key).toList == (str k).toList) = true := by rw [eq_str]; simp [he]
        have HE := Lib.hid he
        clear he
        go_wp2_with fail
        go_ret
        exact ⟨rfl, (j : Int), rfl, .inr ⟨j, hlt, rfl, by rw [← HX.out]; exact HE.out⟩⟩
      · have q1 : ((str x.key).toList == (str k).toList) = false := by rw [eq_str]; simp [he]
        have H1 : Hid (∀ x ∈ l.take (j + 1), x.key ≠ k) := Lib.hid (fun y hy => by
          rw [List.take_add_one, List.getElem?_eq_getElem hlt] at hy
          rcases List.mem_append.1 hy with h1 | h1
          · exact H0.out y h1
          · simp at h1; rw [h1, ← HX.out]; exact he)
        clear he
        go_wp2_with fail
        exact ⟨⟨j + 1, by omega, by push_cast; rfl, H1⟩, by simp [intOf]; omega⟩
    · obtain rfl : j = l.length := by omega
      go_wp2_with fail
      go_ret
      exact ⟨rfl, -1, rfl, .inl ⟨rfl, by have := H0.out; rwa [List.take_length] at this⟩⟩
theorem filter_succ {f : It → Bool} {l : List It} {j : Nat} (h : j < l.length) : (l.take (j + 1)).filter f = (l.take j).filter f ++ (if f l[j] then [l[j]] else []) := by
  rw [List.take_add_one, List.getElem?_eq_getElem h, List.filter_append]
  by_cases hf : f l[j] = true <;> simp [hf]
theorem ne_str (a b : List UInt8) : ((str a).toList != (str b).toList) = !decide (a = b) := by
  show (!((str a).toList == (str b).toList)) = _
  rw [eq_str]
set_option maxRecDepth 100000 in
set_option maxHeartbeats 1000000 in
theorem refWithout_any (v : Value) (l : List It) (k : List UInt8) (w : World) (h : RdI w v l) (h66 : l.length ≤ 66) :
    Calls Tryd.prog 107 #[v, .string (str k)] w (OwnI w (withoutL l k)) := by
  obtain ⟨i0, hi, hz0, hz1, hz2⟩ := info_parts item_info
  obtain ⟨ao, cap, rfl, hc, hm, hr⟩ := RdK.open h
  have hr : RdI w (.slice ao l.length cap) l := hr
  have HRD := Lib.hid hr
  clear h hr
  go_enter Tryd.func107, Tryd.ntmps107
  go_wp2_with fail
  go_loopw [5, 6] (fun out i wr => ∃ (j : Nat) (acc : List It), j ≤ l.length ∧ i = .int .i64 (j : Int) ∧ acc.length ≤ j ∧ Hid (acc = (l.take j).filter (fun x => decide (x.key ≠ k))) ∧ wr.ownsRow w.heap.size 53 5 out acc.length (acc.flatMap itC) ∧ Below w.heap.size w wr) (fun _ i _ => 100 - (intOf i).toNat)
  case atStart => exact ⟨0, [], Nat.zero_le _, rfl, Nat.le_refl _, rfl, World.ownsRow_nil _ _ _ _, Below.refl _ _⟩
  case round =>
    obtain ⟨j, acc, hj, rfl, hacc, HA, hown, bel⟩ := hrel
    by_cases hlt : j < l.length
    · have hr := HRD.out
      have R1 := hr.below bel (Nat.le_refl _)
      obtain ⟨b, off, rfl, hb, c0, c1, c2, c3, c4⟩ := rdi_cells R1 j hlt
      obtain ⟨x, hx⟩ : ∃ x, x = l[j]'hlt := ⟨_, rfl⟩
      rw [← hx] at c0 c1 c2 c3 c4
      have HX := Lib.hid hx
      clear hx hr R1
      by_cases he : x.key = k
      · have q1 : ((str x.key).toList != (str k).toList) = false := by rw [ne_str]; simp [he]
        have q2 : ((str x.key).toList == (str k).toList) = true := by rw [eq_str]; simp [he]
        have HN := Lib.hid (show acc = (l.take (j + 1)).filter (fun x => decide (x.key ≠ k)) by rw [filter_succ hlt, HA.out, ← HX.out]; simp [he])
        clear he
        go_wp2_with fail
        exact ⟨⟨j + 1, acc, by omega, by push_cast; rfl, by omega, HN, hown, bel⟩, by simp [intOf]; omega⟩
      · have q1 : ((str x.key).toList != (str k).toList) = true := by rw [ne_str]; simp [he]
        have q2 : ((str x.key).toList == (str k).toList) = false := by rw [eq_str]; simp [he]
        have HN := Lib.hid (show acc ++ [x] = (l.take (j + 1)).filter (fun x => decide (x.key ≠ k)) by rw [filter_succ hlt, HA.out, ← HX.out]; simp [he])
        clear he
        go_wp2_with (at_builtin; refine wpList_app1k itC_len (by decide) w rfl (.tmp 20) (.tmp 25) 22 rfl w.heap.size 53 i0 (.agg #[.string ⟨#[]⟩, .int .i64 0, .int .i64 0, .string ⟨#[]⟩, .int .i64 0]) 56 Tryd.underlying22 hi hz0 hz1 hz2 rfl _ _ rfl hown _ x _ rfl rfl itC_one (by unfold maxLen; omega) (by omega) (Nat.le_refl _) bel ?_; intro v' w1 hown2 hb2 hq2; clear hq2)
        exact ⟨⟨j + 1, acc ++ [x], by omega, by push_cast; rfl, by simp; omega, HN, hown2, hb2⟩, by simp [intOf]; omega⟩
    · obtain rfl : j = l.length := by omega
      have E := Lib.hid (show withoutL l k = acc by rw [HA.out, List.take_length]; rfl)
      go_wp2_with fail
      go_ret
      have e := E.out
      rw [e]
      exact ⟨_, rfl, hown, bel⟩
end Go.Proofs.YtbdfcgffkonbiaaDoor
