/- Leaves: the items of a range; the law LeafScans. Written by wip/tools/gen9s.py. -/
import Derived.Test.YtcehgfganjdghaaDoorK9L
namespace Go.Proofs.YtcehgfganjdghaaDoor
open Go Go.RowKit
set_option linter.unusedVariables false
set_option linter.unusedSimpArgs false
def inK (k f t : List UInt8) : Bool := isB k && patB f && patB t && !ltB k f && (decide (t = []) || ltB k t)
def stepS (f t : List UInt8) (most : Int) (acc : List It) (x : It) : List It := if (acc.length : Int) < most ∧ inK x.key f t = true then acc ++ [x] else acc
def scanF (f t : List UInt8) (most : Int) (l : List It) : List It := l.foldl (stepS f t most) []
def scanR (f t : List UInt8) (most : Int) (l : List It) : List It := if isL l = true then scanF f t most l else []
theorem scan_succ {f t : List UInt8} {most : Int} {l : List It} {j : Nat} (h : j < l.length) : scanF f t most (l.take (j + 1)) = stepS f t most (scanF f t most (l.take j)) l[j] := by
  unfold scanF; rw [List.take_add_one, List.getElem?_eq_getElem h, List.foldl_append]; rfl
theorem step_len (f t : List UInt8) (most : Int) (acc : List It) (x : It) : (stepS f t most acc x).length ≤ acc.length + 1 := by
  unfold stepS; split <;> simp
theorem fold_len (f t : List UInt8) (most : Int) : ∀ (l acc : List It), (l.foldl (stepS f t most) acc).length ≤ acc.length + l.length
  | [], acc => by simp
  | x :: r, acc => by
    have h1 := fold_len f t most r (stepS f t most acc x)
    have h2 := step_len f t most acc x
    simp only [List.foldl_cons, List.length_cons]; omega
theorem scan_len (f t : List UInt8) (most : Int) (l : List It) : (scanF f t most l).length ≤ l.length := by
  have := fold_len f t most l []; simpa [scanF] using this
theorem short_any (s : List UInt8) (w : World) (hs : s.length ≤ maxLen) :
    Calls Tryd.prog 17 #[.string (str s)] w fun e w' => e = .returned (.string (str (s.take 60))) ∧ w = w' := by
  unfold maxLen at hs
  have h1 : (str s).size = s.length := str_size s
  by_cases h : 60 < s.length
  · have hx : (str s).extract 0 60 = str (s.take 60) := by rw [k8str_extract]; simp
    go_enter Tryd.func17, Tryd.ntmps17
    go_wp2_with fail
    go_ret
    exact ⟨ret_str rfl, rfl⟩
  · rw [List.take_of_length_le (by omega)]
    go_enter Tryd.func17, Tryd.ntmps17
    go_wp2_with fail
    go_ret
    exact ⟨rfl, rfl⟩
set_option maxRecDepth 100000 in
set_option maxHeartbeats 2000000 in
theorem scan_loop (ao : Option Addr) (cap : Nat) (l : List It) (f t : List UInt8) (most : Int) (w : World) (tab : TabAt w) (hr : RdI w (.slice ao l.length cap) l) (hsz : SzI l) (hf : f.length ≤ maxLen) (ht : t.length ≤ maxLen) (h64 : l.length ≤ 64) (IS : Calls Tryd.prog 52 #[.slice ao l.length cap] w fun e w2 => e = .returned (.bool true) ∧ Below w.heap.size w w2) :
    Calls Tryd.prog 27 #[.slice ao l.length cap, .string (str f), .string (str t), .int .i64 most] w (OwnI w (scanF f t most l)) := by
  obtain ⟨i0, hi, hz0, hz1, hz2⟩ := info_parts item_info
  have hcc : l.length ≤ cap ∧ cap ≤ 9223372036854775807 := by
    obtain ⟨_, _, he, h3, h4, _⟩ := hr; cases he; unfold maxLen at h4; exact ⟨h3, by omega⟩
  have HRD := Lib.hid hr
  have HS := Lib.hid hsz
  have tab0 := Lib.hid tab
  obtain ⟨R, hR⟩ : ∃ R, R = scanF f t most l := ⟨_, rfl⟩
  have HR := Lib.hid hR
  rw [← hR]
  obtain ⟨w0, hw0⟩ : ∃ w0, w0 = w := ⟨_, rfl⟩
  subst hw0
  clear hr hsz tab hR
  go_enter Tryd.func27, Tryd.ntmps27
  go_wp2_with fail
  refine IS.mono ?_
  rintro e w1 ⟨rfl, g1⟩
  clear IS
  go_wp2_with fail
  go_loopw [9, 17] (fun out i wr => ∃ (j : Nat) (acc : List It), j ≤ l.length ∧ i = .int .i64 (j : Int) ∧ acc.length ≤ j ∧ Hid (acc = scanF f t most (l.take j)) ∧ wr.ownsRow w0.heap.size 32 5 out acc.length (acc.flatMap itC) ∧ Below w0.heap.size w0 wr) (fun _ i _ => 100 - (intOf i).toNat)
  case atStart => exact ⟨0, [], Nat.zero_le _, rfl, Nat.le_refl _, rfl, World.ownsRow_nil _ _ _ _, g1⟩
  case round =>
    obtain ⟨j, acc, hj, rfl, hacc, HA, hown, bel⟩ := hrel
    obtain ⟨ax, cx, hsl, hcx, hcy⟩ := slice_of_rd (OwnI.rd (w := w0) hown)
    subst hsl
    by_cases hlt : j < l.length
    · have R1 := HRD.out.below bel (Nat.le_refl _)
      obtain ⟨b, off, rfl, hb, c0, c1, c2, c3, c4⟩ := rdi_cells R1 j hlt
      obtain ⟨x, hx⟩ : ∃ x, x = l[j]'hlt := ⟨_, rfl⟩
      rw [← hx] at c0 c1 c2 c3 c4
      have hxk : x.key.length ≤ maxLen := by rw [hx]; exact (HS.out _ (List.getElem_mem _)).1
      have HX := Lib.hid hx
      clear hx R1
      have q8 := heap_alloc_new wr (.cells #[.string (str x.key), .int .i64 x.v.k, .int .i64 x.v.i, .string (str x.v.s), .int .i64 x.ver] 32)
      have a8 := (Below.refl wr.heap.size wr).alloc (Nat.le_refl _) (.cells #[.string (str x.key), .int .i64 x.v.k, .int .i64 x.v.i, .string (str x.v.s), .int .i64 x.ver] 32)
      have B8 := chain bel a8
      have own8 := own_keep hown a8
      have IN0 := fun W (T : TabAt W) => (in_any x.key f t hxk hf ht).at W T
      have e0 : (isB x.key && patB f && patB t && !ltB x.key f && (decide (t = []) || ltB x.key t)) = inK x.key f t := rfl
      simp only [e0] at IN0
      cases hin : inK x.key f t with
      | true =>
        simp only [hin] at IN0
        have IN := Lib.hid IN0
        by_cases hlm : (acc.length : Int) < most
        · have HN := Lib.hid (show acc ++ [x] = scanF f t most (l.take (j + 1)) by rw [scan_succ hlt, ← HA.out, ← HX.out]; unfold stepS; rw [if_pos ⟨hlm, hin⟩])
          have hd := decide_eq_true hlm
          clear IN0 hin e0
          go_wp2_with fail
          refine (IN.out _ (tab0.out.below B8)).mono ?_
          rintro e w2 ⟨rfl, g2⟩
          have B2 := chain B8 g2
          have own2 := own_keep own8 g2
          have q9 := (g2.block _ (lt_of_block q8)).trans q8
          obtain ⟨d0, d1, d2, d3, d4, dz⟩ := block_cells5 q9
          clear g2
          go_wp2_with (at_builtin; refine wpList_app1k itC_len (by decide) w0 rfl (.tmp 32) (.tmp 34) 22 rfl w0.heap.size 32 i0 (.agg #[.string ⟨#[]⟩, .int .i64 0, .int .i64 0, .string ⟨#[]⟩, .int .i64 0]) 56 Tryd.underlying22 hi hz0 hz1 hz2 rfl _ _ rfl own2 _ x _ rfl rfl itC_one (by unfold maxLen; omega) (by omega) (Nat.le_refl _) B2 ?_; intro v' w9 hown2 hb2 hq2; clear hq2)
          exact ⟨⟨j + 1, acc ++ [x], by omega, by push_cast; rfl, by simp; omega, HN, hown2, hb2⟩, by simp [intOf]; omega⟩
        · have HN := Lib.hid (show acc = scanF f t most (l.take (j + 1)) by rw [scan_succ hlt, ← HA.out, ← HX.out]; unfold stepS; rw [if_neg (by simp [hin, hlm])])
          have hd := decide_eq_false hlm
          clear IN0 hin e0
          go_wp2_with fail
          exact ⟨⟨j + 1, acc, by omega, by push_cast; rfl, by omega, HN, own8, B8⟩, by simp [intOf]; omega⟩
      | false =>
        simp only [hin] at IN0
        have IN := Lib.hid IN0
        by_cases hlm : (acc.length : Int) < most
        · have HN := Lib.hid (show acc = scanF f t most (l.take (j + 1)) by rw [scan_succ hlt, ← HA.out, ← HX.out]; unfold stepS; rw [if_neg (by simp [hin, hlm])])
          have hd := decide_eq_true hlm
          clear IN0 hin e0
          go_wp2_with fail
          refine (IN.out _ (tab0.out.below B8)).mono ?_
          rintro e w2 ⟨rfl, g2⟩
          have B2 := chain B8 g2
          have own2 := own_keep own8 g2
          have q9 := (g2.block _ (lt_of_block q8)).trans q8
          obtain ⟨d0, d1, d2, d3, d4, dz⟩ := block_cells5 q9
          clear g2
          go_wp2_with fail
          exact ⟨⟨j + 1, acc, by omega, by push_cast; rfl, by omega, HN, own2, B2⟩, by simp [intOf]; omega⟩
        · have HN := Lib.hid (show acc = scanF f t most (l.take (j + 1)) by rw [scan_succ hlt, ← HA.out, ← HX.out]; unfold stepS; rw [if_neg (by simp [hin, hlm])])
          have hd := decide_eq_false hlm
          clear IN0 hin e0
          go_wp2_with fail
          exact ⟨⟨j + 1, acc, by omega, by push_cast; rfl, by omega, HN, own8, B8⟩, by simp [intOf]; omega⟩
    · obtain rfl : j = l.length := by omega
      have E := Lib.hid (show R = acc by rw [HR.out, HA.out, List.take_length])
      go_wp2_with fail
      go_ret
      have e := E.out
      subst e
      exact ⟨_, rfl, hown, bel⟩
set_option maxRecDepth 100000 in
set_option maxHeartbeats 2000000 in
theorem refScan_loop (ao : Option Addr) (cap : Nat) (l : List It) (f t : List UInt8) (most : Int) (w : World) (tab : TabAt w) (hr : RdI w (.slice ao l.length cap) l) (hsz : SzI l) (hf : f.length ≤ maxLen) (ht : t.length ≤ maxLen) (h64 : l.length ≤ 64) :
    Calls Tryd.prog 28 #[.slice ao l.length cap, .string (str f), .string (str t), .int .i64 most] w (OwnI w (scanF f t most l)) := by
  obtain ⟨i0, hi, hz0, hz1, hz2⟩ := info_parts item_info
  have hcc : l.length ≤ cap ∧ cap ≤ 9223372036854775807 := by
    obtain ⟨_, _, he, h3, h4, _⟩ := hr; cases he; unfold maxLen at h4; exact ⟨h3, by omega⟩
  have HRD := Lib.hid hr
  have HS := Lib.hid hsz
  have tab0 := Lib.hid tab
  obtain ⟨R, hR⟩ : ∃ R, R = scanF f t most l := ⟨_, rfl⟩
  have HR := Lib.hid hR
  rw [← hR]
  obtain ⟨w0, hw0⟩ : ∃ w0, w0 = w := ⟨_, rfl⟩
  subst hw0
  clear hr hsz tab hR
  go_enter Tryd.func28, Tryd.ntmps28
  go_wp2_with fail
  have g1 := Below.refl w0.heap.size w0
  go_loopw [9, 10] (fun out i wr => ∃ (j : Nat) (acc : List It), j ≤ l.length ∧ i = .int .i64 (j : Int) ∧ acc.length ≤ j ∧ Hid (acc = scanF f t most (l.take j)) ∧ wr.ownsRow w0.heap.size 32 5 out acc.length (acc.flatMap itC) ∧ Below w0.heap.size w0 wr) (fun _ i _ => 100 - (intOf i).toNat)
  case atStart => exact ⟨0, [], Nat.zero_le _, rfl, Nat.le_refl _, rfl, World.ownsRow_nil _ _ _ _, g1⟩
  case round =>
    obtain ⟨j, acc, hj, rfl, hacc, HA, hown, bel⟩ := hrel
    obtain ⟨ax, cx, hsl, hcx, hcy⟩ := slice_of_rd (OwnI.rd (w := w0) hown)
    subst hsl
    by_cases hlt : j < l.length
    · have R1 := HRD.out.below bel (Nat.le_refl _)
      obtain ⟨b, off, rfl, hb, c0, c1, c2, c3, c4⟩ := rdi_cells R1 j hlt
      obtain ⟨x, hx⟩ : ∃ x, x = l[j]'hlt := ⟨_, rfl⟩
      rw [← hx] at c0 c1 c2 c3 c4
      have hxk : x.key.length ≤ maxLen := by rw [hx]; exact (HS.out _ (List.getElem_mem _)).1
      have HX := Lib.hid hx
      clear hx R1
      have IN0 := fun W (T : TabAt W) => (refIn_any x.key f t hxk hf ht).at W T
      have e0 : (isB x.key && patB f && patB t && !ltB x.key f && (decide (t = []) || ltB x.key t)) = inK x.key f t := rfl
      simp only [e0] at IN0
      cases hin : inK x.key f t with
      | true =>
        simp only [hin] at IN0
        have IN := Lib.hid IN0
        by_cases hlm : (acc.length : Int) < most
        · have HN := Lib.hid (show acc ++ [x] = scanF f t most (l.take (j + 1)) by rw [scan_succ hlt, ← HA.out, ← HX.out]; unfold stepS; rw [if_pos ⟨hlm, hin⟩])
          have hd := decide_eq_true hlm
          clear IN0 hin e0
          go_wp2_with fail
          refine (IN.out _ (tab0.out.below bel)).mono ?_
          rintro e w2 ⟨rfl, g2⟩
          have B2 := chain bel g2
          have own2 := own_keep hown g2
          have R9 := HRD.out.below B2 (Nat.le_refl _)
          obtain ⟨b', off', hbo, -, d0, d1, d2, d3, d4⟩ := rdi_cells R9 j hlt
          cases hbo
          rw [← HX.out] at d0 d1 d2 d3 d4
          clear R9
          clear g2
          go_wp2_with (at_builtin; refine wpList_app1k itC_len (by decide) w0 rfl (.tmp 31) (.tmp 36) 22 rfl w0.heap.size 32 i0 (.agg #[.string ⟨#[]⟩, .int .i64 0, .int .i64 0, .string ⟨#[]⟩, .int .i64 0]) 56 Tryd.underlying22 hi hz0 hz1 hz2 rfl _ _ rfl own2 _ x _ rfl rfl itC_one (by unfold maxLen; omega) (by omega) (Nat.le_refl _) B2 ?_; intro v' w9 hown2 hb2 hq2; clear hq2)
          exact ⟨⟨j + 1, acc ++ [x], by omega, by push_cast; rfl, by simp; omega, HN, hown2, hb2⟩, by simp [intOf]; omega⟩
        · have HN := Lib.hid (show acc = scanF f t most (l.take (j + 1)) by rw [scan_succ hlt, ← HA.out, ← HX.out]; unfold stepS; rw [if_neg (by simp [hin, hlm])])
          have hd := decide_eq_false hlm
          clear IN0 hin e0
          go_wp2_with fail
          refine (IN.out _ (tab0.out.below bel)).mono ?_
          rintro e w2 ⟨rfl, g2⟩
          have B2 := chain bel g2
          have own2 := own_keep hown g2
          have R9 := HRD.out.below B2 (Nat.le_refl _)
          obtain ⟨b', off', hbo, -, d0, d1, d2, d3, d4⟩ := rdi_cells R9 j hlt
          cases hbo
          rw [← HX.out] at d0 d1 d2 d3 d4
          clear R9
          clear g2
          go_wp2_with fail
          exact ⟨⟨j + 1, acc, by omega, by push_cast; rfl, by omega, HN, own2, B2⟩, by simp [intOf]; omega⟩
      | false =>
        simp only [hin] at IN0
        have IN := Lib.hid IN0
        by_cases hlm : (acc.length : Int) < most
        · have HN := Lib.hid (show acc = scanF f t most (l.take (j + 1)) by rw [scan_succ hlt, ← HA.out, ← HX.out]; unfold stepS; rw [if_neg (by simp [hin, hlm])])
          have hd := decide_eq_true hlm
          clear IN0 hin e0
          go_wp2_with fail
          refine (IN.out _ (tab0.out.below bel)).mono ?_
          rintro e w2 ⟨rfl, g2⟩
          have B2 := chain bel g2
          have own2 := own_keep hown g2
          have R9 := HRD.out.below B2 (Nat.le_refl _)
          obtain ⟨b', off', hbo, -, d0, d1, d2, d3, d4⟩ := rdi_cells R9 j hlt
          cases hbo
          rw [← HX.out] at d0 d1 d2 d3 d4
          clear R9
          clear g2
          go_wp2_with fail
          exact ⟨⟨j + 1, acc, by omega, by push_cast; rfl, by omega, HN, own2, B2⟩, by simp [intOf]; omega⟩
        · have HN := Lib.hid (show acc = scanF f t most (l.take (j + 1)) by rw [scan_succ hlt, ← HA.out, ← HX.out]; unfold stepS; rw [if_neg (by simp [hin, hlm])])
          have hd := decide_eq_false hlm
          clear IN0 hin e0
          go_wp2_with fail
          refine (IN.out _ (tab0.out.below bel)).mono ?_
          rintro e w2 ⟨rfl, g2⟩
          have B2 := chain bel g2
          have own2 := own_keep hown g2
          have R9 := HRD.out.below B2 (Nat.le_refl _)
          obtain ⟨b', off', hbo, -, d0, d1, d2, d3, d4⟩ := rdi_cells R9 j hlt
          cases hbo
          rw [← HX.out] at d0 d1 d2 d3 d4
          clear R9
          clear g2
          go_wp2_with fail
          exact ⟨⟨j + 1, acc, by omega, by push_cast; rfl, by omega, HN, own2, B2⟩, by simp [intOf]; omega⟩
    · obtain rfl : j = l.length := by omega
      have E := Lib.hid (show R = acc by rw [HR.out, HA.out, List.take_length])
      go_wp2_with fail
      go_ret
      have e := E.out
      subst e
      exact ⟨_, rfl, hown, bel⟩
set_option maxRecDepth 100000 in
theorem scan_any (ao : Option Addr) (cap : Nat) (l : List It) (f t : List UInt8) (most : Int) (w : World) (tab : TabAt w) (hr : RdI w (.slice ao l.length cap) l) (hsz : SzI l) (hf : f.length ≤ maxLen) (ht : t.length ≤ maxLen) :
    Calls Tryd.prog 27 #[.slice ao l.length cap, .string (str f), .string (str t), .int .i64 most] w (OwnI w (scanR f t most l)) := by
  have IS := is9_any _ l w tab hr hsz
  cases hl : isL l with
  | true =>
    rw [hl] at IS
    rw [show scanR f t most l = scanF f t most l by unfold scanR; rw [if_pos hl]]
    exact scan_loop ao cap l f t most w tab hr hsz hf ht (isL_len hl) IS
  | false =>
    rw [hl] at IS
    rw [show scanR f t most l = [] by unfold scanR; rw [if_neg (by simp [hl])]]
    clear hr hsz tab hl
    go_enter Tryd.func27, Tryd.ntmps27
    go_wp2_with fail
    refine IS.mono ?_
    rintro e w1 ⟨rfl, g1⟩
    go_wp2_with fail
    go_ret
    exact ⟨_, rfl, World.ownsRow_nil _ _ _ _, g1⟩
end Go.Proofs.YtcehgfganjdghaaDoor
