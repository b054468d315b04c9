/- Leaves: Put, Delete. Written by wip/tools/gen9g.py. -/
import Derived.Test.YtbdfcgffkonbiaaDoorQST8
import Derived.Test.YtbdfcgffkonbiaaDoorQST4
namespace Go.Proofs.YtbdfcgffkonbiaaDoor
open Go Go.RowKit
set_option linter.unusedVariables false
set_option linter.unusedSimpArgs false
/-- A list of items of the call's own, and an error's number. -/
def OwnIE (w : World) (l : List It) (c : Nat) (e : Ending) (w' : World) : Prop := ∃ v', e = .returned (.tuple #[v', .int .i64 (c : Int)]) ∧ w'.ownsRow w.heap.size 53 5 v' l.length (l.flatMap itC) ∧ Below w.heap.size w w'
def putE (l : List It) (x : It) : Nat := if isL l = true ∧ mayI x = true then (if foundL l x.key = false ∧ l.length = 64 then 5 else 0) else 1
def putR (l : List It) (x : It) : List It := if putE l x = 0 then withL l x else []
def delE (l : List It) (k : List UInt8) : Nat := if isL l = true then (if foundL l k = true then 0 else 6) else 1
def delR (l : List It) (k : List UInt8) : List It := if delE l k = 0 then withoutL l k else []
theorem ownIE_nil {w w' : World} {c : Nat} {v : Value} (hv : v = .slice none 0 0) (h : Below w.heap.size w w') : OwnIE w [] c (.returned (.tuple #[v, .int .i64 (c : Int)])) w' := by
  subst hv; exact ⟨_, rfl, World.ownsRow_nil _ _ _ _, h⟩
theorem own_up {w0 w1 w' : World} {l : List It} {v : Value} (h : w'.ownsRow w1.heap.size 53 5 v l.length (l.flatMap itC)) (b : w0.heap.size ≤ w1.heap.size) : w'.ownsRow w0.heap.size 53 5 v l.length (l.flatMap itC) := by
  refine ⟨h.1, ?_⟩
  rcases h.2 with h1 | ⟨g, cap, cur, rfl, h2, h3⟩
  · exact .inl h1
  · exact .inr ⟨g, cap, cur, rfl, Nat.le_trans b h2, h3⟩
theorem end_two {w0 w2 w9 : World} {o : Obj} {l : List It} {v : Value} (B : Below w0.heap.size w0 w2) (b9 : Below ((w2.drew).alloc o).heap.size ((w2.drew).alloc o) w9) (h : w9.ownsRow ((w2.drew).alloc o).heap.size 53 5 v l.length (l.flatMap itC)) :
    w9.ownsRow w0.heap.size 53 5 v l.length (l.flatMap itC) ∧ Below w0.heap.size w0 w9 := by
  have bz : Below w0.heap.size w0 ((w2.drew).alloc o) := (B.drew).alloc B.size _
  exact ⟨own_up h bz.size, chain bz b9⟩
theorem end_three {w0 w2 w9 : World} {o o' : Obj} {l : List It} {v : Value} (B : Below w0.heap.size w0 w2) (b9 : Below (((w2.drew).alloc o).alloc o').heap.size (((w2.drew).alloc o).alloc o') w9) (h : w9.ownsRow (((w2.drew).alloc o).alloc o').heap.size 53 5 v l.length (l.flatMap itC)) :
    w9.ownsRow w0.heap.size 53 5 v l.length (l.flatMap itC) ∧ Below w0.heap.size w0 w9 := by
  have bz1 : Below w0.heap.size w0 ((w2.drew).alloc o) := (B.drew).alloc B.size _
  have bz := bz1.alloc bz1.size o'
  exact ⟨own_up h bz.size, chain bz b9⟩
set_option maxRecDepth 100000 in
set_option maxHeartbeats 1000000 in
theorem ldel_any (v : Value) (l : List It) (k : List UInt8) (w : World) (tab : TabAt w) (h : RdI w v l) (hsz : SzI l) :
    Calls Tryd.prog 128 #[v, .string (str k)] w (OwnIE w (delR l k) (delE l k)) := by
  obtain ⟨ao, cap, rfl, hc, hm, hr⟩ := RdK.open h
  have HRD := Lib.hid (show RdI w (.slice ao l.length cap) l from hr)
  have B0 := Below.refl w.heap.size w
  have IS0 := fun W (t : TabAt W) (h : RdI W (.slice ao l.length cap) l) => is9_any _ l W t h hsz
  clear h hr
  cases hl : isL l with
  | false =>
    simp only [hl] at IS0
    have IS := Lib.hid IS0
    have e1 : delE l k = 1 := by unfold delE; rw [hl]; rfl
    have e2 : delR l k = [] := by unfold delR; rw [e1]; rfl
    rw [e1, e2]
    clear hl IS0 e1 e2
    go_enter Tryd.func128, Tryd.ntmps128
    go_wp2_with fail
    refine (IS.out _ tab (HRD.out.below B0 (Nat.le_refl _))).mono ?_
    rintro e w1 ⟨rfl, g1⟩
    have B1 := chain B0 g1
    clear g1
    go_wp2_with fail
    go_ret2
    exact ownIE_nil rfl B1
  | true =>
    simp only [hl] at IS0
    have IS := Lib.hid IS0
    have h64 := isL_len hl
    have hso := Lib.hid (isL_sorted hl)
    have FD0 := fun W (h : RdI W (.slice ao l.length cap) l) => find_any _ l k W h h64 hso.out
    obtain ⟨p, hpp⟩ : ∃ p, p = posL l k := ⟨_, rfl⟩
    have PS := Lib.hid hpp
    simp only [← hpp] at FD0
    clear IS0 hpp
    cases hf : foundL l k with
    | false =>
      simp only [hf] at FD0
      have FD := Lib.hid FD0
      have e1 : delE l k = 6 := by unfold delE; rw [hl, hf]; rfl
      have e2 : delR l k = [] := by unfold delR; rw [e1]; rfl
      rw [e1, e2]
      clear hl hf FD0 e1 e2
      go_enter Tryd.func128, Tryd.ntmps128
      go_wp2_with fail
      refine (IS.out _ tab (HRD.out.below B0 (Nat.le_refl _))).mono ?_
      rintro e w1 ⟨rfl, g1⟩
      have B1 := chain B0 g1
      clear g1
      go_wp2_with fail
      refine (FD.out _ (HRD.out.below B1 (Nat.le_refl _))).mono ?_
      rintro e w2 ⟨rfl, n2, hw2⟩
      have g2 : Below w1.heap.size w1 w2 := by rw [hw2]; exact below_drewN (Below.refl _ _)
      have B2 := chain B1 g2
      clear g2 hw2
      go_wp2_with fail
      go_ret2
      exact ownIE_nil rfl B2
    | true =>
      simp only [hf] at FD0
      have FD := Lib.hid FD0
      have hpl : p < l.length := by rw [PS.out]; exact (found_yes hf).1
      have e1 : delE l k = 0 := by unfold delE; rw [hl, hf]; rfl
      have e2 : delR l k = withoutL l k := by unfold delR; rw [e1]; rfl
      have CT := Lib.hid (without_in hso.out (found_yes hf).1 (found_yes hf).2)
      have HRE := Lib.hid (show ∀ v : Value, Ending.returned (.tuple #[v, .int .i64 0]) = .returned (.tuple #[v, .int .i64 ((delE l k : Nat) : Int)]) by intro v; rw [e1]; rfl)
      have HRR := Lib.hid e2
      clear hl hf FD0 e1 e2
      go_enter Tryd.func128, Tryd.ntmps128
      go_wp2_with fail
      refine (IS.out _ tab (HRD.out.below B0 (Nat.le_refl _))).mono ?_
      rintro e w1 ⟨rfl, g1⟩
      have B1 := chain B0 g1
      clear g1
      go_wp2_with fail
      refine (FD.out _ (HRD.out.below B1 (Nat.le_refl _))).mono ?_
      rintro e w2 ⟨rfl, n2, hw2⟩
      have g2 : Below w1.heap.size w1 w2 := by rw [hw2]; exact below_drewN (Below.refl _ _)
      have B2 := chain B1 g2
      clear g2 hw2
      obtain ⟨q, hq⟩ : ∃ q, q = p + 1 := ⟨_, rfl⟩
      have hql : q ≤ l.length := by omega
      have HQ := Lib.hid hq
      have hrd := HRD.out.below B2 (Nat.le_refl _)
      obtain ⟨A, hA, CA⟩ := rdi_cut hrd 0 p (Nat.zero_le _) (by omega)
      obtain ⟨C, hC, CC⟩ := rdi_cut hrd q l.length (by omega) (Nat.le_refl _)
      rw [Nat.sub_zero, List.drop_zero] at hA
      rw [List.take_of_length_le (by rw [List.length_drop]; omega)] at hC
      obtain ⟨LA, hLA⟩ : ∃ LA, LA = l.take p := ⟨_, rfl⟩
      obtain ⟨LC, hLC⟩ : ∃ LC, LC = l.drop q := ⟨_, rfl⟩
      rw [← hLA] at hA
      rw [← hLC] at hC
      obtain ⟨aA, cA, rfl, -, -, hA⟩ := RdK.open hA
      obtain ⟨aC, cC, rfl, -, -, hC⟩ := RdK.open hC
      have hA : RdI _ _ _ := hA
      have hC : RdI _ _ _ := hC
      have HFL := Lib.hid (show [LA, LC].flatten = withoutL l k from by rw [hLA, hLC, hq, PS.out]; simp; exact CT.out)
      have HLN := Lib.hid (show [LA, LC].flatten.length ≤ 1000 from by rw [hLA, hLC]; simp; omega)
      clear hrd hLA hLC hq
      go_wp2_with fail
      refine g_start (by kernel_rfl) ?_
      refine g_take (i := 0) (d := (some 19)) (v := ?_) rfl rfl (by kernel_rfl) (fun _ _ _ h => h) (by rfl) (fun w' hb' => ?_) ?_
      rotate_left
      · (try go_simp); (try with_reducible rfl)
      try simp only [Act.put, List.setIfInBounds_toArray, List.set_cons_zero, List.set_cons_succ]
      refine g_take (i := 1) (d := (some 20)) (v := ?_) rfl rfl (by kernel_rfl) (fun _ _ _ h => h) (by rfl) (fun w' hb' => ?_) ?_
      rotate_left
      · (try go_simp); (try with_reducible rfl)
      try simp only [Act.put, List.setIfInBounds_toArray, List.set_cons_zero, List.set_cons_succ]
      refine g_take (i := 2) (d := (some 21)) (v := ?_) rfl rfl (by kernel_rfl) (fun _ _ _ h => h) (by rfl) (fun w' hb' => ?_) ?_
      rotate_left
      · refine CA.to _ _ (.tmp 19) (.tmp 20) .i64 ?_ ?_ ?_ w' <;> rfl; (try go_simp); (try with_reducible rfl)
      try simp only [Act.put, List.setIfInBounds_toArray, List.set_cons_zero, List.set_cons_succ]
      refine g_take (i := 3) (d := (some 22)) (v := ?_) rfl rfl (by kernel_rfl) (fun _ _ _ h => h) (by rfl) (fun w' hb' => ?_) ?_
      rotate_left
      · (try go_simp); (try with_reducible rfl)
      try simp only [Act.put, List.setIfInBounds_toArray, List.set_cons_zero, List.set_cons_succ]
      refine g_take (i := 4) (d := (some 23)) (v := ?_) rfl rfl (by kernel_rfl) (fun _ _ _ h => h) (by rfl) (fun w' hb' => ?_) ?_
      rotate_left
      · (try go_simp); (try with_reducible rfl)
      try simp only [Act.put, List.setIfInBounds_toArray, List.set_cons_zero, List.set_cons_succ]
      refine g_take (i := 5) (d := (some 24)) (v := ?_) rfl rfl (by kernel_rfl) (fun _ _ _ h => h) (by rfl) (fun w' hb' => ?_) ?_
      rotate_left
      · have e1 : IntKind.i64.wrap ((p : Int) + 1) = (q : Int) := (by rw [HQ.out, IntKind.wrap_i64]; omega); (try go_simp); (try with_reducible rfl)
      try simp only [Act.put, List.setIfInBounds_toArray, List.set_cons_zero, List.set_cons_succ]
      refine g_take (i := 6) (d := (some 25)) (v := ?_) rfl rfl (by kernel_rfl) (fun _ _ _ h => h) (by rfl) (fun w' hb' => ?_) ?_
      rotate_left
      · refine CC.from _ _ (.tmp 22) (.tmp 24) .i64 ?_ ?_ ?_ w' <;> rfl; (try go_simp); (try with_reducible rfl)
      try simp only [Act.put, List.setIfInBounds_toArray, List.set_cons_zero, List.set_cons_succ]
      refine g_run (i := 7) rfl (by kernel_rfl) (by rfl) (fun K hK => ?_)
      go_simp; refine hK _ _ ⟨(Below.refl _ _).alloc (Nat.le_refl _) _, ?_⟩; clear hK K
      try simp only [Act.put, List.setIfInBounds_toArray, List.set_cons_zero, List.set_cons_succ]
      refine g_run (i := 8) rfl (by kernel_rfl) (by rfl) (fun K hK => ?_)
      go_simp
      refine (concat_any _ [LA, LC] _ (rdls_mk (n := 2) (ls := [LA, LC]) (heap_alloc_new _ _) rfl (by decide) (fun j hj => match j, hj with
        | 0, _ => ⟨_, rfl, hA.below (((Below.refl _ _).drew).alloc (Nat.le_refl _) _) (Nat.le_refl _)⟩
        | 1, _ => ⟨_, rfl, hC.below (((Below.refl _ _).drew).alloc (Nat.le_refl _) _) (Nat.le_refl _)⟩)) (by simp) HLN.out).mono ?_
      rintro e w9 ⟨v9, rfl, own9, b9⟩
      refine hK _ _ ⟨b9, ?_⟩
      clear hK K
      try simp only [Act.put, List.setIfInBounds_toArray, List.set_cons_zero, List.set_cons_succ]
      refine g_take (i := 9) (d := (some 4)) (v := ?_) rfl rfl (by kernel_rfl) (fun _ _ _ h => h) (by rfl) (fun w' hb' => ?_) ?_
      rotate_left
      · (try go_simp); (try with_reducible rfl)
      try simp only [Act.put, List.setIfInBounds_toArray, List.set_cons_zero, List.set_cons_succ]
      refine g_take (i := 10) (d := (some 5)) (v := ?_) rfl rfl (by kernel_rfl) (fun _ _ _ h => h) (by rfl) (fun w' hb' => ?_) ?_
      rotate_left
      · (try go_simp); (try with_reducible rfl)
      try simp only [Act.put, List.setIfInBounds_toArray, List.set_cons_zero, List.set_cons_succ]
      refine g_done (by kernel_rfl) ?_
      go_wp2_with fail
      go_ret2
      obtain ⟨o9, z9⟩ := end_two B2 b9 own9
      exact ⟨_, HRE.out _, by rw [HFL.out] at o9; rw [HRR.out]; exact o9, z9⟩
set_option maxRecDepth 100000 in
set_option maxHeartbeats 1000000 in
theorem lput_any (v : Value) (l : List It) (x : It) (w : World) (tab : TabAt w) (h : RdI w v l) (hsz : SzI l) (hxk : x.key.length ≤ maxLen) (hxs : x.v.s.length ≤ maxLen) :
    Calls Tryd.prog 130 #[v, itV x] w (OwnIE w (putR l x) (putE l x)) := by
  obtain ⟨ao, cap, rfl, hc, hm, hr⟩ := RdK.open h
  have HRD := Lib.hid (show RdI w (.slice ao l.length cap) l from hr)
  have q0 := heap_alloc_new w (.cells #[.string (str x.key), .int .i64 x.v.k, .int .i64 x.v.i, .string (str x.v.s), .int .i64 x.ver] 53)
  have B0 := (Below.refl w.heap.size w).alloc (Nat.le_refl _) (.cells #[.string (str x.key), .int .i64 x.v.k, .int .i64 x.v.i, .string (str x.v.s), .int .i64 x.ver] 53)
  have T0 := tab.below B0
  have IS0 := fun W (t : TabAt W) (h : RdI W (.slice ao l.length cap) l) => is9_any _ l W t h hsz
  have MY0 := leafMay_any x hxk hxs
  unfold itV at MY0 ⊢
  clear h hr
  cases hl : isL l with
  | false =>
    simp only [hl] at IS0
    have IS := Lib.hid IS0
    have e1 : putE l x = 1 := by unfold putE; rw [hl]; rfl
    have e2 : putR l x = [] := by unfold putR; rw [e1]; rfl
    rw [e1, e2]
    clear hl IS0 e1 e2 MY0
    go_enter Tryd.func130, Tryd.ntmps130
    go_wp2_with fail
    refine (IS.out _ T0 (HRD.out.below B0 (Nat.le_refl _))).mono ?_
    rintro e w1 ⟨rfl, g1⟩
    have q1 := (g1.block _ (lt_of_block q0)).trans q0
    obtain ⟨d0, d1, d2, d3, d4, dz⟩ := block_cells5 q1
    have B1 := chain B0 g1
    clear g1
    go_wp2_with fail
    go_ret2
    exact ownIE_nil rfl B1
  | true =>
    simp only [hl] at IS0
    have IS := Lib.hid IS0
    cases hm2 : mayI x with
    | false =>
      rw [hm2] at MY0
      have MY := Lib.hid MY0
      have e1 : putE l x = 1 := by unfold putE; rw [hl, hm2]; rfl
      have e2 : putR l x = [] := by unfold putR; rw [e1]; rfl
      rw [e1, e2]
      clear hl IS0 e1 e2 MY0 hm2
      go_enter Tryd.func130, Tryd.ntmps130
      go_wp2_with fail
      refine (IS.out _ T0 (HRD.out.below B0 (Nat.le_refl _))).mono ?_
      rintro e w1 ⟨rfl, g1⟩
      have q1 := (g1.block _ (lt_of_block q0)).trans q0
      obtain ⟨d0, d1, d2, d3, d4, dz⟩ := block_cells5 q1
      have B1 := chain B0 g1
      clear g1
      go_wp2_with fail
      refine (MY.out.at _ (tab.below B1)).mono ?_
      rintro e w2 ⟨rfl, g2⟩
      have q2 := (g2.block _ (lt_of_block q1)).trans q1
      obtain ⟨d0, d1, d2, d3, d4, dz⟩ := block_cells5 q2
      have B2 := chain B1 g2
      clear g2
      go_wp2_with fail
      go_ret2
      exact ownIE_nil rfl B2
    | true =>
      rw [hm2] at MY0
      have MY := Lib.hid MY0
      have h64 := isL_len hl
      have hso := Lib.hid (isL_sorted hl)
      have FD0 := fun W (h : RdI W (.slice ao l.length cap) l) => find_any _ l x.key W h h64 hso.out
      obtain ⟨p, hpp⟩ : ∃ p, p = posL l x.key := ⟨_, rfl⟩
      have PS := Lib.hid hpp
      simp only [← hpp] at FD0
      clear IS0 hpp MY0
      cases hf : foundL l x.key with
      | true =>
        simp only [hf] at FD0
        have FD := Lib.hid FD0
        have hpl : p < l.length := by rw [PS.out]; exact (found_yes hf).1
        have e1 : putE l x = 0 := by unfold putE; rw [hl, hm2, hf]; rfl
        have e2 : putR l x = withL l x := by unfold putR; rw [e1]; rfl
        have HRE := Lib.hid (show ∀ v : Value, Ending.returned (.tuple #[v, .int .i64 0]) = .returned (.tuple #[v, .int .i64 ((putE l x : Nat) : Int)]) by intro v; rw [e1]; rfl)
        have HRR := Lib.hid e2
        obtain ⟨y, hy⟩ : ∃ y, y = l[posL l x.key]'(found_yes hf).1 := ⟨_, rfl⟩
        have HX := Lib.hid (show ∀ h : p < l.length, l[p] = y by intro h; have e := PS.out; subst e; exact hy.symm)
        have FY := found_yes hf
        by_cases hyx : y = x
        · have CT := Lib.hid (show l = withL l x from with_same hso.out x (found_yes hf).1 (by rw [← hy]; exact hyx))
          subst hyx
          have EQ := fun W => it_eq_same y W
          unfold itV at EQ
          clear hl hf FD0 e1 e2 hm2 hy FY
          go_enter Tryd.func130, Tryd.ntmps130
          go_wp2_with fail
          refine (IS.out _ T0 (HRD.out.below B0 (Nat.le_refl _))).mono ?_
          rintro e w1 ⟨rfl, g1⟩
          have q1 := (g1.block _ (lt_of_block q0)).trans q0
          obtain ⟨d0, d1, d2, d3, d4, dz⟩ := block_cells5 q1
          have B1 := chain B0 g1
          clear g1
          go_wp2_with fail
          refine (MY.out.at _ (tab.below B1)).mono ?_
          rintro e w2 ⟨rfl, g2⟩
          have q2 := (g2.block _ (lt_of_block q1)).trans q1
          obtain ⟨d0, d1, d2, d3, d4, dz⟩ := block_cells5 q2
          have B2 := chain B1 g2
          clear g2
          go_wp2_with fail
          refine (FD.out _ (HRD.out.below B2 (Nat.le_refl _))).mono ?_
          rintro e w3 ⟨rfl, n3, hw3⟩
          have g3 : Below w2.heap.size w2 w3 := by rw [hw3]; exact below_drewN (Below.refl _ _)
          have q3 := (g3.block _ (lt_of_block q2)).trans q2
          obtain ⟨d0, d1, d2, d3, d4, dz⟩ := block_cells5 q3
          have B3 := chain B2 g3
          clear g3 hw3
          have hrd := HRD.out.below B3 (Nat.le_refl _)
          obtain ⟨b, off, rfl, hb, c0, c1, c2, c3, c4⟩ := rdi_cells hrd p hpl
          rw [HX.out hpl] at c0 c1 c2 c3 c4
          clear hrd
          go_wp2_with fail
          go_quiet (fail)
          obtain ⟨w4, hw4⟩ : ∃ w4, w4 = w3.drewN nq := ⟨_, rfl⟩
          have g4 : Below w3.heap.size w3 w4 := by rw [hw4]; exact below_drewN (Below.refl _ _)
          rw [← hw4]
          have q4 := (g4.block _ (lt_of_block q3)).trans q3
          obtain ⟨d0, d1, d2, d3, d4, dz⟩ := block_cells5 q4
          have B4 := chain B3 g4
          clear g4 hw4
          go_wp2_with fail
          refine (clone_any _ l _ (HRD.out.below B4 (Nat.le_refl _)) (by omega)).mono ?_
          rintro e w5 ⟨v9, rfl, own9, b9⟩
          go_wp2_with fail
          go_ret2
          exact ⟨_, HRE.out _, by have h := own_up own9 B4.size; rw [HRR.out, ← CT.out]; exact h, chain B4 b9⟩
        · have EQ := fun W => it_eq_no y x hyx W
          unfold itV at EQ
          have CT := Lib.hid (show l.take (posL l x.key) ++ x :: l.drop (posL l x.key + 1) = withL l x by have h := with_in hso.out x FY.1 FY.2; rw [List.append_assoc] at h; exact h)
          clear hl hf FD0 e1 e2 hm2 hy FY hyx
          go_enter Tryd.func130, Tryd.ntmps130
          go_wp2_with fail
          refine (IS.out _ T0 (HRD.out.below B0 (Nat.le_refl _))).mono ?_
          rintro e w1 ⟨rfl, g1⟩
          have q1 := (g1.block _ (lt_of_block q0)).trans q0
          obtain ⟨d0, d1, d2, d3, d4, dz⟩ := block_cells5 q1
          have B1 := chain B0 g1
          clear g1
          go_wp2_with fail
          refine (MY.out.at _ (tab.below B1)).mono ?_
          rintro e w2 ⟨rfl, g2⟩
          have q2 := (g2.block _ (lt_of_block q1)).trans q1
          obtain ⟨d0, d1, d2, d3, d4, dz⟩ := block_cells5 q2
          have B2 := chain B1 g2
          clear g2
          go_wp2_with fail
          refine (FD.out _ (HRD.out.below B2 (Nat.le_refl _))).mono ?_
          rintro e w3 ⟨rfl, n3, hw3⟩
          have g3 : Below w2.heap.size w2 w3 := by rw [hw3]; exact below_drewN (Below.refl _ _)
          have q3 := (g3.block _ (lt_of_block q2)).trans q2
          obtain ⟨d0, d1, d2, d3, d4, dz⟩ := block_cells5 q3
          have B3 := chain B2 g3
          clear g3 hw3
          have hrd := HRD.out.below B3 (Nat.le_refl _)
          obtain ⟨b, off, rfl, hb, c0, c1, c2, c3, c4⟩ := rdi_cells hrd p hpl
          rw [HX.out hpl] at c0 c1 c2 c3 c4
          clear hrd
          go_wp2_with fail
          go_quiet (fail)
          obtain ⟨w4, hw4⟩ : ∃ w4, w4 = w3.drewN nq := ⟨_, rfl⟩
          have g4 : Below w3.heap.size w3 w4 := by rw [hw4]; exact below_drewN (Below.refl _ _)
          rw [← hw4]
          have q4 := (g4.block _ (lt_of_block q3)).trans q3
          obtain ⟨d0, d1, d2, d3, d4, dz⟩ := block_cells5 q4
          have B4 := chain B3 g4
          clear g4 hw4
          clear EQ c0 c1 c2 c3 c4
          obtain ⟨q, hq⟩ : ∃ q, q = p + 1 := ⟨_, rfl⟩
          have hql : q ≤ l.length := by omega
          have HQ := Lib.hid hq
          have hrd := HRD.out.below B4 (Nat.le_refl _)
          obtain ⟨A, hA, CA⟩ := rdi_cut hrd 0 p (Nat.zero_le _) (by omega)
          obtain ⟨C, hC, CC⟩ := rdi_cut hrd q l.length (by omega) (Nat.le_refl _)
          rw [Nat.sub_zero, List.drop_zero] at hA
          rw [List.take_of_length_le (by rw [List.length_drop]; omega)] at hC
          obtain ⟨LA, hLA⟩ : ∃ LA, LA = l.take p := ⟨_, rfl⟩
          obtain ⟨LC, hLC⟩ : ∃ LC, LC = l.drop q := ⟨_, rfl⟩
          rw [← hLA] at hA
          rw [← hLC] at hC
          obtain ⟨aA, cA, rfl, -, -, hA⟩ := RdK.open hA
          obtain ⟨aC, cC, rfl, -, -, hC⟩ := RdK.open hC
          have hA : RdI _ _ _ := hA
          have hC : RdI _ _ _ := hC
          have HFL := Lib.hid (show [LA, [x], LC].flatten = withL l x from by rw [hLA, hLC, hq, PS.out]; simp; exact CT.out)
          have HLN := Lib.hid (show [LA, [x], LC].flatten.length ≤ 1000 from by rw [hLA, hLC]; simp; omega)
          have HZ := Lib.hid (show ((w4.drew).alloc (.cells #[.string (str x.key), .int .i64 x.v.k, .int .i64 x.v.i, .string (str x.v.s), .int .i64 x.ver] 53)).heap.size = w4.heap.size + 1 from by rw [World.size_alloc]; rfl)
          clear hrd hLA hLC hq
          go_wp2_with fail
          refine g_start (by kernel_rfl) ?_
          refine g_take (i := 0) (d := (some 37)) (v := ?_) rfl rfl (by kernel_rfl) (fun _ _ _ h => h) (by rfl) (fun w' hb' => ?_) ?_
          rotate_left
          · (try go_simp); (try with_reducible rfl)
          try simp only [Act.put, List.setIfInBounds_toArray, List.set_cons_zero, List.set_cons_succ]
          refine g_take (i := 1) (d := (some 38)) (v := ?_) rfl rfl (by kernel_rfl) (fun _ _ _ h => h) (by rfl) (fun w' hb' => ?_) ?_
          rotate_left
          · (try go_simp); (try with_reducible rfl)
          try simp only [Act.put, List.setIfInBounds_toArray, List.set_cons_zero, List.set_cons_succ]
          refine g_take (i := 2) (d := (some 39)) (v := ?_) rfl rfl (by kernel_rfl) (fun _ _ _ h => h) (by rfl) (fun w' hb' => ?_) ?_
          rotate_left
          · refine CA.to _ _ (.tmp 37) (.tmp 38) .i64 ?_ ?_ ?_ w' <;> rfl; (try go_simp); (try with_reducible rfl)
          try simp only [Act.put, List.setIfInBounds_toArray, List.set_cons_zero, List.set_cons_succ]
          refine g_take (i := 3) (d := (some 40)) (v := ?_) rfl rfl (by kernel_rfl) (fun _ _ _ h => h) (by rfl) (fun w' hb' => ?_) ?_
          rotate_left
          · obtain ⟨d0, d1, d2, d3, d4, dz⟩ := block_cells5 ((hb'.block _ (lt_of_block q4)).trans q4); (try go_simp); (try with_reducible rfl)
          try simp only [Act.put, List.setIfInBounds_toArray, List.set_cons_zero, List.set_cons_succ]
          refine g_take (i := 5) (d := (some 42)) (v := ?_) rfl rfl (by kernel_rfl) (fun _ _ _ h => h) (by rfl) (fun w' hb' => ?_) ?_
          rotate_left
          · (try go_simp); (try with_reducible rfl)
          try simp only [Act.put, List.setIfInBounds_toArray, List.set_cons_zero, List.set_cons_succ]
          refine g_take (i := 6) (d := (some 43)) (v := ?_) rfl rfl (by kernel_rfl) (fun _ _ _ h => h) (by rfl) (fun w' hb' => ?_) ?_
          rotate_left
          · (try go_simp); (try with_reducible rfl)
          try simp only [Act.put, List.setIfInBounds_toArray, List.set_cons_zero, List.set_cons_succ]
          refine g_take (i := 7) (d := (some 44)) (v := ?_) rfl rfl (by kernel_rfl) (fun _ _ _ h => h) (by rfl) (fun w' hb' => ?_) ?_
          rotate_left
          · have e1 : IntKind.i64.wrap ((p : Int) + 1) = (q : Int) := (by rw [HQ.out, IntKind.wrap_i64]; omega); (try go_simp); (try with_reducible rfl)
          try simp only [Act.put, List.setIfInBounds_toArray, List.set_cons_zero, List.set_cons_succ]
          refine g_take (i := 8) (d := (some 45)) (v := ?_) rfl rfl (by kernel_rfl) (fun _ _ _ h => h) (by rfl) (fun w' hb' => ?_) ?_
          rotate_left
          · refine CC.from _ _ (.tmp 42) (.tmp 44) .i64 ?_ ?_ ?_ w' <;> rfl; (try go_simp); (try with_reducible rfl)
          try simp only [Act.put, List.setIfInBounds_toArray, List.set_cons_zero, List.set_cons_succ]
          refine g_run (i := 4) rfl (by kernel_rfl) (by rfl) (fun K hK => ?_)
          go_simp; refine hK _ _ ⟨(Below.refl _ _).alloc (Nat.le_refl _) _, ?_⟩; clear hK K
          try simp only [Act.put, List.setIfInBounds_toArray, List.set_cons_zero, List.set_cons_succ]
          refine g_run (i := 9) rfl (by kernel_rfl) (by rfl) (fun K hK => ?_)
          go_simp; refine hK _ _ ⟨(Below.refl _ _).alloc (Nat.le_refl _) _, ?_⟩; clear hK K
          try simp only [Act.put, List.setIfInBounds_toArray, List.set_cons_zero, List.set_cons_succ]
          refine g_run (i := 10) rfl (by kernel_rfl) (by rfl) (fun K hK => ?_)
          go_simp
          refine (concat_any _ [LA, [x], LC] _ (rdls_mk (n := 3) (ls := [LA, [x], LC]) (by rw [← HZ.out]; exact heap_alloc_new _ _) rfl (by decide) (fun j hj => match j, hj with
            | 0, _ => ⟨_, rfl, hA.below ((((Below.refl _ _).drew).alloc (Nat.le_refl _) _).alloc (by simp) _) (Nat.le_refl _)⟩
            | 1, _ => ⟨_, rfl, rdi_one (by rw [heap_alloc_old _ _ (by simp)]; exact heap_alloc_new _ _) rfl⟩
            | 2, _ => ⟨_, rfl, hC.below ((((Below.refl _ _).drew).alloc (Nat.le_refl _) _).alloc (by simp) _) (Nat.le_refl _)⟩)) (by simp) HLN.out).mono ?_
          rintro e w9 ⟨v9, rfl, own9, b9⟩
          refine hK _ _ ⟨b9, ?_⟩
          clear hK K
          try simp only [Act.put, List.setIfInBounds_toArray, List.set_cons_zero, List.set_cons_succ]
          refine g_take (i := 11) (d := (some 4)) (v := ?_) rfl rfl (by kernel_rfl) (fun _ _ _ h => h) (by rfl) (fun w' hb' => ?_) ?_
          rotate_left
          · (try go_simp); (try with_reducible rfl)
          try simp only [Act.put, List.setIfInBounds_toArray, List.set_cons_zero, List.set_cons_succ]
          refine g_take (i := 12) (d := (some 5)) (v := ?_) rfl rfl (by kernel_rfl) (fun _ _ _ h => h) (by rfl) (fun w' hb' => ?_) ?_
          rotate_left
          · (try go_simp); (try with_reducible rfl)
          try simp only [Act.put, List.setIfInBounds_toArray, List.set_cons_zero, List.set_cons_succ]
          refine g_done (by kernel_rfl) ?_
          go_wp2_with fail
          go_ret2
          obtain ⟨o9, z9⟩ := end_three B4 b9 own9
          exact ⟨_, HRE.out _, by rw [HFL.out] at o9; rw [HRR.out]; exact o9, z9⟩
      | false =>
        simp only [hf] at FD0
        have FD := Lib.hid FD0
        have hpl : p ≤ l.length := by rw [PS.out]; exact posL_le _ _
        by_cases h6 : l.length = 64
        · have e1 : putE l x = 5 := by unfold putE; rw [hl, hm2, hf]; simp [h6]
          have e2 : putR l x = [] := by unfold putR; rw [e1]; rfl
          rw [e1, e2]
          have k1 : ((l.length : Int) == 64) = true := by simp [h6]
          have H6 := Lib.hid h6
          clear hl hf FD0 e1 e2 hm2 h6
          go_enter Tryd.func130, Tryd.ntmps130
          go_wp2_with fail
          refine (IS.out _ T0 (HRD.out.below B0 (Nat.le_refl _))).mono ?_
          rintro e w1 ⟨rfl, g1⟩
          have q1 := (g1.block _ (lt_of_block q0)).trans q0
          obtain ⟨d0, d1, d2, d3, d4, dz⟩ := block_cells5 q1
          have B1 := chain B0 g1
          clear g1
          go_wp2_with fail
          refine (MY.out.at _ (tab.below B1)).mono ?_
          rintro e w2 ⟨rfl, g2⟩
          have q2 := (g2.block _ (lt_of_block q1)).trans q1
          obtain ⟨d0, d1, d2, d3, d4, dz⟩ := block_cells5 q2
          have B2 := chain B1 g2
          clear g2
          go_wp2_with fail
          refine (FD.out _ (HRD.out.below B2 (Nat.le_refl _))).mono ?_
          rintro e w3 ⟨rfl, n3, hw3⟩
          have g3 : Below w2.heap.size w2 w3 := by rw [hw3]; exact below_drewN (Below.refl _ _)
          have q3 := (g3.block _ (lt_of_block q2)).trans q2
          obtain ⟨d0, d1, d2, d3, d4, dz⟩ := block_cells5 q3
          have B3 := chain B2 g3
          clear g3 hw3
          go_wp2_with fail
          go_quiet (fail)
          obtain ⟨w4, hw4⟩ : ∃ w4, w4 = w3.drewN nq := ⟨_, rfl⟩
          have g4 : Below w3.heap.size w3 w4 := by rw [hw4]; exact below_drewN (Below.refl _ _)
          rw [← hw4]
          have q4 := (g4.block _ (lt_of_block q3)).trans q3
          obtain ⟨d0, d1, d2, d3, d4, dz⟩ := block_cells5 q4
          have B4 := chain B3 g4
          clear g4 hw4
          go_wp2_with fail
          go_ret2
          exact ownIE_nil rfl B4
        · have e1 : putE l x = 0 := by unfold putE; rw [hl, hm2, hf]; simp [h6]
          have e2 : putR l x = withL l x := by unfold putR; rw [e1]; rfl
          have HRE := Lib.hid (show ∀ v : Value, Ending.returned (.tuple #[v, .int .i64 0]) = .returned (.tuple #[v, .int .i64 ((putE l x : Nat) : Int)]) by intro v; rw [e1]; rfl)
          have HRR := Lib.hid e2
          have CT := Lib.hid (show l.take (posL l x.key) ++ x :: l.drop (posL l x.key) = withL l x by have h := with_out hso.out x (found_no hf); rw [List.append_assoc] at h; exact h)
          have k1 : ((l.length : Int) == 64) = false := by simp; omega
          clear hl hf FD0 e1 e2 hm2 h6
          go_enter Tryd.func130, Tryd.ntmps130
          go_wp2_with fail
          refine (IS.out _ T0 (HRD.out.below B0 (Nat.le_refl _))).mono ?_
          rintro e w1 ⟨rfl, g1⟩
          have q1 := (g1.block _ (lt_of_block q0)).trans q0
          obtain ⟨d0, d1, d2, d3, d4, dz⟩ := block_cells5 q1
          have B1 := chain B0 g1
          clear g1
          go_wp2_with fail
          refine (MY.out.at _ (tab.below B1)).mono ?_
          rintro e w2 ⟨rfl, g2⟩
          have q2 := (g2.block _ (lt_of_block q1)).trans q1
          obtain ⟨d0, d1, d2, d3, d4, dz⟩ := block_cells5 q2
          have B2 := chain B1 g2
          clear g2
          go_wp2_with fail
          refine (FD.out _ (HRD.out.below B2 (Nat.le_refl _))).mono ?_
          rintro e w3 ⟨rfl, n3, hw3⟩
          have g3 : Below w2.heap.size w2 w3 := by rw [hw3]; exact below_drewN (Below.refl _ _)
          have q3 := (g3.block _ (lt_of_block q2)).trans q2
          obtain ⟨d0, d1, d2, d3, d4, dz⟩ := block_cells5 q3
          have B3 := chain B2 g3
          clear g3 hw3
          go_wp2_with fail
          go_quiet (fail)
          obtain ⟨w4, hw4⟩ : ∃ w4, w4 = w3.drewN nq := ⟨_, rfl⟩
          have g4 : Below w3.heap.size w3 w4 := by rw [hw4]; exact below_drewN (Below.refl _ _)
          rw [← hw4]
          have q4 := (g4.block _ (lt_of_block q3)).trans q3
          obtain ⟨d0, d1, d2, d3, d4, dz⟩ := block_cells5 q4
          have B4 := chain B3 g4
          clear g4 hw4
          have hrd := HRD.out.below B4 (Nat.le_refl _)
          obtain ⟨A, hA, CA⟩ := rdi_cut hrd 0 p (Nat.zero_le _) (by omega)
          obtain ⟨C, hC, CC⟩ := rdi_cut hrd p l.length (by omega) (Nat.le_refl _)
          rw [Nat.sub_zero, List.drop_zero] at hA
          rw [List.take_of_length_le (by rw [List.length_drop]; omega)] at hC
          obtain ⟨LA, hLA⟩ : ∃ LA, LA = l.take p := ⟨_, rfl⟩
          obtain ⟨LC, hLC⟩ : ∃ LC, LC = l.drop p := ⟨_, rfl⟩
          rw [← hLA] at hA
          rw [← hLC] at hC
          obtain ⟨aA, cA, rfl, -, -, hA⟩ := RdK.open hA
          obtain ⟨aC, cC, rfl, -, -, hC⟩ := RdK.open hC
          have hA : RdI _ _ _ := hA
          have hC : RdI _ _ _ := hC
          have HFL := Lib.hid (show [LA, [x], LC].flatten = withL l x from by rw [hLA, hLC, PS.out]; simp; exact CT.out)
          have HLN := Lib.hid (show [LA, [x], LC].flatten.length ≤ 1000 from by rw [hLA, hLC]; simp; omega)
          have HZ := Lib.hid (show ((w4.drew).alloc (.cells #[.string (str x.key), .int .i64 x.v.k, .int .i64 x.v.i, .string (str x.v.s), .int .i64 x.ver] 53)).heap.size = w4.heap.size + 1 from by rw [World.size_alloc]; rfl)
          clear hrd hLA hLC
          go_wp2_with fail
          refine g_start (by kernel_rfl) ?_
          refine g_take (i := 0) (d := (some 52)) (v := ?_) rfl rfl (by kernel_rfl) (fun _ _ _ h => h) (by rfl) (fun w' hb' => ?_) ?_
          rotate_left
          · (try go_simp); (try with_reducible rfl)
          try simp only [Act.put, List.setIfInBounds_toArray, List.set_cons_zero, List.set_cons_succ]
          refine g_take (i := 1) (d := (some 53)) (v := ?_) rfl rfl (by kernel_rfl) (fun _ _ _ h => h) (by rfl) (fun w' hb' => ?_) ?_
          rotate_left
          · (try go_simp); (try with_reducible rfl)
          try simp only [Act.put, List.setIfInBounds_toArray, List.set_cons_zero, List.set_cons_succ]
          refine g_take (i := 2) (d := (some 54)) (v := ?_) rfl rfl (by kernel_rfl) (fun _ _ _ h => h) (by rfl) (fun w' hb' => ?_) ?_
          rotate_left
          · refine CA.to _ _ (.tmp 52) (.tmp 53) .i64 ?_ ?_ ?_ w' <;> rfl; (try go_simp); (try with_reducible rfl)
          try simp only [Act.put, List.setIfInBounds_toArray, List.set_cons_zero, List.set_cons_succ]
          refine g_take (i := 3) (d := (some 55)) (v := ?_) rfl rfl (by kernel_rfl) (fun _ _ _ h => h) (by rfl) (fun w' hb' => ?_) ?_
          rotate_left
          · obtain ⟨d0, d1, d2, d3, d4, dz⟩ := block_cells5 ((hb'.block _ (lt_of_block q4)).trans q4); (try go_simp); (try with_reducible rfl)
          try simp only [Act.put, List.setIfInBounds_toArray, List.set_cons_zero, List.set_cons_succ]
          refine g_take (i := 5) (d := (some 57)) (v := ?_) rfl rfl (by kernel_rfl) (fun _ _ _ h => h) (by rfl) (fun w' hb' => ?_) ?_
          rotate_left
          · (try go_simp); (try with_reducible rfl)
          try simp only [Act.put, List.setIfInBounds_toArray, List.set_cons_zero, List.set_cons_succ]
          refine g_take (i := 6) (d := (some 58)) (v := ?_) rfl rfl (by kernel_rfl) (fun _ _ _ h => h) (by rfl) (fun w' hb' => ?_) ?_
          rotate_left
          · (try go_simp); (try with_reducible rfl)
          try simp only [Act.put, List.setIfInBounds_toArray, List.set_cons_zero, List.set_cons_succ]
          refine g_take (i := 7) (d := (some 59)) (v := ?_) rfl rfl (by kernel_rfl) (fun _ _ _ h => h) (by rfl) (fun w' hb' => ?_) ?_
          rotate_left
          · refine CC.from _ _ (.tmp 57) (.tmp 58) .i64 ?_ ?_ ?_ w' <;> rfl; (try go_simp); (try with_reducible rfl)
          try simp only [Act.put, List.setIfInBounds_toArray, List.set_cons_zero, List.set_cons_succ]
          refine g_run (i := 4) rfl (by kernel_rfl) (by rfl) (fun K hK => ?_)
          go_simp; refine hK _ _ ⟨(Below.refl _ _).alloc (Nat.le_refl _) _, ?_⟩; clear hK K
          try simp only [Act.put, List.setIfInBounds_toArray, List.set_cons_zero, List.set_cons_succ]
          refine g_run (i := 8) rfl (by kernel_rfl) (by rfl) (fun K hK => ?_)
          go_simp; refine hK _ _ ⟨(Below.refl _ _).alloc (Nat.le_refl _) _, ?_⟩; clear hK K
          try simp only [Act.put, List.setIfInBounds_toArray, List.set_cons_zero, List.set_cons_succ]
          refine g_run (i := 9) rfl (by kernel_rfl) (by rfl) (fun K hK => ?_)
          go_simp
          refine (concat_any _ [LA, [x], LC] _ (rdls_mk (n := 3) (ls := [LA, [x], LC]) (by rw [← HZ.out]; exact heap_alloc_new _ _) rfl (by decide) (fun j hj => match j, hj with
            | 0, _ => ⟨_, rfl, hA.below ((((Below.refl _ _).drew).alloc (Nat.le_refl _) _).alloc (by simp) _) (Nat.le_refl _)⟩
            | 1, _ => ⟨_, rfl, rdi_one (by rw [heap_alloc_old _ _ (by simp)]; exact heap_alloc_new _ _) rfl⟩
            | 2, _ => ⟨_, rfl, hC.below ((((Below.refl _ _).drew).alloc (Nat.le_refl _) _).alloc (by simp) _) (Nat.le_refl _)⟩)) (by simp) HLN.out).mono ?_
          rintro e w9 ⟨v9, rfl, own9, b9⟩
          refine hK _ _ ⟨b9, ?_⟩
          clear hK K
          try simp only [Act.put, List.setIfInBounds_toArray, List.set_cons_zero, List.set_cons_succ]
          refine g_take (i := 10) (d := (some 4)) (v := ?_) rfl rfl (by kernel_rfl) (fun _ _ _ h => h) (by rfl) (fun w' hb' => ?_) ?_
          rotate_left
          · (try go_simp); (try with_reducible rfl)
          try simp only [Act.put, List.setIfInBounds_toArray, List.set_cons_zero, List.set_cons_succ]
          refine g_take (i := 11) (d := (some 5)) (v := ?_) rfl rfl (by kernel_rfl) (fun _ _ _ h => h) (by rfl) (fun w' hb' => ?_) ?_
          rotate_left
          · (try go_simp); (try with_reducible rfl)
          try simp only [Act.put, List.setIfInBounds_toArray, List.set_cons_zero, List.set_cons_succ]
          refine g_done (by kernel_rfl) ?_
          go_wp2_with fail
          go_ret2
          obtain ⟨o9, z9⟩ := end_three B4 b9 own9
          exact ⟨_, HRE.out _, by rw [HFL.out] at o9; rw [HRR.out]; exact o9, z9⟩
end Go.Proofs.YtbdfcgffkonbiaaDoor
