/- Slots: the document's Primary, Who, Prepared, Committed. Written by wip/tools/gen29f.py. -/
import Derived.Test.YtgmblgpfgdfnaaaDoorQSPC14
import Derived.Deep.QuietTactic
import Derived.BigQuiet
namespace Go.Proofs.YtgmblgpfgdfnaaaDoor
open Go Go.RowKit
set_option linter.unusedVariables false
set_option linter.unusedSimpArgs false
set_option maxRecDepth 100000
theorem refPrimary_core (v n p : Int) (h : 1 ≤ n) (hn : n ≤ 9223372036854775807) (h1 : -n < v.tmod n) (h2 : v.tmod n < n) (h3 : Hid (v.tmod n < 0 → v.tmod n + n = p)) (h4 : Hid (0 ≤ v.tmod n → v.tmod n = p)) (w : World) :
    Calls Tryd.prog 18 #[.int .i64 v, .int .i64 n] w fun e w' => e = .returned (.int .i64 p) ∧ w = w' := by
  go_enter Tryd.func18, Tryd.ntmps18
  go_wp2_with fail
  · have q : v.tmod n < 0 := by assumption
    go_ret
    exact ⟨by rw [← h3.out q]; rfl, rfl⟩
  · have q : 0 ≤ v.tmod n := by assumption
    go_ret
    exact ⟨by rw [← h4.out q]; rfl, rfl⟩
theorem refPrimary_any (v n : Int) (hn : n ≤ 9223372036854775807) (w : World) :
    Calls Tryd.prog 18 #[.int .i64 v, .int .i64 n] w fun e w' => e = .returned (.int .i64 (primZ v n)) ∧ w = w' := by
  by_cases h : n < 1
  · rw [primZ, if_pos h]
    go_enter Tryd.func18, Tryd.ntmps18
    go_wp2_with fail
    go_ret
    exact ⟨rfl, rfl⟩
  · rw [primZ, if_neg h]
    obtain ⟨h1, h2, h3, h4⟩ := tmod_facts v n (by omega)
    exact refPrimary_core v n _ (by omega) hn h1 h2 (Lib.hid h3) (Lib.hid h4) w
def izV (n : Int) : Value := .int .i64 n
/-- What a call hands back is a list of numbers of its own. -/
def OwnZ (w : World) (l : List Int) (e : Ending) (w' : World) : Prop := ∃ a c, e = .returned (.slice a l.length c) ∧ w'.ownsRow w.heap.size 3 1 (.slice a l.length c) l.length (l.map izV) ∧ Below w.heap.size w w'
theorem ownz_val {w : World} {base : Nat} {e : TypeId} {v : Value} {l : List Int} (h : w.ownsRow base e 1 v l.length (l.map izV)) : ∃ a c, v = .slice a l.length c := by
  rcases h.2 with ⟨h1, h2⟩ | ⟨g, cap, cur, h1, _⟩
  · exact ⟨none, 0, by rw [h1, h2]⟩
  · exact ⟨_, _, h1⟩
theorem own_drewN {w : World} {base : Nat} {e : TypeId} {s : Nat} {v : Value} {n : Nat} {xs : List Value} {k : Nat} (h : w.ownsRow base e s v n xs) : (w.drewN k).ownsRow base e s v n xs := h
theorem own_base {w : World} {base b : Nat} {e : TypeId} {s : Nat} {v : Value} {n : Nat} {xs : List Value} (h : w.ownsRow base e s v n xs) (hb : b ≤ base) : w.ownsRow b e s v n xs := by
  refine ⟨h.1, ?_⟩
  rcases h.2 with h1 | ⟨g, cap, cur, h1, h2, h3⟩
  · exact .inl h1
  · exact .inr ⟨g, cap, cur, h1, Nat.le_trans hb h2, h3⟩
set_option maxHeartbeats 1000000 in
theorem who_any (s : Sl) (vP vC v : Value) (l : List Vt) (n but : Int) (w : World) (h : RdT w v l) (h64 : l.length ≤ 1000) : Calls Tryd.prog 38 #[sV s vP vC, v, .int .i64 n, .int .i64 but] w (OwnZ w (whoL s.vw s.tm l n but)) := by
  obtain ⟨i0, hi, hz0, hz1, hz2⟩ := info_parts intinfo
  obtain ⟨ao, cap, rfl, hc, hm, hr⟩ := RdK.open h
  have hr : RdT w (.slice ao l.length cap) l := hr
  obtain ⟨has, vw, tm, body, ps, cs⟩ := s
  unfold sV
  simp only
  obtain ⟨S, hS⟩ : ∃ S, S = str body := ⟨_, rfl⟩
  rw [← hS]
  obtain ⟨R, hR⟩ : ∃ R, R = whoL vw tm l n but := ⟨_, rfl⟩
  rw [← hR]
  have HR := Lib.hid hR
  obtain ⟨W0, hW0⟩ : ∃ W0, W0 = w.alloc (.cells #[.bool has, .int .i64 vw, .int .i64 tm, .string S, vP, vC] 24) := ⟨_, rfl⟩
  have q0 : W0.heap[w.heap.size]? = some (.cells #[.bool has, .int .i64 vw, .int .i64 tm, .string S, vP, vC] 24 (0, 0)) := by rw [hW0]; exact heap_alloc_new _ _
  have B0 : Below w.heap.size w W0 := by rw [hW0]; exact (Below.refl _ _).alloc (Nat.le_refl _) _
  have HRD := Lib.hid (hr.below B0 (Nat.le_refl _))
  clear h hr hS hR
  go_enter Tryd.func38, Tryd.ntmps38
  go_wp2_with fail
  rw [← hW0]
  clear hW0
  go_loopw [9, 10] (fun o i wr => ∃ (k : Nat) (acc : List Int), k ≤ l.length ∧ i = .int .i64 (k : Int) ∧ acc.length ≤ k ∧ Hid (acc = whoL vw tm (l.take k) n but) ∧ wr.ownsRow W0.heap.size 3 1 o acc.length (acc.map izV) ∧ Below W0.heap.size W0 wr) (fun _ i _ => l.length - (intOf i).toNat)
  case atStart => exact ⟨0, [], Nat.zero_le _, rfl, Nat.le_refl _, Lib.hid rfl, World.ownsRow_nil _ _ _ _, Below.refl _ _⟩
  case round =>
    obtain ⟨k, acc, hk, rfl, hacc, HA, hown, bel⟩ := hrel
    by_cases hlt : k < l.length
    · obtain ⟨pb, po, rfl, hpb, C0, C1, C2⟩ := rdt_cells HRD.out k hlt
      have c0 := (bel.cell (p := ⟨pb, po + k * 3, none⟩) hpb).trans C0
      have c1 := (bel.cell (p := ⟨pb, po + k * 3 + 1, none⟩) hpb).trans C1
      have c2 := (bel.cell (p := ⟨pb, po + k * 3 + 2, none⟩) hpb).trans C2
      have q1 := (bel.block _ (lt_of_block q0)).trans q0
      obtain ⟨d0, d1, d2, d3, d4, d5, df⟩ := block_cells6 q1
      have UP := Lib.hid (who_up (vw := vw) (tm := tm) (n := n) (but := but) hlt)
      obtain ⟨x, hx⟩ : ∃ x, x = l[k] := ⟨_, rfl⟩
      rw [← hx] at c0 c1 c2 UP
      rw [← HA.out] at UP
      clear C0 C1 C2 hx q1
      obtain ⟨a, b, c⟩ := x
      simp only at c0 c1 c2
      by_cases he0 : a < n
      · have fe0 : decide (a < n) = true := decide_eq_true he0
        by_cases he1 : a ≠ but
        · have fe1 : (a != but) = true := by simpa using he1
          by_cases he2 : b = vw
          · have fe2 : (b == vw) = true := by simpa using he2
            by_cases he3 : c = tm
            · have fe3 : (c == tm) = true := by simpa using he3
              have HN := Lib.hid (show acc ++ [a] = whoL vw tm (l.take (k + 1)) n but by rw [UP.out, if_pos (by unfold mat; simp [he0, he1, he2, he3])])
              clear he0 he1 he2 he3
              go_wp2_with fail
              go_quiet (fail)
              have bel2 := below_drewN (k := nq) bel
              have hown2 := own_drewN (k := nq) hown
              have c0 : (wr.drewN nq).cell? ⟨pb, po + k * 3, none⟩ = some (.int .i64 a) := c0
              go_wp2_with (at_builtin; refine wpList_app1 W0 rfl (.tmp 53) (.tmp 59) 69 rfl W0.heap.size 3 i0 (.int .i64 0) 8 Tryd.underlying69 hi hz0 hz1 hz2 rfl _ _ _ rfl hown2 _ (izV a) rfl rfl (by unfold maxLen; omega) (by omega) (Nat.le_refl _) bel2 ?_; intro v' w9 hown' hb')
              exact ⟨⟨k + 1, acc ++ [a], by omega, by push_cast; rfl, by simp; omega, HN, by simpa using hown', hb'⟩, by simp [intOf]; omega⟩
            · have fe3 : (c == tm) = false := by simpa using he3
              have HN := Lib.hid (show acc = whoL vw tm (l.take (k + 1)) n but by rw [UP.out, if_neg (by unfold mat; simp [he0, he1, he2, he3])])
              clear he0 he1 he2 he3
              go_wp2_with fail
              go_quiet (fail)
              have bel2 := below_drewN (k := nq) bel
              have hown2 := own_drewN (k := nq) hown
              go_wp2_with fail
              exact ⟨⟨k + 1, acc, by omega, by push_cast; rfl, by omega, HN, hown2, bel2⟩, by simp [intOf]; omega⟩
          · have fe2 : (b == vw) = false := by simpa using he2
            have HN := Lib.hid (show acc = whoL vw tm (l.take (k + 1)) n but by rw [UP.out, if_neg (by unfold mat; simp [he0, he1, he2])])
            clear he0 he1 he2
            go_wp2_with fail
            go_quiet (fail)
            have bel2 := below_drewN (k := nq) bel
            have hown2 := own_drewN (k := nq) hown
            go_wp2_with fail
            exact ⟨⟨k + 1, acc, by omega, by push_cast; rfl, by omega, HN, hown2, bel2⟩, by simp [intOf]; omega⟩
        · have fe1 : (a != but) = false := by simpa using he1
          have HN := Lib.hid (show acc = whoL vw tm (l.take (k + 1)) n but by rw [UP.out, if_neg (by unfold mat; simp [he0, he1])])
          clear he0 he1
          go_wp2_with fail
          go_quiet (fail)
          have bel2 := below_drewN (k := nq) bel
          have hown2 := own_drewN (k := nq) hown
          go_wp2_with fail
          exact ⟨⟨k + 1, acc, by omega, by push_cast; rfl, by omega, HN, hown2, bel2⟩, by simp [intOf]; omega⟩
      · have fe0 : decide (a < n) = false := decide_eq_false he0
        have HN := Lib.hid (show acc = whoL vw tm (l.take (k + 1)) n but by rw [UP.out, if_neg (by unfold mat; simp [he0])])
        clear he0
        go_wp2_with fail
        go_quiet (fail)
        have bel2 := below_drewN (k := nq) bel
        have hown2 := own_drewN (k := nq) hown
        go_wp2_with fail
        exact ⟨⟨k + 1, acc, by omega, by push_cast; rfl, by omega, HN, hown2, bel2⟩, by simp [intOf]; omega⟩
    · obtain rfl : k = l.length := by omega
      have E := Lib.hid (show R = acc by rw [HR.out, HA.out, List.take_length])
      go_wp2_with fail
      go_ret
      obtain ⟨a9, c9, e9⟩ := ownz_val hown
      subst e9
      rw [E.out]
      refine ⟨a9, c9, rfl, ?_, chain B0 bel⟩
      exact own_base hown B0.size
set_option maxHeartbeats 1000000 in
theorem refPrepared_any (s : Sl) (vP vC : Value) (n : Int) (w : World) (h : RdS w s vP vC) (hn : -9223372036854775808 ≤ n ∧ n ≤ 9223372036854775807) (h64 : s.ps.length ≤ 1000) : Calls Tryd.prog 20 #[sV s vP vC, .int .i64 n] w fun e w' => e = .returned (.bool (prepB s n)) ∧ Below w.heap.size w w' := by
  have FA0 := fun w => refFaults_any n w
  have MY0 := fun w' (g : Below w.heap.size w w') => refMay_any s vP vC w' (h.below g (Nat.le_refl _))
  have PR0 := fun w => refPrimary_any s.vw n hn.2 w
  have WH0 := fun w' (g : Below w.heap.size w w') => who_any s vP vC vP s.ps n (primZ s.vw n) w' (h.p.below g (Nat.le_refl _)) h64
  have hb : 0 ≤ fN n ∧ fN n ≤ 5 := by have := fN_cases n; omega
  obtain ⟨R, hR⟩ : ∃ R, R = prepB s n := ⟨_, rfl⟩
  rw [← hR]
  unfold prepB at hR
  have hkk := who_len s.vw s.tm s.ps n (primZ s.vw n)
  obtain ⟨f, hf⟩ : ∃ f, f = fN n := ⟨_, rfl⟩
  rw [← hf] at FA0 hb hR
  obtain ⟨m, hm⟩ : ∃ m, m = mayS s := ⟨_, rfl⟩
  rw [← hm] at MY0 hR
  obtain ⟨L, hL⟩ : ∃ L, L = whoL s.vw s.tm s.ps n (primZ s.vw n) := ⟨_, rfl⟩
  rw [← hL] at WH0 hR hkk
  obtain ⟨k, hk⟩ : ∃ k, k = L.length := ⟨_, rfl⟩
  unfold OwnZ at WH0
  rw [← hk] at hR hkk WH0
  obtain ⟨p, hp⟩ : ∃ p, p = primZ s.vw n := ⟨_, rfl⟩
  rw [← hp] at PR0 WH0
  obtain ⟨has, vw, tm, body, ps, cs⟩ := s
  simp only at hR PR0 hkk h64
  unfold sV at MY0 WH0 ⊢
  simp only at MY0 WH0 ⊢
  obtain ⟨S, hS⟩ : ∃ S, S = str body := ⟨_, rfl⟩
  rw [← hS] at MY0 WH0 ⊢
  have HR := Lib.hid hR
  have FA := Lib.hid FA0
  have MY := Lib.hid MY0
  have PR := Lib.hid PR0
  have WH := Lib.hid WH0
  have HL := Lib.hid (show (0 : Int) = 0 from rfl)
  have hk9 : k ≤ 1000 := by omega
  have F30 := Lib.hid (show IntKind.i64.wrap (2 * f) = 2 * f by rw [IntKind.wrap_i64]; omega)
  have q0 := heap_alloc_new w (.cells #[.bool has, .int .i64 vw, .int .i64 tm, .string S, vP, vC] 24)
  have bel := (Below.refl w.heap.size w).alloc (Nat.le_refl _) (.cells #[.bool has, .int .i64 vw, .int .i64 tm, .string S, vP, vC] 24)
  clear h FA0 MY0 PR0 WH0 hS hR hf hm hL hk hp hn hkk h64
  by_cases hf0 : f = 0
  · subst hf0
    have hf0 : (0 : Int) = 0 := rfl
    have RES := Lib.hid (show R = false by rw [HR.out]; simp [hf0])
    have F9 := Lib.hid (show decide (0 < (0 : Int)) = false by simp)
    clear hf0
    go_enter Tryd.func20, Tryd.ntmps20
    go_wp2_with ((with_reducible refine (FA.out _).mono ?_); rintro e w9 ⟨rfl, rfl⟩)
    have q0 : ((w.alloc (.cells #[.bool has, .int .i64 vw, .int .i64 tm, .string S, vP, vC] 24)).drew).heap[w.heap.size]? = some (.cells #[.bool has, .int .i64 vw, .int .i64 tm, .string S, vP, vC] 24 (0, 0)) := q0
    have BL := bel.drew
    refine g_start (by kernel_rfl) ?_
    refine g_take (i := 0) (d := (some 8)) (v := ?_) rfl rfl (by kernel_rfl) (fun _ _ _ h => h) (by rfl) (fun w' hb' => ?_) ?_
    rotate_left
    · (try go_simp); (try with_reducible rfl)
    try simp only [Act.put, List.setIfInBounds_toArray, List.set_cons_zero, List.set_cons_succ]
    refine g_take (i := 1) (d := (some 9)) (v := ?_) rfl rfl (by kernel_rfl) (fun _ _ _ h => h) (by rfl) (fun w' hb' => ?_) ?_
    rotate_left
    · have z9 := F9.out; (try go_simp); (try with_reducible rfl)
    try simp only [Act.put, List.setIfInBounds_toArray, List.set_cons_zero, List.set_cons_succ]
    refine g_take (i := 2) (d := (some 10)) (v := ?_) rfl rfl (by kernel_rfl) (fun _ _ _ h => h) (by rfl) (fun w' hb' => ?_) ?_
    rotate_left
    · (try go_simp); (try with_reducible rfl)
    try simp only [Act.put, List.setIfInBounds_toArray, List.set_cons_zero, List.set_cons_succ]
    refine g_skip (i := 3) (d := (some 11)) rfl rfl (by kernel_rfl) (fun _ _ _ h => h) (by rfl) ?_
    try simp only [Act.put, List.setIfInBounds_toArray, List.set_cons_zero, List.set_cons_succ]
    refine g_skip (i := 4) (d := (some 12)) rfl rfl (by kernel_rfl) (fun _ _ _ h => h) (by rfl) ?_
    try simp only [Act.put, List.setIfInBounds_toArray, List.set_cons_zero, List.set_cons_succ]
    refine g_take (i := 5) (d := (some 13)) (v := ?_) rfl rfl (by kernel_rfl) (fun _ _ _ h => h) (by rfl) (fun w' hb' => ?_) ?_
    rotate_left
    · (try go_simp); (try with_reducible rfl)
    try simp only [Act.put, List.setIfInBounds_toArray, List.set_cons_zero, List.set_cons_succ]
    refine g_take (i := 6) (d := (some 14)) (v := ?_) rfl rfl (by kernel_rfl) (fun _ _ _ h => h) (by rfl) (fun w' hb' => ?_) ?_
    rotate_left
    · (try go_simp); (try with_reducible rfl)
    try simp only [Act.put, List.setIfInBounds_toArray, List.set_cons_zero, List.set_cons_succ]
    refine g_skip (i := 7) (d := (some 15)) rfl rfl (by kernel_rfl) (fun _ _ _ h => h) (by rfl) ?_
    try simp only [Act.put, List.setIfInBounds_toArray, List.set_cons_zero, List.set_cons_succ]
    refine g_skip (i := 8) (d := (some 16)) rfl rfl (by kernel_rfl) (fun _ _ _ h => h) (by rfl) ?_
    try simp only [Act.put, List.setIfInBounds_toArray, List.set_cons_zero, List.set_cons_succ]
    refine g_take (i := 9) (d := (some 17)) (v := ?_) rfl rfl (by kernel_rfl) (fun _ _ _ h => h) (by rfl) (fun w' hb' => ?_) ?_
    rotate_left
    · (try go_simp); (try with_reducible rfl)
    try simp only [Act.put, List.setIfInBounds_toArray, List.set_cons_zero, List.set_cons_succ]
    refine g_take (i := 10) (d := (some 18)) (v := ?_) rfl rfl (by kernel_rfl) (fun _ _ _ h => h) (by rfl) (fun w' hb' => ?_) ?_
    rotate_left
    · (try go_simp); (try with_reducible rfl)
    try simp only [Act.put, List.setIfInBounds_toArray, List.set_cons_zero, List.set_cons_succ]
    refine g_skip (i := 11) (d := (some 19)) rfl rfl (by kernel_rfl) (fun _ _ _ h => h) (by rfl) ?_
    try simp only [Act.put, List.setIfInBounds_toArray, List.set_cons_zero, List.set_cons_succ]
    refine g_skip (i := 12) (d := (some 20)) rfl rfl (by kernel_rfl) (fun _ _ _ h => h) (by rfl) ?_
    try simp only [Act.put, List.setIfInBounds_toArray, List.set_cons_zero, List.set_cons_succ]
    refine g_skip (i := 13) (d := (some 21)) rfl rfl (by kernel_rfl) (fun _ _ _ h => h) (by rfl) ?_
    try simp only [Act.put, List.setIfInBounds_toArray, List.set_cons_zero, List.set_cons_succ]
    refine g_skip (i := 14) (d := (some 22)) rfl rfl (by kernel_rfl) (fun _ _ _ h => h) (by rfl) ?_
    try simp only [Act.put, List.setIfInBounds_toArray, List.set_cons_zero, List.set_cons_succ]
    refine g_skip (i := 15) (d := (some 23)) rfl rfl (by kernel_rfl) (fun _ _ _ h => h) (by rfl) ?_
    try simp only [Act.put, List.setIfInBounds_toArray, List.set_cons_zero, List.set_cons_succ]
    refine g_skip (i := 16) (d := (some 24)) rfl rfl (by kernel_rfl) (fun _ _ _ h => h) (by rfl) ?_
    try simp only [Act.put, List.setIfInBounds_toArray, List.set_cons_zero, List.set_cons_succ]
    refine g_skip (i := 17) (d := (some 25)) rfl rfl (by kernel_rfl) (fun _ _ _ h => h) (by rfl) ?_
    try simp only [Act.put, List.setIfInBounds_toArray, List.set_cons_zero, List.set_cons_succ]
    refine g_skip (i := 18) (d := (some 26)) rfl rfl (by kernel_rfl) (fun _ _ _ h => h) (by rfl) ?_
    try simp only [Act.put, List.setIfInBounds_toArray, List.set_cons_zero, List.set_cons_succ]
    refine g_skip (i := 19) (d := (some 27)) rfl rfl (by kernel_rfl) (fun _ _ _ h => h) (by rfl) ?_
    try simp only [Act.put, List.setIfInBounds_toArray, List.set_cons_zero, List.set_cons_succ]
    refine g_skip (i := 20) (d := (some 28)) rfl rfl (by kernel_rfl) (fun _ _ _ h => h) (by rfl) ?_
    try simp only [Act.put, List.setIfInBounds_toArray, List.set_cons_zero, List.set_cons_succ]
    refine g_skip (i := 21) (d := (some 29)) rfl rfl (by kernel_rfl) (fun _ _ _ h => h) (by rfl) ?_
    try simp only [Act.put, List.setIfInBounds_toArray, List.set_cons_zero, List.set_cons_succ]
    refine g_skip (i := 22) (d := (some 30)) rfl rfl (by kernel_rfl) (fun _ _ _ h => h) (by rfl) ?_
    try simp only [Act.put, List.setIfInBounds_toArray, List.set_cons_zero, List.set_cons_succ]
    refine g_skip (i := 23) (d := (some 31)) rfl rfl (by kernel_rfl) (fun _ _ _ h => h) (by rfl) ?_
    try simp only [Act.put, List.setIfInBounds_toArray, List.set_cons_zero, List.set_cons_succ]
    refine g_take (i := 24) (d := (some 32)) (v := ?_) rfl rfl (by kernel_rfl) (fun _ _ _ h => h) (by rfl) (fun w' hb' => ?_) ?_
    rotate_left
    · (try go_simp); (try with_reducible rfl)
    try simp only [Act.put, List.setIfInBounds_toArray, List.set_cons_zero, List.set_cons_succ]
    refine g_take (i := 25) (d := (some 4)) (v := ?_) rfl rfl (by kernel_rfl) (fun _ _ _ h => h) (by rfl) (fun w' hb' => ?_) ?_
    rotate_left
    · (try go_simp); (try with_reducible rfl)
    try simp only [Act.put, List.setIfInBounds_toArray, List.set_cons_zero, List.set_cons_succ]
    refine g_done (by kernel_rfl) ?_
    go_wp2_with fail
    go_ret
    exact ⟨ret_b RES.out.symm, BL⟩
  · skip
    cases m with
    | false =>
      have RES := Lib.hid (show R = false by rw [HR.out]; simp [hf0])
      have F9 := Lib.hid (show decide (0 < f) = true by simp; omega)
      clear hf0
      go_enter Tryd.func20, Tryd.ntmps20
      go_wp2_with ((with_reducible refine (FA.out _).mono ?_); rintro e w9 ⟨rfl, rfl⟩)
      have q0 : ((w.alloc (.cells #[.bool has, .int .i64 vw, .int .i64 tm, .string S, vP, vC] 24)).drew).heap[w.heap.size]? = some (.cells #[.bool has, .int .i64 vw, .int .i64 tm, .string S, vP, vC] 24 (0, 0)) := q0
      have BL := bel.drew
      refine g_start (by kernel_rfl) ?_
      refine g_take (i := 0) (d := (some 8)) (v := ?_) rfl rfl (by kernel_rfl) (fun _ _ _ h => h) (by rfl) (fun w' hb' => ?_) ?_
      rotate_left
      · (try go_simp); (try with_reducible rfl)
      try simp only [Act.put, List.setIfInBounds_toArray, List.set_cons_zero, List.set_cons_succ]
      refine g_take (i := 1) (d := (some 9)) (v := ?_) rfl rfl (by kernel_rfl) (fun _ _ _ h => h) (by rfl) (fun w' hb' => ?_) ?_
      rotate_left
      · have z9 := F9.out; (try go_simp); (try with_reducible rfl)
      try simp only [Act.put, List.setIfInBounds_toArray, List.set_cons_zero, List.set_cons_succ]
      refine g_take (i := 2) (d := (some 10)) (v := ?_) rfl rfl (by kernel_rfl) (fun _ _ _ h => h) (by rfl) (fun w' hb' => ?_) ?_
      rotate_left
      · (try go_simp); (try with_reducible rfl)
      try simp only [Act.put, List.setIfInBounds_toArray, List.set_cons_zero, List.set_cons_succ]
      refine g_take (i := 3) (d := (some 11)) (v := ?_) rfl rfl (by kernel_rfl) (fun _ _ _ h => h) (by rfl) (fun w' hb' => ?_) ?_
      rotate_left
      · obtain ⟨d0, d1, d2, d3, d4, d5, df⟩ := block_cells6 ((hb'.block _ (lt_of_block q0)).trans q0); (try go_simp); (try with_reducible rfl)
      try simp only [Act.put, List.setIfInBounds_toArray, List.set_cons_zero, List.set_cons_succ]
      refine g_run (i := 4) rfl (by kernel_rfl) (by rfl) (fun K hK => ?_)
      go_simp; refine (MY.out _ BL).mono ?_; rintro e w2 ⟨rfl, g⟩; have q2 := (g.block _ (lt_of_block q0)).trans q0; have BL2 := chain BL g; refine hK _ _ ⟨g, ?_⟩; clear hK K g
      try simp only [Act.put, List.setIfInBounds_toArray, List.set_cons_zero, List.set_cons_succ]
      refine g_take (i := 5) (d := (some 13)) (v := ?_) rfl rfl (by kernel_rfl) (fun _ _ _ h => h) (by rfl) (fun w' hb' => ?_) ?_
      rotate_left
      · (try go_simp); (try with_reducible rfl)
      try simp only [Act.put, List.setIfInBounds_toArray, List.set_cons_zero, List.set_cons_succ]
      refine g_take (i := 6) (d := (some 14)) (v := ?_) rfl rfl (by kernel_rfl) (fun _ _ _ h => h) (by rfl) (fun w' hb' => ?_) ?_
      rotate_left
      · (try go_simp); (try with_reducible rfl)
      try simp only [Act.put, List.setIfInBounds_toArray, List.set_cons_zero, List.set_cons_succ]
      refine g_skip (i := 7) (d := (some 15)) rfl rfl (by kernel_rfl) (fun _ _ _ h => h) (by rfl) ?_
      try simp only [Act.put, List.setIfInBounds_toArray, List.set_cons_zero, List.set_cons_succ]
      refine g_skip (i := 8) (d := (some 16)) rfl rfl (by kernel_rfl) (fun _ _ _ h => h) (by rfl) ?_
      try simp only [Act.put, List.setIfInBounds_toArray, List.set_cons_zero, List.set_cons_succ]
      refine g_take (i := 9) (d := (some 17)) (v := ?_) rfl rfl (by kernel_rfl) (fun _ _ _ h => h) (by rfl) (fun w' hb' => ?_) ?_
      rotate_left
      · (try go_simp); (try with_reducible rfl)
      try simp only [Act.put, List.setIfInBounds_toArray, List.set_cons_zero, List.set_cons_succ]
      refine g_take (i := 10) (d := (some 18)) (v := ?_) rfl rfl (by kernel_rfl) (fun _ _ _ h => h) (by rfl) (fun w' hb' => ?_) ?_
      rotate_left
      · (try go_simp); (try with_reducible rfl)
      try simp only [Act.put, List.setIfInBounds_toArray, List.set_cons_zero, List.set_cons_succ]
      refine g_skip (i := 11) (d := (some 19)) rfl rfl (by kernel_rfl) (fun _ _ _ h => h) (by rfl) ?_
      try simp only [Act.put, List.setIfInBounds_toArray, List.set_cons_zero, List.set_cons_succ]
      refine g_skip (i := 12) (d := (some 20)) rfl rfl (by kernel_rfl) (fun _ _ _ h => h) (by rfl) ?_
      try simp only [Act.put, List.setIfInBounds_toArray, List.set_cons_zero, List.set_cons_succ]
      refine g_skip (i := 13) (d := (some 21)) rfl rfl (by kernel_rfl) (fun _ _ _ h => h) (by rfl) ?_
      try simp only [Act.put, List.setIfInBounds_toArray, List.set_cons_zero, List.set_cons_succ]
      refine g_skip (i := 14) (d := (some 22)) rfl rfl (by kernel_rfl) (fun _ _ _ h => h) (by rfl) ?_
      try simp only [Act.put, List.setIfInBounds_toArray, List.set_cons_zero, List.set_cons_succ]
      refine g_skip (i := 15) (d := (some 23)) rfl rfl (by kernel_rfl) (fun _ _ _ h => h) (by rfl) ?_
      try simp only [Act.put, List.setIfInBounds_toArray, List.set_cons_zero, List.set_cons_succ]
      refine g_skip (i := 16) (d := (some 24)) rfl rfl (by kernel_rfl) (fun _ _ _ h => h) (by rfl) ?_
      try simp only [Act.put, List.setIfInBounds_toArray, List.set_cons_zero, List.set_cons_succ]
      refine g_skip (i := 17) (d := (some 25)) rfl rfl (by kernel_rfl) (fun _ _ _ h => h) (by rfl) ?_
      try simp only [Act.put, List.setIfInBounds_toArray, List.set_cons_zero, List.set_cons_succ]
      refine g_skip (i := 18) (d := (some 26)) rfl rfl (by kernel_rfl) (fun _ _ _ h => h) (by rfl) ?_
      try simp only [Act.put, List.setIfInBounds_toArray, List.set_cons_zero, List.set_cons_succ]
      refine g_skip (i := 19) (d := (some 27)) rfl rfl (by kernel_rfl) (fun _ _ _ h => h) (by rfl) ?_
      try simp only [Act.put, List.setIfInBounds_toArray, List.set_cons_zero, List.set_cons_succ]
      refine g_skip (i := 20) (d := (some 28)) rfl rfl (by kernel_rfl) (fun _ _ _ h => h) (by rfl) ?_
      try simp only [Act.put, List.setIfInBounds_toArray, List.set_cons_zero, List.set_cons_succ]
      refine g_skip (i := 21) (d := (some 29)) rfl rfl (by kernel_rfl) (fun _ _ _ h => h) (by rfl) ?_
      try simp only [Act.put, List.setIfInBounds_toArray, List.set_cons_zero, List.set_cons_succ]
      refine g_skip (i := 22) (d := (some 30)) rfl rfl (by kernel_rfl) (fun _ _ _ h => h) (by rfl) ?_
      try simp only [Act.put, List.setIfInBounds_toArray, List.set_cons_zero, List.set_cons_succ]
      refine g_skip (i := 23) (d := (some 31)) rfl rfl (by kernel_rfl) (fun _ _ _ h => h) (by rfl) ?_
      try simp only [Act.put, List.setIfInBounds_toArray, List.set_cons_zero, List.set_cons_succ]
      refine g_take (i := 24) (d := (some 32)) (v := ?_) rfl rfl (by kernel_rfl) (fun _ _ _ h => h) (by rfl) (fun w' hb' => ?_) ?_
      rotate_left
      · (try go_simp); (try with_reducible rfl)
      try simp only [Act.put, List.setIfInBounds_toArray, List.set_cons_zero, List.set_cons_succ]
      refine g_take (i := 25) (d := (some 4)) (v := ?_) rfl rfl (by kernel_rfl) (fun _ _ _ h => h) (by rfl) (fun w' hb' => ?_) ?_
      rotate_left
      · (try go_simp); (try with_reducible rfl)
      try simp only [Act.put, List.setIfInBounds_toArray, List.set_cons_zero, List.set_cons_succ]
      refine g_done (by kernel_rfl) ?_
      go_wp2_with fail
      go_ret
      exact ⟨ret_b RES.out.symm, BL2⟩
    | true =>
      cases has with
      | false =>
        have RES := Lib.hid (show R = false by rw [HR.out]; simp [hf0])
        have F9 := Lib.hid (show decide (0 < f) = true by simp; omega)
        clear hf0
        go_enter Tryd.func20, Tryd.ntmps20
        go_wp2_with ((with_reducible refine (FA.out _).mono ?_); rintro e w9 ⟨rfl, rfl⟩)
        have q0 : ((w.alloc (.cells #[.bool false, .int .i64 vw, .int .i64 tm, .string S, vP, vC] 24)).drew).heap[w.heap.size]? = some (.cells #[.bool false, .int .i64 vw, .int .i64 tm, .string S, vP, vC] 24 (0, 0)) := q0
        have BL := bel.drew
        refine g_start (by kernel_rfl) ?_
        refine g_take (i := 0) (d := (some 8)) (v := ?_) rfl rfl (by kernel_rfl) (fun _ _ _ h => h) (by rfl) (fun w' hb' => ?_) ?_
        rotate_left
        · (try go_simp); (try with_reducible rfl)
        try simp only [Act.put, List.setIfInBounds_toArray, List.set_cons_zero, List.set_cons_succ]
        refine g_take (i := 1) (d := (some 9)) (v := ?_) rfl rfl (by kernel_rfl) (fun _ _ _ h => h) (by rfl) (fun w' hb' => ?_) ?_
        rotate_left
        · have z9 := F9.out; (try go_simp); (try with_reducible rfl)
        try simp only [Act.put, List.setIfInBounds_toArray, List.set_cons_zero, List.set_cons_succ]
        refine g_take (i := 2) (d := (some 10)) (v := ?_) rfl rfl (by kernel_rfl) (fun _ _ _ h => h) (by rfl) (fun w' hb' => ?_) ?_
        rotate_left
        · (try go_simp); (try with_reducible rfl)
        try simp only [Act.put, List.setIfInBounds_toArray, List.set_cons_zero, List.set_cons_succ]
        refine g_take (i := 3) (d := (some 11)) (v := ?_) rfl rfl (by kernel_rfl) (fun _ _ _ h => h) (by rfl) (fun w' hb' => ?_) ?_
        rotate_left
        · obtain ⟨d0, d1, d2, d3, d4, d5, df⟩ := block_cells6 ((hb'.block _ (lt_of_block q0)).trans q0); (try go_simp); (try with_reducible rfl)
        try simp only [Act.put, List.setIfInBounds_toArray, List.set_cons_zero, List.set_cons_succ]
        refine g_run (i := 4) rfl (by kernel_rfl) (by rfl) (fun K hK => ?_)
        go_simp; refine (MY.out _ BL).mono ?_; rintro e w2 ⟨rfl, g⟩; have q2 := (g.block _ (lt_of_block q0)).trans q0; have BL2 := chain BL g; refine hK _ _ ⟨g, ?_⟩; clear hK K g
        try simp only [Act.put, List.setIfInBounds_toArray, List.set_cons_zero, List.set_cons_succ]
        refine g_take (i := 5) (d := (some 13)) (v := ?_) rfl rfl (by kernel_rfl) (fun _ _ _ h => h) (by rfl) (fun w' hb' => ?_) ?_
        rotate_left
        · (try go_simp); (try with_reducible rfl)
        try simp only [Act.put, List.setIfInBounds_toArray, List.set_cons_zero, List.set_cons_succ]
        refine g_take (i := 6) (d := (some 14)) (v := ?_) rfl rfl (by kernel_rfl) (fun _ _ _ h => h) (by rfl) (fun w' hb' => ?_) ?_
        rotate_left
        · (try go_simp); (try with_reducible rfl)
        try simp only [Act.put, List.setIfInBounds_toArray, List.set_cons_zero, List.set_cons_succ]
        refine g_take (i := 7) (d := (some 15)) (v := ?_) rfl rfl (by kernel_rfl) (fun _ _ _ h => h) (by rfl) (fun w' hb' => ?_) ?_
        rotate_left
        · (try go_simp); (try with_reducible rfl)
        try simp only [Act.put, List.setIfInBounds_toArray, List.set_cons_zero, List.set_cons_succ]
        refine g_take (i := 8) (d := (some 16)) (v := ?_) rfl rfl (by kernel_rfl) (fun _ _ _ h => h) (by rfl) (fun w' hb' => ?_) ?_
        rotate_left
        · obtain ⟨d0, d1, d2, d3, d4, d5, df⟩ := block_cells6 ((hb'.block _ (lt_of_block q2)).trans q2); (try go_simp); (try with_reducible rfl)
        try simp only [Act.put, List.setIfInBounds_toArray, List.set_cons_zero, List.set_cons_succ]
        refine g_take (i := 9) (d := (some 17)) (v := ?_) rfl rfl (by kernel_rfl) (fun _ _ _ h => h) (by rfl) (fun w' hb' => ?_) ?_
        rotate_left
        · (try go_simp); (try with_reducible rfl)
        try simp only [Act.put, List.setIfInBounds_toArray, List.set_cons_zero, List.set_cons_succ]
        refine g_take (i := 10) (d := (some 18)) (v := ?_) rfl rfl (by kernel_rfl) (fun _ _ _ h => h) (by rfl) (fun w' hb' => ?_) ?_
        rotate_left
        · (try go_simp); (try with_reducible rfl)
        try simp only [Act.put, List.setIfInBounds_toArray, List.set_cons_zero, List.set_cons_succ]
        refine g_skip (i := 11) (d := (some 19)) rfl rfl (by kernel_rfl) (fun _ _ _ h => h) (by rfl) ?_
        try simp only [Act.put, List.setIfInBounds_toArray, List.set_cons_zero, List.set_cons_succ]
        refine g_skip (i := 12) (d := (some 20)) rfl rfl (by kernel_rfl) (fun _ _ _ h => h) (by rfl) ?_
        try simp only [Act.put, List.setIfInBounds_toArray, List.set_cons_zero, List.set_cons_succ]
        refine g_skip (i := 13) (d := (some 21)) rfl rfl (by kernel_rfl) (fun _ _ _ h => h) (by rfl) ?_
        try simp only [Act.put, List.setIfInBounds_toArray, List.set_cons_zero, List.set_cons_succ]
        refine g_skip (i := 14) (d := (some 22)) rfl rfl (by kernel_rfl) (fun _ _ _ h => h) (by rfl) ?_
        try simp only [Act.put, List.setIfInBounds_toArray, List.set_cons_zero, List.set_cons_succ]
        refine g_skip (i := 15) (d := (some 23)) rfl rfl (by kernel_rfl) (fun _ _ _ h => h) (by rfl) ?_
        try simp only [Act.put, List.setIfInBounds_toArray, List.set_cons_zero, List.set_cons_succ]
        refine g_skip (i := 16) (d := (some 24)) rfl rfl (by kernel_rfl) (fun _ _ _ h => h) (by rfl) ?_
        try simp only [Act.put, List.setIfInBounds_toArray, List.set_cons_zero, List.set_cons_succ]
        refine g_skip (i := 17) (d := (some 25)) rfl rfl (by kernel_rfl) (fun _ _ _ h => h) (by rfl) ?_
        try simp only [Act.put, List.setIfInBounds_toArray, List.set_cons_zero, List.set_cons_succ]
        refine g_skip (i := 18) (d := (some 26)) rfl rfl (by kernel_rfl) (fun _ _ _ h => h) (by rfl) ?_
        try simp only [Act.put, List.setIfInBounds_toArray, List.set_cons_zero, List.set_cons_succ]
        refine g_skip (i := 19) (d := (some 27)) rfl rfl (by kernel_rfl) (fun _ _ _ h => h) (by rfl) ?_
        try simp only [Act.put, List.setIfInBounds_toArray, List.set_cons_zero, List.set_cons_succ]
        refine g_skip (i := 20) (d := (some 28)) rfl rfl (by kernel_rfl) (fun _ _ _ h => h) (by rfl) ?_
        try simp only [Act.put, List.setIfInBounds_toArray, List.set_cons_zero, List.set_cons_succ]
        refine g_skip (i := 21) (d := (some 29)) rfl rfl (by kernel_rfl) (fun _ _ _ h => h) (by rfl) ?_
        try simp only [Act.put, List.setIfInBounds_toArray, List.set_cons_zero, List.set_cons_succ]
        refine g_skip (i := 22) (d := (some 30)) rfl rfl (by kernel_rfl) (fun _ _ _ h => h) (by rfl) ?_
        try simp only [Act.put, List.setIfInBounds_toArray, List.set_cons_zero, List.set_cons_succ]
        refine g_skip (i := 23) (d := (some 31)) rfl rfl (by kernel_rfl) (fun _ _ _ h => h) (by rfl) ?_
        try simp only [Act.put, List.setIfInBounds_toArray, List.set_cons_zero, List.set_cons_succ]
        refine g_take (i := 24) (d := (some 32)) (v := ?_) rfl rfl (by kernel_rfl) (fun _ _ _ h => h) (by rfl) (fun w' hb' => ?_) ?_
        rotate_left
        · (try go_simp); (try with_reducible rfl)
        try simp only [Act.put, List.setIfInBounds_toArray, List.set_cons_zero, List.set_cons_succ]
        refine g_take (i := 25) (d := (some 4)) (v := ?_) rfl rfl (by kernel_rfl) (fun _ _ _ h => h) (by rfl) (fun w' hb' => ?_) ?_
        rotate_left
        · (try go_simp); (try with_reducible rfl)
        try simp only [Act.put, List.setIfInBounds_toArray, List.set_cons_zero, List.set_cons_succ]
        refine g_done (by kernel_rfl) ?_
        go_wp2_with fail
        go_ret
        exact ⟨ret_b RES.out.symm, BL2⟩
      | true =>
        by_cases hc : 2 * f ≤ (k : Int)
        · have F31 := Lib.hid (show decide (2 * f ≤ (k : Int)) = true from decide_eq_true hc)
          have F31N := Lib.hid (show decide (2 * f ≤ (k : Int)) = true from decide_eq_true hc)
          have RES := Lib.hid (show R = true by rw [HR.out]; simp [hf0, hc])
          have F9 := Lib.hid (show decide (0 < f) = true by simp; omega)
          clear hf0 hc
          go_enter Tryd.func20, Tryd.ntmps20
          go_wp2_with ((with_reducible refine (FA.out _).mono ?_); rintro e w9 ⟨rfl, rfl⟩)
          have q0 : ((w.alloc (.cells #[.bool true, .int .i64 vw, .int .i64 tm, .string S, vP, vC] 24)).drew).heap[w.heap.size]? = some (.cells #[.bool true, .int .i64 vw, .int .i64 tm, .string S, vP, vC] 24 (0, 0)) := q0
          have BL := bel.drew
          refine g_start (by kernel_rfl) ?_
          refine g_take (i := 0) (d := (some 8)) (v := ?_) rfl rfl (by kernel_rfl) (fun _ _ _ h => h) (by rfl) (fun w' hb' => ?_) ?_
          rotate_left
          · (try go_simp); (try with_reducible rfl)
          try simp only [Act.put, List.setIfInBounds_toArray, List.set_cons_zero, List.set_cons_succ]
          refine g_take (i := 1) (d := (some 9)) (v := ?_) rfl rfl (by kernel_rfl) (fun _ _ _ h => h) (by rfl) (fun w' hb' => ?_) ?_
          rotate_left
          · have z9 := F9.out; (try go_simp); (try with_reducible rfl)
          try simp only [Act.put, List.setIfInBounds_toArray, List.set_cons_zero, List.set_cons_succ]
          refine g_take (i := 2) (d := (some 10)) (v := ?_) rfl rfl (by kernel_rfl) (fun _ _ _ h => h) (by rfl) (fun w' hb' => ?_) ?_
          rotate_left
          · (try go_simp); (try with_reducible rfl)
          try simp only [Act.put, List.setIfInBounds_toArray, List.set_cons_zero, List.set_cons_succ]
          refine g_take (i := 3) (d := (some 11)) (v := ?_) rfl rfl (by kernel_rfl) (fun _ _ _ h => h) (by rfl) (fun w' hb' => ?_) ?_
          rotate_left
          · obtain ⟨d0, d1, d2, d3, d4, d5, df⟩ := block_cells6 ((hb'.block _ (lt_of_block q0)).trans q0); (try go_simp); (try with_reducible rfl)
          try simp only [Act.put, List.setIfInBounds_toArray, List.set_cons_zero, List.set_cons_succ]
          refine g_run (i := 4) rfl (by kernel_rfl) (by rfl) (fun K hK => ?_)
          go_simp; refine (MY.out _ BL).mono ?_; rintro e w2 ⟨rfl, g⟩; have q2 := (g.block _ (lt_of_block q0)).trans q0; have BL2 := chain BL g; refine hK _ _ ⟨g, ?_⟩; clear hK K g
          try simp only [Act.put, List.setIfInBounds_toArray, List.set_cons_zero, List.set_cons_succ]
          refine g_take (i := 5) (d := (some 13)) (v := ?_) rfl rfl (by kernel_rfl) (fun _ _ _ h => h) (by rfl) (fun w' hb' => ?_) ?_
          rotate_left
          · (try go_simp); (try with_reducible rfl)
          try simp only [Act.put, List.setIfInBounds_toArray, List.set_cons_zero, List.set_cons_succ]
          refine g_take (i := 6) (d := (some 14)) (v := ?_) rfl rfl (by kernel_rfl) (fun _ _ _ h => h) (by rfl) (fun w' hb' => ?_) ?_
          rotate_left
          · (try go_simp); (try with_reducible rfl)
          try simp only [Act.put, List.setIfInBounds_toArray, List.set_cons_zero, List.set_cons_succ]
          refine g_take (i := 7) (d := (some 15)) (v := ?_) rfl rfl (by kernel_rfl) (fun _ _ _ h => h) (by rfl) (fun w' hb' => ?_) ?_
          rotate_left
          · (try go_simp); (try with_reducible rfl)
          try simp only [Act.put, List.setIfInBounds_toArray, List.set_cons_zero, List.set_cons_succ]
          refine g_take (i := 8) (d := (some 16)) (v := ?_) rfl rfl (by kernel_rfl) (fun _ _ _ h => h) (by rfl) (fun w' hb' => ?_) ?_
          rotate_left
          · obtain ⟨d0, d1, d2, d3, d4, d5, df⟩ := block_cells6 ((hb'.block _ (lt_of_block q2)).trans q2); (try go_simp); (try with_reducible rfl)
          try simp only [Act.put, List.setIfInBounds_toArray, List.set_cons_zero, List.set_cons_succ]
          refine g_take (i := 9) (d := (some 17)) (v := ?_) rfl rfl (by kernel_rfl) (fun _ _ _ h => h) (by rfl) (fun w' hb' => ?_) ?_
          rotate_left
          · (try go_simp); (try with_reducible rfl)
          try simp only [Act.put, List.setIfInBounds_toArray, List.set_cons_zero, List.set_cons_succ]
          refine g_take (i := 10) (d := (some 18)) (v := ?_) rfl rfl (by kernel_rfl) (fun _ _ _ h => h) (by rfl) (fun w' hb' => ?_) ?_
          rotate_left
          · (try go_simp); (try with_reducible rfl)
          try simp only [Act.put, List.setIfInBounds_toArray, List.set_cons_zero, List.set_cons_succ]
          refine g_take (i := 11) (d := (some 19)) (v := ?_) rfl rfl (by kernel_rfl) (fun _ _ _ h => h) (by rfl) (fun w' hb' => ?_) ?_
          rotate_left
          · obtain ⟨d0, d1, d2, d3, d4, d5, df⟩ := block_cells6 ((hb'.block _ (lt_of_block q2)).trans q2); (try go_simp); (try with_reducible rfl)
          try simp only [Act.put, List.setIfInBounds_toArray, List.set_cons_zero, List.set_cons_succ]
          refine g_take (i := 12) (d := (some 20)) (v := ?_) rfl rfl (by kernel_rfl) (fun _ _ _ h => h) (by rfl) (fun w' hb' => ?_) ?_
          rotate_left
          · (try go_simp); (try with_reducible rfl)
          try simp only [Act.put, List.setIfInBounds_toArray, List.set_cons_zero, List.set_cons_succ]
          refine g_take (i := 13) (d := (some 21)) (v := ?_) rfl rfl (by kernel_rfl) (fun _ _ _ h => h) (by rfl) (fun w' hb' => ?_) ?_
          rotate_left
          · obtain ⟨d0, d1, d2, d3, d4, d5, df⟩ := block_cells6 ((hb'.block _ (lt_of_block q2)).trans q2); (try go_simp); (try with_reducible rfl)
          try simp only [Act.put, List.setIfInBounds_toArray, List.set_cons_zero, List.set_cons_succ]
          refine g_take (i := 14) (d := (some 22)) (v := ?_) rfl rfl (by kernel_rfl) (fun _ _ _ h => h) (by rfl) (fun w' hb' => ?_) ?_
          rotate_left
          · (try go_simp); (try with_reducible rfl)
          try simp only [Act.put, List.setIfInBounds_toArray, List.set_cons_zero, List.set_cons_succ]
          refine g_take (i := 15) (d := (some 23)) (v := ?_) rfl rfl (by kernel_rfl) (fun _ _ _ h => h) (by rfl) (fun w' hb' => ?_) ?_
          rotate_left
          · (try go_simp); (try with_reducible rfl)
          try simp only [Act.put, List.setIfInBounds_toArray, List.set_cons_zero, List.set_cons_succ]
          refine g_take (i := 16) (d := (some 24)) (v := ?_) rfl rfl (by kernel_rfl) (fun _ _ _ h => h) (by rfl) (fun w' hb' => ?_) ?_
          rotate_left
          · obtain ⟨d0, d1, d2, d3, d4, d5, df⟩ := block_cells6 ((hb'.block _ (lt_of_block q2)).trans q2); (try go_simp); (try with_reducible rfl)
          try simp only [Act.put, List.setIfInBounds_toArray, List.set_cons_zero, List.set_cons_succ]
          refine g_take (i := 17) (d := (some 25)) (v := ?_) rfl rfl (by kernel_rfl) (fun _ _ _ h => h) (by rfl) (fun w' hb' => ?_) ?_
          rotate_left
          · (try go_simp); (try with_reducible rfl)
          try simp only [Act.put, List.setIfInBounds_toArray, List.set_cons_zero, List.set_cons_succ]
          refine g_take (i := 21) (d := (some 29)) (v := ?_) rfl rfl (by kernel_rfl) (fun _ _ _ h => h) (by rfl) (fun w' hb' => ?_) ?_
          rotate_left
          · (try go_simp); (try with_reducible rfl)
          try simp only [Act.put, List.setIfInBounds_toArray, List.set_cons_zero, List.set_cons_succ]
          refine g_take (i := 22) (d := (some 30)) (v := ?_) rfl rfl (by kernel_rfl) (fun _ _ _ h => h) (by rfl) (fun w' hb' => ?_) ?_
          rotate_left
          · have z30 := F30.out; (try go_simp); (try with_reducible rfl)
          try simp only [Act.put, List.setIfInBounds_toArray, List.set_cons_zero, List.set_cons_succ]
          refine g_run (i := 18) rfl (by kernel_rfl) (by rfl) (fun K hK => ?_)
          go_simp; refine (PR.out _).mono ?_; rintro e w9 ⟨rfl, rfl⟩; refine hK _ _ ⟨Below.refl _ _, ?_⟩; clear hK K
          try simp only [Act.put, List.setIfInBounds_toArray, List.set_cons_zero, List.set_cons_succ]
          refine g_run (i := 19) rfl (by kernel_rfl) (by rfl) (fun K hK => ?_)
          go_simp; refine (WH.out _ BL2).mono ?_; rintro e w3 ⟨a3, c3, rfl, own3, g⟩; have q3 := (g.block _ (lt_of_block q2)).trans q2; have BL3 := chain BL2 g; have hl3 := HL.out; clear own3; refine hK _ _ ⟨g, ?_⟩; clear hK K g
          try simp only [Act.put, List.setIfInBounds_toArray, List.set_cons_zero, List.set_cons_succ]
          refine g_take (i := 20) (d := (some 28)) (v := ?_) rfl rfl (by kernel_rfl) (fun _ _ _ h => h) (by rfl) (fun w' hb' => ?_) ?_
          rotate_left
          · have z28 := HL.out; (try go_simp); (try with_reducible rfl)
          try simp only [Act.put, List.setIfInBounds_toArray, List.set_cons_zero, List.set_cons_succ]
          refine g_take (i := 23) (d := (some 31)) (v := ?_) rfl rfl (by kernel_rfl) (fun _ _ _ h => h) (by rfl) (fun w' hb' => ?_) ?_
          rotate_left
          · have z31 := F31.out; have z31n := F31N.out; (try go_simp); (try with_reducible rfl)
          try simp only [Act.put, List.setIfInBounds_toArray, List.set_cons_zero, List.set_cons_succ]
          refine g_take (i := 24) (d := (some 32)) (v := ?_) rfl rfl (by kernel_rfl) (fun _ _ _ h => h) (by rfl) (fun w' hb' => ?_) ?_
          rotate_left
          · (try go_simp); (try with_reducible rfl)
          try simp only [Act.put, List.setIfInBounds_toArray, List.set_cons_zero, List.set_cons_succ]
          refine g_take (i := 25) (d := (some 4)) (v := ?_) rfl rfl (by kernel_rfl) (fun _ _ _ h => h) (by rfl) (fun w' hb' => ?_) ?_
          rotate_left
          · (try go_simp); (try with_reducible rfl)
          try simp only [Act.put, List.setIfInBounds_toArray, List.set_cons_zero, List.set_cons_succ]
          refine g_done (by kernel_rfl) ?_
          go_wp2_with fail
          go_ret
          exact ⟨ret_b RES.out.symm, BL3⟩
        · have F31 := Lib.hid (show decide (2 * f ≤ (k : Int)) = false from decide_eq_false hc)
          have F31N := Lib.hid (show decide (2 * f ≤ (k : Int)) = false from decide_eq_false hc)
          have RES := Lib.hid (show R = false by rw [HR.out]; simp [hf0, hc])
          have F9 := Lib.hid (show decide (0 < f) = true by simp; omega)
          clear hf0 hc
          go_enter Tryd.func20, Tryd.ntmps20
          go_wp2_with ((with_reducible refine (FA.out _).mono ?_); rintro e w9 ⟨rfl, rfl⟩)
          have q0 : ((w.alloc (.cells #[.bool true, .int .i64 vw, .int .i64 tm, .string S, vP, vC] 24)).drew).heap[w.heap.size]? = some (.cells #[.bool true, .int .i64 vw, .int .i64 tm, .string S, vP, vC] 24 (0, 0)) := q0
          have BL := bel.drew
          refine g_start (by kernel_rfl) ?_
          refine g_take (i := 0) (d := (some 8)) (v := ?_) rfl rfl (by kernel_rfl) (fun _ _ _ h => h) (by rfl) (fun w' hb' => ?_) ?_
          rotate_left
          · (try go_simp); (try with_reducible rfl)
          try simp only [Act.put, List.setIfInBounds_toArray, List.set_cons_zero, List.set_cons_succ]
          refine g_take (i := 1) (d := (some 9)) (v := ?_) rfl rfl (by kernel_rfl) (fun _ _ _ h => h) (by rfl) (fun w' hb' => ?_) ?_
          rotate_left
          · have z9 := F9.out; (try go_simp); (try with_reducible rfl)
          try simp only [Act.put, List.setIfInBounds_toArray, List.set_cons_zero, List.set_cons_succ]
          refine g_take (i := 2) (d := (some 10)) (v := ?_) rfl rfl (by kernel_rfl) (fun _ _ _ h => h) (by rfl) (fun w' hb' => ?_) ?_
          rotate_left
          · (try go_simp); (try with_reducible rfl)
          try simp only [Act.put, List.setIfInBounds_toArray, List.set_cons_zero, List.set_cons_succ]
          refine g_take (i := 3) (d := (some 11)) (v := ?_) rfl rfl (by kernel_rfl) (fun _ _ _ h => h) (by rfl) (fun w' hb' => ?_) ?_
          rotate_left
          · obtain ⟨d0, d1, d2, d3, d4, d5, df⟩ := block_cells6 ((hb'.block _ (lt_of_block q0)).trans q0); (try go_simp); (try with_reducible rfl)
          try simp only [Act.put, List.setIfInBounds_toArray, List.set_cons_zero, List.set_cons_succ]
          refine g_run (i := 4) rfl (by kernel_rfl) (by rfl) (fun K hK => ?_)
          go_simp; refine (MY.out _ BL).mono ?_; rintro e w2 ⟨rfl, g⟩; have q2 := (g.block _ (lt_of_block q0)).trans q0; have BL2 := chain BL g; refine hK _ _ ⟨g, ?_⟩; clear hK K g
          try simp only [Act.put, List.setIfInBounds_toArray, List.set_cons_zero, List.set_cons_succ]
          refine g_take (i := 5) (d := (some 13)) (v := ?_) rfl rfl (by kernel_rfl) (fun _ _ _ h => h) (by rfl) (fun w' hb' => ?_) ?_
          rotate_left
          · (try go_simp); (try with_reducible rfl)
          try simp only [Act.put, List.setIfInBounds_toArray, List.set_cons_zero, List.set_cons_succ]
          refine g_take (i := 6) (d := (some 14)) (v := ?_) rfl rfl (by kernel_rfl) (fun _ _ _ h => h) (by rfl) (fun w' hb' => ?_) ?_
          rotate_left
          · (try go_simp); (try with_reducible rfl)
          try simp only [Act.put, List.setIfInBounds_toArray, List.set_cons_zero, List.set_cons_succ]
          refine g_take (i := 7) (d := (some 15)) (v := ?_) rfl rfl (by kernel_rfl) (fun _ _ _ h => h) (by rfl) (fun w' hb' => ?_) ?_
          rotate_left
          · (try go_simp); (try with_reducible rfl)
          try simp only [Act.put, List.setIfInBounds_toArray, List.set_cons_zero, List.set_cons_succ]
          refine g_take (i := 8) (d := (some 16)) (v := ?_) rfl rfl (by kernel_rfl) (fun _ _ _ h => h) (by rfl) (fun w' hb' => ?_) ?_
          rotate_left
          · obtain ⟨d0, d1, d2, d3, d4, d5, df⟩ := block_cells6 ((hb'.block _ (lt_of_block q2)).trans q2); (try go_simp); (try with_reducible rfl)
          try simp only [Act.put, List.setIfInBounds_toArray, List.set_cons_zero, List.set_cons_succ]
          refine g_take (i := 9) (d := (some 17)) (v := ?_) rfl rfl (by kernel_rfl) (fun _ _ _ h => h) (by rfl) (fun w' hb' => ?_) ?_
          rotate_left
          · (try go_simp); (try with_reducible rfl)
          try simp only [Act.put, List.setIfInBounds_toArray, List.set_cons_zero, List.set_cons_succ]
          refine g_take (i := 10) (d := (some 18)) (v := ?_) rfl rfl (by kernel_rfl) (fun _ _ _ h => h) (by rfl) (fun w' hb' => ?_) ?_
          rotate_left
          · (try go_simp); (try with_reducible rfl)
          try simp only [Act.put, List.setIfInBounds_toArray, List.set_cons_zero, List.set_cons_succ]
          refine g_take (i := 11) (d := (some 19)) (v := ?_) rfl rfl (by kernel_rfl) (fun _ _ _ h => h) (by rfl) (fun w' hb' => ?_) ?_
          rotate_left
          · obtain ⟨d0, d1, d2, d3, d4, d5, df⟩ := block_cells6 ((hb'.block _ (lt_of_block q2)).trans q2); (try go_simp); (try with_reducible rfl)
          try simp only [Act.put, List.setIfInBounds_toArray, List.set_cons_zero, List.set_cons_succ]
          refine g_take (i := 12) (d := (some 20)) (v := ?_) rfl rfl (by kernel_rfl) (fun _ _ _ h => h) (by rfl) (fun w' hb' => ?_) ?_
          rotate_left
          · (try go_simp); (try with_reducible rfl)
          try simp only [Act.put, List.setIfInBounds_toArray, List.set_cons_zero, List.set_cons_succ]
          refine g_take (i := 13) (d := (some 21)) (v := ?_) rfl rfl (by kernel_rfl) (fun _ _ _ h => h) (by rfl) (fun w' hb' => ?_) ?_
          rotate_left
          · obtain ⟨d0, d1, d2, d3, d4, d5, df⟩ := block_cells6 ((hb'.block _ (lt_of_block q2)).trans q2); (try go_simp); (try with_reducible rfl)
          try simp only [Act.put, List.setIfInBounds_toArray, List.set_cons_zero, List.set_cons_succ]
          refine g_take (i := 14) (d := (some 22)) (v := ?_) rfl rfl (by kernel_rfl) (fun _ _ _ h => h) (by rfl) (fun w' hb' => ?_) ?_
          rotate_left
          · (try go_simp); (try with_reducible rfl)
          try simp only [Act.put, List.setIfInBounds_toArray, List.set_cons_zero, List.set_cons_succ]
          refine g_take (i := 15) (d := (some 23)) (v := ?_) rfl rfl (by kernel_rfl) (fun _ _ _ h => h) (by rfl) (fun w' hb' => ?_) ?_
          rotate_left
          · (try go_simp); (try with_reducible rfl)
          try simp only [Act.put, List.setIfInBounds_toArray, List.set_cons_zero, List.set_cons_succ]
          refine g_take (i := 16) (d := (some 24)) (v := ?_) rfl rfl (by kernel_rfl) (fun _ _ _ h => h) (by rfl) (fun w' hb' => ?_) ?_
          rotate_left
          · obtain ⟨d0, d1, d2, d3, d4, d5, df⟩ := block_cells6 ((hb'.block _ (lt_of_block q2)).trans q2); (try go_simp); (try with_reducible rfl)
          try simp only [Act.put, List.setIfInBounds_toArray, List.set_cons_zero, List.set_cons_succ]
          refine g_take (i := 17) (d := (some 25)) (v := ?_) rfl rfl (by kernel_rfl) (fun _ _ _ h => h) (by rfl) (fun w' hb' => ?_) ?_
          rotate_left
          · (try go_simp); (try with_reducible rfl)
          try simp only [Act.put, List.setIfInBounds_toArray, List.set_cons_zero, List.set_cons_succ]
          refine g_take (i := 21) (d := (some 29)) (v := ?_) rfl rfl (by kernel_rfl) (fun _ _ _ h => h) (by rfl) (fun w' hb' => ?_) ?_
          rotate_left
          · (try go_simp); (try with_reducible rfl)
          try simp only [Act.put, List.setIfInBounds_toArray, List.set_cons_zero, List.set_cons_succ]
          refine g_take (i := 22) (d := (some 30)) (v := ?_) rfl rfl (by kernel_rfl) (fun _ _ _ h => h) (by rfl) (fun w' hb' => ?_) ?_
          rotate_left
          · have z30 := F30.out; (try go_simp); (try with_reducible rfl)
          try simp only [Act.put, List.setIfInBounds_toArray, List.set_cons_zero, List.set_cons_succ]
          refine g_run (i := 18) rfl (by kernel_rfl) (by rfl) (fun K hK => ?_)
          go_simp; refine (PR.out _).mono ?_; rintro e w9 ⟨rfl, rfl⟩; refine hK _ _ ⟨Below.refl _ _, ?_⟩; clear hK K
          try simp only [Act.put, List.setIfInBounds_toArray, List.set_cons_zero, List.set_cons_succ]
          refine g_run (i := 19) rfl (by kernel_rfl) (by rfl) (fun K hK => ?_)
          go_simp; refine (WH.out _ BL2).mono ?_; rintro e w3 ⟨a3, c3, rfl, own3, g⟩; have q3 := (g.block _ (lt_of_block q2)).trans q2; have BL3 := chain BL2 g; have hl3 := HL.out; clear own3; refine hK _ _ ⟨g, ?_⟩; clear hK K g
          try simp only [Act.put, List.setIfInBounds_toArray, List.set_cons_zero, List.set_cons_succ]
          refine g_take (i := 20) (d := (some 28)) (v := ?_) rfl rfl (by kernel_rfl) (fun _ _ _ h => h) (by rfl) (fun w' hb' => ?_) ?_
          rotate_left
          · have z28 := HL.out; (try go_simp); (try with_reducible rfl)
          try simp only [Act.put, List.setIfInBounds_toArray, List.set_cons_zero, List.set_cons_succ]
          refine g_take (i := 23) (d := (some 31)) (v := ?_) rfl rfl (by kernel_rfl) (fun _ _ _ h => h) (by rfl) (fun w' hb' => ?_) ?_
          rotate_left
          · have z31 := F31.out; have z31n := F31N.out; (try go_simp); (try with_reducible rfl)
          try simp only [Act.put, List.setIfInBounds_toArray, List.set_cons_zero, List.set_cons_succ]
          refine g_take (i := 24) (d := (some 32)) (v := ?_) rfl rfl (by kernel_rfl) (fun _ _ _ h => h) (by rfl) (fun w' hb' => ?_) ?_
          rotate_left
          · (try go_simp); (try with_reducible rfl)
          try simp only [Act.put, List.setIfInBounds_toArray, List.set_cons_zero, List.set_cons_succ]
          refine g_take (i := 25) (d := (some 4)) (v := ?_) rfl rfl (by kernel_rfl) (fun _ _ _ h => h) (by rfl) (fun w' hb' => ?_) ?_
          rotate_left
          · (try go_simp); (try with_reducible rfl)
          try simp only [Act.put, List.setIfInBounds_toArray, List.set_cons_zero, List.set_cons_succ]
          refine g_done (by kernel_rfl) ?_
          go_wp2_with fail
          go_ret
          exact ⟨ret_b RES.out.symm, BL3⟩
set_option maxHeartbeats 1000000 in
theorem refCommitted_any (s : Sl) (vP vC : Value) (n : Int) (w : World) (h : RdS w s vP vC) (hn : -9223372036854775808 ≤ n ∧ n ≤ 9223372036854775807) (h64 : s.ps.length ≤ 1000) (h65 : s.cs.length ≤ 1000) : Calls Tryd.prog 22 #[sV s vP vC, .int .i64 n] w fun e w' => e = .returned (.bool (comB s n)) ∧ Below w.heap.size w w' := by
  have PD0 := fun w' (g : Below w.heap.size w w') => refPrepared_any s vP vC n w' (h.below g (Nat.le_refl _)) hn h64
  have FA0 := fun w => refFaults_any n w
  have WH0 := fun w' (g : Below w.heap.size w w') => who_any s vP vC vC s.cs n (-1) w' (h.c.below g (Nat.le_refl _)) h65
  have hb : 0 ≤ fN n ∧ fN n ≤ 5 := by have := fN_cases n; omega
  obtain ⟨R, hR⟩ : ∃ R, R = comB s n := ⟨_, rfl⟩
  rw [← hR]
  unfold comB at hR
  have hkk := who_len s.vw s.tm s.cs n (-1)
  obtain ⟨f, hf⟩ : ∃ f, f = fN n := ⟨_, rfl⟩
  rw [← hf] at FA0 hb hR
  obtain ⟨p, hp⟩ : ∃ p, p = prepB s n := ⟨_, rfl⟩
  rw [← hp] at PD0 hR
  obtain ⟨L, hL⟩ : ∃ L, L = whoL s.vw s.tm s.cs n (-1) := ⟨_, rfl⟩
  rw [← hL] at WH0 hR hkk
  obtain ⟨k, hk⟩ : ∃ k, k = L.length := ⟨_, rfl⟩
  unfold OwnZ at WH0
  rw [← hk] at hR hkk WH0
  obtain ⟨has, vw, tm, body, ps, cs⟩ := s
  simp only at hR hkk h65
  unfold sV at PD0 WH0 ⊢
  simp only at PD0 WH0 ⊢
  obtain ⟨S, hS⟩ : ∃ S, S = str body := ⟨_, rfl⟩
  rw [← hS] at PD0 WH0 ⊢
  have HR := Lib.hid hR
  have FA := Lib.hid FA0
  have PD := Lib.hid PD0
  have WH := Lib.hid WH0
  have hk9 : k ≤ 1000 := by omega
  have q0 := heap_alloc_new w (.cells #[.bool has, .int .i64 vw, .int .i64 tm, .string S, vP, vC] 24)
  have bel := (Below.refl w.heap.size w).alloc (Nat.le_refl _) (.cells #[.bool has, .int .i64 vw, .int .i64 tm, .string S, vP, vC] 24)
  clear h FA0 PD0 WH0 hS hR hf hp hL hk hn hkk h64 h65
  cases p with
  | false =>
    have RES := Lib.hid (show R = false by rw [HR.out]; simp)
    skip
    go_enter Tryd.func22, Tryd.ntmps22
    go_wp2_with (first | ((with_reducible refine (PD.out _ bel).mono ?_); rintro e w4 ⟨rfl, g⟩; (have q0 := (g.block _ (lt_of_block q0)).trans q0); (obtain ⟨d0, d1, d2, d3, d4, d5, df⟩ := block_cells6 q0); (have bel := chain bel g); clear g) | ((with_reducible refine (WH.out _ bel).mono ?_); rintro e w5 ⟨a5, c5, rfl, own5, g⟩; clear own5; (have q0 := (g.block _ (lt_of_block q0)).trans q0); (obtain ⟨d0, d1, d2, d3, d4, d5, df⟩ := block_cells6 q0); (have bel := chain bel g); clear g) | ((with_reducible refine (FA.out _).mono ?_); rintro e w9 ⟨rfl, rfl⟩))
    go_ret
    exact ⟨ret_b RES.out.symm, bel⟩
  | true =>
    by_cases hc : 2 * f + 1 ≤ (k : Int)
    · have dc : decide (2 * f + 1 ≤ (k : Int)) = true := decide_eq_true hc
      have RES := Lib.hid (show R = true by rw [HR.out]; simp [hc])
      clear hc
      go_enter Tryd.func22, Tryd.ntmps22
      go_wp2_with (first | ((with_reducible refine (PD.out _ bel).mono ?_); rintro e w4 ⟨rfl, g⟩; (have q0 := (g.block _ (lt_of_block q0)).trans q0); (obtain ⟨d0, d1, d2, d3, d4, d5, df⟩ := block_cells6 q0); (have bel := chain bel g); clear g) | ((with_reducible refine (WH.out _ bel).mono ?_); rintro e w5 ⟨a5, c5, rfl, own5, g⟩; clear own5; (have q0 := (g.block _ (lt_of_block q0)).trans q0); (obtain ⟨d0, d1, d2, d3, d4, d5, df⟩ := block_cells6 q0); (have bel := chain bel g); clear g) | ((with_reducible refine (FA.out _).mono ?_); rintro e w9 ⟨rfl, rfl⟩))
      go_ret
      exact ⟨ret_b RES.out.symm, bel⟩
    · have dc : decide (2 * f + 1 ≤ (k : Int)) = false := decide_eq_false hc
      have RES := Lib.hid (show R = false by rw [HR.out]; simp [hc])
      clear hc
      go_enter Tryd.func22, Tryd.ntmps22
      go_wp2_with (first | ((with_reducible refine (PD.out _ bel).mono ?_); rintro e w4 ⟨rfl, g⟩; (have q0 := (g.block _ (lt_of_block q0)).trans q0); (obtain ⟨d0, d1, d2, d3, d4, d5, df⟩ := block_cells6 q0); (have bel := chain bel g); clear g) | ((with_reducible refine (WH.out _ bel).mono ?_); rintro e w5 ⟨a5, c5, rfl, own5, g⟩; clear own5; (have q0 := (g.block _ (lt_of_block q0)).trans q0); (obtain ⟨d0, d1, d2, d3, d4, d5, df⟩ := block_cells6 q0); (have bel := chain bel g); clear g) | ((with_reducible refine (FA.out _).mono ?_); rintro e w9 ⟨rfl, rfl⟩))
      go_ret
      exact ⟨ret_b RES.out.symm, bel⟩
end Go.Proofs.YtgmblgpfgdfnaaaDoor
