/- Choose: lowest, Low. Written by wip/tools/gen31f.py. -/
import Derived.Test.YtgmblgpfgdfnaaaQMM33
namespace Go.Proofs.Ytgmblgpfgdfnaaa
open Go Go.RowKit
set_option linter.unusedVariables false
set_option linter.unusedSimpArgs false
set_option maxRecDepth 100000

/-- The greatest stable number, and the root of the first that has it. -/
def lowF : List Cg → Int × Int → Int × Int
  | [], a => a
  | c :: r, a => lowF r (if a.1 < c.st then (c.st, c.rt) else a)
def lowZ (l : List Cg) : Int × Int := match l with
  | [] => (0, 0)
  | c :: r => lowF (c :: r) (c.st, c.rt)
theorem lowF_in : ∀ (l : List Cg) (a : Int × Int) (p : Int → Prop), p a.1 → (∀ c ∈ l, p c.st) → p (lowF l a).1
  | [], a, p, h, _ => h
  | c :: r, a, p, h, hl => by
    unfold lowF
    refine lowF_in r _ p ?_ (fun x hx => hl x (List.mem_cons_of_mem _ hx))
    split
    · exact hl c (by simp)
    · exact h
theorem lowZ_in {n : Int} {l : List Cg} (h : MayP n l) : 0 ≤ (lowZ l).1 ∧ (lowZ l).1 ≤ 2147483647 := by
  cases l with
  | nil => show (0 : Int) ≤ 0 ∧ (0 : Int) ≤ 2147483647; omega
  | cons c r =>
    refine lowF_in (c :: r) (c.st, c.rt) (fun z => 0 ≤ z ∧ z ≤ 2147483647) ?_ ?_
    · have := cgB_parts (h.ok c (by simp)); exact ⟨this.2.2.2.2.2, this.2.2.2.1⟩
    · intro x hx
      have := cgB_parts (h.ok x hx); exact ⟨this.2.2.2.2.2, this.2.2.2.1⟩
theorem low_at {l : List Cg} {a : Int × Int} {k : Nat} (hk : k < l.length) : lowF (l.drop k) a = lowF (l.drop (k + 1)) (if a.1 < l[k].st then (l[k].st, l[k].rt) else a) := by
  rw [List.drop_eq_getElem_cons hk]; rfl
set_option maxHeartbeats 2000000 in
theorem lowest_any (l : List Cg) (v : Value) (w : World) (h : RdCg w v l) (h0 : 0 < l.length) : Calls Try.prog 44 #[v] w fun e w' => e = .returned (.tuple #[.int .i64 (lowZ l).1, .int .i64 (lowZ l).2]) ∧ Below w.heap.size w w' := by
  obtain ⟨ao, cap, rfl, hcl, hcm⟩ := rdcg_val h
  obtain ⟨R, hR⟩ : ∃ R, R = lowZ l := ⟨_, rfl⟩
  rw [← hR]
  have hR2 : lowF (l.drop 0) (l[0].st, l[0].rt) = R := by
    rw [hR, List.drop_zero]
    cases l with
    | nil => simp at h0
    | cons c r => rfl
  have HR := Lib.hid hR2
  have HRD := Lib.hid h
  obtain ⟨pb, po, rfl, hpb, C0, C1, C2, C3, C4, C5⟩ := rdcg_cells h 0 h0
  obtain ⟨x, hx⟩ : ∃ x, x = l[0] := ⟨_, rfl⟩
  rw [← hx] at C2 C3 HR
  obtain ⟨fr, vw, st, rt, ⟨pa, pn, pk⟩, ⟨ca, cn, ck⟩, cs⟩ := x
  simp only [Nat.zero_mul, Nat.add_zero] at C2 C3 HR
  have h0i : (0 : Int) < l.length := by omega
  clear hx C0 C1 C4 C5 h hR hR2
  go_enter Try.func44, Try.ntmps44
  go_wp2_with fail
  go_quiet (fail)
  have bel0 := below_drewN (k := nq) (Below.refl w.heap.size w)
  obtain ⟨W0, hW0⟩ : ∃ W, W = World.drewN w nq := ⟨_, rfl⟩
  rw [← hW0] at bel0 ⊢
  have BEL0 := Lib.hid bel0
  clear C2 C3 hW0 bel0
  go_wp2_with fail
  go_loopw [4, 5, 18] (fun lo ro i wr => ∃ (k : Nat) (a b : Int), k ≤ l.length ∧ i = .int .i64 (k : Int) ∧ lo = .int .i64 a ∧ ro = .int .i64 b ∧ Hid (lowF (l.drop k) (a, b) = R) ∧ Below w.heap.size w wr) (fun _ _ i _ => l.length - (intOf i).toNat)
  case atStart => exact ⟨0, st, rt, Nat.zero_le _, rfl, rfl, rfl, HR, BEL0.out⟩
  case round =>
    obtain ⟨k, a0, b0, hk, rfl, rfl, rfl, hF, bel⟩ := hrel
    by_cases hlt : k < l.length
    · obtain ⟨pb2, po2, hab, hpb2, C0, C1, C2, C3, C4, C5⟩ := rdcg_cells HRD.out k hlt
      injection hab with hab
      injection hab with e1 e2
      subst e1
      subst e2
      have c0 := (bel.cell (p := ⟨pb, po + k * 6, none⟩) hpb).trans C0
      have c1 := (bel.cell (p := ⟨pb, po + k * 6 + 1, none⟩) hpb).trans C1
      have c2 := (bel.cell (p := ⟨pb, po + k * 6 + 2, none⟩) hpb).trans C2
      have c3 := (bel.cell (p := ⟨pb, po + k * 6 + 3, none⟩) hpb).trans C3
      have c4 := (bel.cell (p := ⟨pb, po + k * 6 + 4, none⟩) hpb).trans C4
      have c5 := (bel.cell (p := ⟨pb, po + k * 6 + 5, none⟩) hpb).trans C5
      have hup := low_at (a := (a0, b0)) hlt
      rw [hF.out] at hup
      obtain ⟨x, hx⟩ : ∃ x, x = l[k] := ⟨_, rfl⟩
      rw [← hx] at c0 c1 c2 c3 c4 c5 hup
      obtain ⟨fr, vw, st, rt, ⟨pa, pn, pk⟩, ⟨ca, cn, ck⟩, cs⟩ := x
      simp only at c0 c1 c2 c3 c4 c5 hup
      obtain ⟨W1, hW1⟩ : ∃ W, W = wr.alloc (.cells #[.int .i64 fr, .int .i64 vw, .int .i64 st, .int .i64 rt, .slice pa pn pk, .slice ca cn ck] 56) := ⟨_, rfl⟩
      have x1 := heap_alloc_new wr (.cells #[.int .i64 fr, .int .i64 vw, .int .i64 st, .int .i64 rt, .slice pa pn pk, .slice ca cn ck] 56)
      have B2 := chain bel ((Below.refl wr.heap.size wr).alloc (Nat.le_refl _) (.cells #[.int .i64 fr, .int .i64 vw, .int .i64 st, .int .i64 rt, .slice pa pn pk, .slice ca cn ck] 56))
      obtain ⟨e0, e1, e2, e3, e4, e5, ef⟩ := block_cells6 x1
      clear hx C0 C1 C2 C3 C4 C5 hW1
      by_cases hgt : a0 < st
      · rw [if_pos hgt] at hup
        have HU := Lib.hid hup.symm
        clear hup hF
        go_wp2_with fail
        go_quiet (fail)
        have B3 := below_drewN (k := nq) B2
        go_wp2_with fail
        exact ⟨⟨k + 1, st, rt, by omega, by push_cast; rfl, rfl, rfl, HU, B3⟩, by simp [intOf]; omega⟩
      · rw [if_neg hgt] at hup
        have HU := Lib.hid hup.symm
        clear hup hF
        go_wp2_with fail
        exact ⟨⟨k + 1, a0, b0, by omega, by push_cast; rfl, rfl, rfl, HU, B2⟩, by simp [intOf]; omega⟩
    · obtain rfl : k = l.length := by omega
      have hF2 := hF.out
      rw [List.drop_length] at hF2
      have HF := Lib.hid hF2
      clear hF2 hF
      go_wp2_with fail
      go_ret2
      exact ⟨by rw [← HF.out]; rfl, bel⟩
set_option maxHeartbeats 2000000 in
theorem low_yes (n : Int) (l : List Cg) (v : Value) (w : World) (h : RdCg w v l) (hm : MayP n l) : Calls Try.prog 24 #[v, .int .i64 n] w fun e w' => e = .returned (.tuple #[.int .i64 (lowZ l).1, .int .i64 (lowZ l).2, .int .i64 0]) ∧ Below w.heap.size w w' := by
  have h0 : 0 < l.length := by have := hm.len; have := may_n hm; omega
  have MY := Lib.hid (fun w' (g : Below w.heap.size w w') => choMay_yes n l v w' (h.below g (Nat.le_refl _)) hm)
  have LO0 := fun w' (g : Below w.heap.size w w') => lowest_any l v w' (h.below g (Nat.le_refl _)) h0
  obtain ⟨R, hR⟩ : ∃ R, R = lowZ l := ⟨_, rfl⟩
  rw [← hR] at LO0 ⊢
  obtain ⟨ra, rb⟩ := R
  simp only at LO0 ⊢
  have LO := Lib.hid LO0
  clear LO0 hR h0 h hm
  go_enter Try.func24, Try.ntmps24
  go_wp2_with (first | ((with_reducible refine (MY.out _ (Below.refl _ _)).mono ?_); rintro e w1 ⟨rfl, g1⟩) | ((with_reducible refine (LO.out _ g1).mono ?_); rintro e w2 ⟨rfl, gLO⟩))
  refine bodyPost_ret (v := .tuple #[.int .i64 ra, .int .i64 rb, .int .i64 0]) (by simp [results, Try.results24, go_sem]) rfl ?_
  exact ⟨rfl, chain g1 gLO⟩
end Go.Proofs.Ytgmblgpfgdfnaaa
