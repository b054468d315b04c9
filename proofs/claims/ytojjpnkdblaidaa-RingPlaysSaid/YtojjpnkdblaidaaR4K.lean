/- Say, by the ring and by the document, in one word; the chapter's examples. -/
import Derived.Test.YtojjpnkdblaidaaR4J
namespace Go.Proofs.Ytojjpnkdblaidaa
open Go Go.RowKit Go.Maps
set_option linter.unusedVariables false
set_option linter.unusedSimpArgs false
theorem may_mem {n : Nat} {xs : List Int} (h : mayN n xs = true) {p : Int} (hp : p ∈ xs) : 0 ≤ p ∧ p < n := by
  rw [mayN_nat, Bool.and_eq_true, List.all_eq_true] at h
  exact isB_iff.1 (h.2 p hp)
theorem badB_eq {n : Nat} {xs : List Int} (h : mayN n xs = true) (p : Int) : badB n (badOf xs) p = decide (p ∈ xs) := by
  unfold badB badOf
  by_cases hp : p ∈ xs
  · have h1 := may_mem h hp
    rw [isB_t h1.1 h1.2]
    have : ((p.toNat : Nat) : Int) = p := by omega
    simp [hp, this]
  · by_cases h2 : 0 ≤ p
    · have : ((p.toNat : Nat) : Int) = p := by omega
      simp [hp, this]
    · rw [isB_f1 h2]; simp [hp]
def sayE (n : Nat) (xs : List Int) (sp : Int) (s : St) : Int := if ¬ (0 ≤ sp ∧ sp < n) then 4 else if s.a = sp ∨ (sp ∈ xs ∧ s.a ∈ xs) then 0 else 19
def sayL (n : Nat) (xs : List Int) (L : List St) (sp : Int) (s : St) : List St := if sayE n xs sp s = 0 ∧ ¬ s ∈ L then L ++ [s] else L
theorem say_any (base B M n : Nat) (xs : List Int) (sv : Value) (L : List St) (sp : Int) (s : St) (hs : s.Wf) (w : World) (h : RG w base B M n (badOf xs) sv L) (hlen : L.length < 1000) (hbw : base ≤ w.heap.size) (hmay : mayN n xs = true) :
    Calls Try.prog 12 #[.pointer (some ⟨B, 0, none⟩), .int .i64 sp, s.v] w (SaidP w base B M n (badOf xs) sv (sayE n xs sp s) (sayL n xs L sp s)) := by
  by_cases h1 : 0 ≤ sp ∧ sp < n
  · by_cases h2 : s.a = sp ∨ (sp ∈ xs ∧ s.a ∈ xs)
    · have e1 : sayE n xs sp s = 0 := by unfold sayE; rw [if_neg (by simpa using h1), if_pos h2]
      have g := say_go base B M n (badOf xs) sv L sp s hs w h hlen hbw (isB_t h1.1 h1.2) (by rw [badB_eq hmay, badB_eq hmay]; simpa using h2)
      have e2 : sayL n xs L sp s = if s ∈ L then L else L ++ [s] := by unfold sayL; rw [e1]; by_cases hm : s ∈ L <;> simp [hm]
      rw [e1, e2]; exact g
    · have e1 : sayE n xs sp s = 19 := by unfold sayE; rw [if_neg (by simpa using h1), if_neg h2]
      have e2 : sayL n xs L sp s = L := by unfold sayL; rw [e1]; simp
      rw [e1, e2]
      refine say_forged base B M n (badOf xs) sv L sp s w h (isB_t h1.1 h1.2) (fun e => h2 (.inl e)) ?_
      rw [badB_eq hmay, badB_eq hmay]
      by_cases h3 : sp ∈ xs
      · right; simp; exact fun h4 => h2 (.inr ⟨h3, h4⟩)
      · left; simpa using h3
  · have e1 : sayE n xs sp s = 4 := by unfold sayE; rw [if_pos h1]
    have e2 : sayL n xs L sp s = L := by unfold sayL; rw [e1]; simp
    rw [e1, e2]
    refine say_range base B M n (badOf xs) sv L sp s w h ?_
    unfold isB; rw [Bool.and_eq_false_iff]; simp; omega
/-- What the document's Say hands back. -/
def RSaidP (w : World) (n : Nat) (rv lv : Value) (L' : List St) (err : Int) (e : Ending) (w' : World) : Prop :=
  Below w.heap.size w w' ∧ ∃ lv', e = .returned (.tuple #[.agg #[.int .i64 n, rv, lv'], .int .i64 err]) ∧ w'.ownsRow 0 39 5 lv' L'.length (L'.flatMap St.cs) ∧ ∀ k, lv'.ownBlock = some k → lv.ownBlock = some k ∨ w.heap.size ≤ k
theorem refSay_any (n : Nat) (rv lv : Value) (xs : List Int) (L : List St) (sp : Int) (s : St) (w : World) (hx : xs.length ≤ 1000) (hL : L.length < 1000) (hr : RdV w rv (xs.map iv)) (hwf : ∀ x ∈ L, x.Wf) (hl : w.ownsRow 0 39 5 lv L.length (L.flatMap St.cs)) :
    Calls Try.prog 11 #[.agg #[.int .i64 n, rv, lv], .int .i64 sp, s.v] w (RSaidP w n rv lv (sayL n xs L sp s) (sayE n xs sp s)) := by
  by_cases h1 : 0 ≤ sp ∧ sp < n
  · by_cases h2 : s.a = sp ∨ (sp ∈ xs ∧ s.a ∈ xs)
    · have e1 : sayE n xs sp s = 0 := by unfold sayE; rw [if_neg (by simpa using h1), if_pos h2]
      by_cases hm : s ∈ L
      · have e2 : sayL n xs L sp s = L := by unfold sayL; simp [hm]
        rw [e1, e2]
        refine (refSay_again n rv lv xs L sp s 0 w hx (by omega) hr hwf hl h1.1 h1.2 h2 hm).mono ?_
        rintro e w' ⟨g, rfl⟩
        exact ⟨g, lv, rfl, own_below hl g, fun k hk => .inl hk⟩
      · have e2 : sayL n xs L sp s = L ++ [s] := by unfold sayL; simp [hm, e1]
        rw [e1, e2]
        refine (refSay_new n rv lv xs L sp s 0 w hx hL hr hwf hl h1.1 h1.2 h2 hm).mono ?_
        rintro e w' ⟨g, lv', rfl, o⟩
        exact ⟨g, lv', rfl, own_base o (Nat.zero_le _), fun k hk => .inr (o.lt k hk).1⟩
    · have e1 : sayE n xs sp s = 19 := by unfold sayE; rw [if_neg (by simpa using h1), if_neg h2]
      have e2 : sayL n xs L sp s = L := by unfold sayL; rw [e1]; simp
      rw [e1, e2]
      refine (refSay_forged n rv lv xs L sp s 0 w hx (by omega) hr hwf hl h1.1 h1.2 (fun e => h2 (.inl e)) ?_).mono ?_
      · by_cases h3 : sp ∈ xs
        · right; exact fun h4 => h2 (.inr ⟨h3, h4⟩)
        · left; exact h3
      rintro e w' ⟨g, rfl⟩
      exact ⟨g, lv, rfl, own_below hl g, fun k hk => .inl hk⟩
  · have e1 : sayE n xs sp s = 4 := by unfold sayE; rw [if_pos h1]
    have e2 : sayL n xs L sp s = L := by unfold sayL; rw [e1]; simp
    rw [e1, e2]
    refine (refSay_out n rv lv xs L sp s 0 w hx (by omega) hr hwf hl h1).mono ?_
    rintro e w' ⟨g, rfl⟩
    exact ⟨g, lv, rfl, own_below hl g, fun k hk => .inl hk⟩
theorem sayL_wf {n : Nat} {xs : List Int} {L : List St} {sp : Int} {s : St} (h : ∀ x ∈ L, x.Wf) (hs : s.Wf) : ∀ x ∈ sayL n xs L sp s, x.Wf := by
  unfold sayL
  split
  · intro x hx; rcases List.mem_append.1 hx with hx | hx; exact h x hx; rw [List.mem_singleton.1 hx]; exact hs
  · exact h
theorem sayL_len {n : Nat} {xs : List Int} {L : List St} {sp : Int} {s : St} : (sayL n xs L sp s).length ≤ L.length + 1 := by
  unfold sayL
  split
  · simp
  · omega
def s02 : St := ⟨0, 2, 0, 0, 0⟩
def s10 : St := ⟨1, 0, 0, 0, 0⟩
def s00 : St := ⟨0, 0, 0, 0, 0⟩
def s22 : St := ⟨2, 2, 0, 0, 0⟩
theorem below_trn {w w1 w2 : World} {own : Nat → Prop} (h : Below w.heap.size w w1) (t : Trn own w1 w2) (ho : ∀ k, own k → w.heap.size ≤ k) : Below w.heap.size w w2 :=
  ⟨t.os.trans h.os, t.tape.trans h.tape, t.output.trans h.output, Nat.le_trans h.size t.size, fun k hk => (t.block k (Nat.lt_of_lt_of_le hk h.size) (fun e => by have := ho k e; omega)).trans (h.block k hk)⟩
theorem RG.own_ge {w : World} {base B M n : Nat} {bad : Nat → Bool} {sv : Value} {L : List St} (h : RG w base B M n bad sv L) : ∀ k, ownR B M sv k → base ≤ k := by
  rintro k (e | e | e)
  · rw [e]; exact h.bB
  · rw [e]; exact h.bM
  · exact (h.row.lt k e).1
set_option maxRecDepth 100000 in
set_option maxHeartbeats 1000000 in
theorem awake_any (w : World) : Calls Try.prog 9 #[] w fun e w' => e = .returned (.bool true) ∧ Below w.heap.size w w' := by
  have hmay : mayN 4 [3] = true := by decide
  have q0 := heap_alloc_new w (.cells #[.int .i64 3] 3)
  have B0 : Below w.heap.size w (w.alloc (.cells #[.int .i64 3] 3)) := (Below.refl _ _).alloc (Nat.le_refl _) _
  have R0 : RdV (w.alloc (.cells #[.int .i64 3] 3)) (.slice (some ⟨w.heap.size, 0, none⟩) 1 1) ([3].map iv) := own_rdv (base := 0) (e := 3) (World.ownsRow_lit _ #[.int .i64 3] 1 (Nat.zero_le _) (by decide) rfl)
  have N := new_in 4 (by omega) (by omega) _ [3] (by decide) _ R0
  obtain ⟨W, hW⟩ : ∃ W, W = w.alloc (.cells #[.int .i64 3] 3) := ⟨_, rfl⟩
  rw [← hW] at N B0
  clear R0 q0
  go_enter Try.func9, Try.ntmps9
  go_wp2_with fail
  rw [← hW]
  refine N.mono ?_
  rintro e w1 (⟨h, _⟩ | ⟨_, g, B, M, rfl, rg⟩)
  · rw [show mayN ((4 : Nat) : Int) [3] = true from hmay] at h; cases h
  have B1 := chain B0 g
  have S1 := say_any _ B M 4 [3] _ _ 0 s02 (by unfold St.Wf; decide) w1 rg (by decide) g.size hmay
  have O1 := rg.own_ge
  have hb := g.size
  clear rg N g hW
  go_wp2_with fail
  refine S1.mono ?_
  rintro e w2 ⟨rfl, sv2, rg2, t2, _⟩
  have B2 := below_trn B1 t2 (fun k hk => Nat.le_trans B0.size (O1 k hk))
  have hb2 := Nat.le_trans hb t2.size
  rw [show sayL 4 [3] [] 0 s02 = [s02] from by decide] at rg2
  rw [show sayE 4 [3] 0 s02 = 0 from by decide]
  have S2 := say_any _ B M 4 [3] _ _ 0 s10 (by unfold St.Wf; decide) w2 rg2 (by decide) hb2 hmay
  have O2 := rg2.own_ge
  clear S1 O1 t2 rg2 B1 hb
  go_wp2_with fail
  refine S2.mono ?_
  rintro e w3 ⟨rfl, sv3, rg3, t3, _⟩
  have B3 := below_trn B2 t3 (fun k hk => Nat.le_trans B0.size (O2 k hk))
  have hb3 := Nat.le_trans hb2 t3.size
  rw [show sayL 4 [3] [s02] 0 s10 = [s02] from by decide] at rg3
  rw [show sayE 4 [3] 0 s10 = 19 from by decide]
  have S3 := say_any _ B M 4 [3] _ _ 3 s00 (by unfold St.Wf; decide) w3 rg3 (by decide) hb3 hmay
  have O3 := rg3.own_ge
  clear S2 O2 t3 rg3 B2 hb2
  go_wp2_with fail
  refine S3.mono ?_
  rintro e w4 ⟨rfl, sv4, rg4, t4, _⟩
  have B4 := below_trn B3 t4 (fun k hk => Nat.le_trans B0.size (O3 k hk))
  rw [show sayL 4 [3] [s02] 3 s00 = [s02] from by decide] at rg4
  rw [show sayE 4 [3] 3 s00 = 19 from by decide]
  clear S3 O3 t4 B3 hb3
  have g5 : Below w4.heap.size w4 (w4.alloc (.cells #[.int .i64 0, .int .i64 2, .int .i64 0, .int .i64 0, .int .i64 0, .int .i64 2, .int .i64 2, .int .i64 0, .int .i64 0, .int .i64 0] 39)) := (Below.refl _ _).alloc (Nat.le_refl _) _
  have RL : RdS (w4.alloc (.cells #[.int .i64 0, .int .i64 2, .int .i64 0, .int .i64 0, .int .i64 0, .int .i64 2, .int .i64 2, .int .i64 0, .int .i64 0, .int .i64 0] 39)) (.slice (some ⟨w4.heap.size, 0, none⟩) 2 2) [s02, s22] :=
    own_rds (base := 0) (by simpa [St.cs, s02, s22] using World.ownsRow_lit (base := 0) (size := 5) (w := w4) (e := 39) #[.int .i64 0, .int .i64 2, .int .i64 0, .int .i64 0, .int .i64 0, .int .i64 2, .int .i64 2, .int .i64 0, .int .i64 0, .int .i64 0] 2 (Nat.zero_le _) (by decide) rfl) (by intro x hx; rcases List.mem_cons.1 hx with rfl | hx; (unfold St.Wf; decide); rw [List.mem_singleton.1 hx]; (unfold St.Wf; decide)) (by decide)
  have V := voices_any _ B M 4 _ sv4 [s02] _ [s02, s22] s02 (by unfold St.Wf; decide) (by decide) _ (rg4.below g5) RL
  have B5 := chain B4 g5
  have rg5 := rg4.below g5
  obtain ⟨W5, hW5⟩ : ∃ z, z = w4.alloc (.cells #[.int .i64 0, .int .i64 2, .int .i64 0, .int .i64 0, .int .i64 0, .int .i64 2, .int .i64 2, .int .i64 0, .int .i64 0, .int .i64 0] 39) := ⟨_, rfl⟩
  rw [← hW5] at V B5 rg5
  clear RL g5 rg4 B4
  go_wp2_with fail
  rw [← hW5]
  refine V.mono ?_
  rintro e w6 ⟨z, rfl, g6, rv⟩
  rw [show voicesN [s02] [s02, s22] s02 64 = [0] from by decide] at rv
  obtain ⟨ao, cap, rfl, hc, hm, HA⟩ := rdv_open rv
  obtain ⟨b, off, rfl, hb, hcell⟩ := HA.out (by decide)
  have c0 := hcell 0 (by decide)
  simp only [List.getElem_cons_zero, Nat.add_zero] at c0
  have rg6 := rg5.below g6
  have B6 := chain B5 g6
  have H := has_any _ B M 4 _ sv4 [s02] s02 (by unfold St.Wf; decide) w6 rg6
  rw [show decide (s02 ∈ [s02]) = true from by decide] at H
  have C := fun w7 (g7 : Below w6.heap.size w6 w7) => count_any _ B M 4 _ sv4 [s02] w7 (rg6.below g7)
  have C := Lib.hid C
  clear V rg5 g6 rv HA hcell rg6 hW5
  unfold St.v s02 at H
  go_wp2_with (first | (go_at_call 13; refine H.mono ?_; rintro e w7 ⟨rfl, g7⟩) | (go_at_call 18; refine (C.out _ g7).mono ?_; rintro e w8 ⟨rfl, rfl⟩))
  go_ret
  exact ⟨rfl, chain B6 g7⟩
end Go.Proofs.Ytojjpnkdblaidaa
