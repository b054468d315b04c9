/- The law RingTrue. Written by wip/tools/gen4n.py. -/
import Derived.Test.YtojjpnkdblaidaaR4L
import Derived.Test.YtojjpnkdblaidaaRegS
namespace Go.Proofs.Ytojjpnkdblaidaa
open Go Go.RowKit Go.Maps
set_option linter.unusedVariables false
set_option linter.unusedSimpArgs false
theorem snoc_ind {α : Type} {P : List α → Prop} (h0 : P []) (h1 : ∀ l a, P l → P (l ++ [a])) (l : List α) : P l := by
  have : ∀ l : List α, P l.reverse := fun l => by
    induction l with
    | nil => exact h0
    | cons a l ih => rw [List.reverse_cons]; exact h1 _ _ ih
  rw [← List.reverse_reverse l]; exact this _
/-- What is recorded of a list of what is said by whom. -/
def recN (n : Nat) (xs : List Int) (D : List (Int × St)) : List St := D.foldl (fun L d => sayL n xs L d.1 d.2) []
theorem recN_snoc (n : Nat) (xs : List Int) (D : List (Int × St)) (d : Int × St) : recN n xs (D ++ [d]) = sayL n xs (recN n xs D) d.1 d.2 := by simp [recN]
theorem recN_len (n : Nat) (xs : List Int) (D : List (Int × St)) : (recN n xs D).length ≤ D.length := by
  induction D using snoc_ind with
  | h0 => simp [recN]
  | h1 D d ih =>
    rw [recN_snoc, List.length_append, List.length_singleton]
    have := sayL_len (n := n) (xs := xs) (L := recN n xs D) (sp := d.1) (s := d.2)
    omega
/-- Who said s itself. -/
def saidN (n : Nat) (xs : List Int) (s : St) (D : List (Int × St)) : Bool := D.any fun d => decide (sayE n xs d.1 d.2 = 0) && (decide (d.1 = s.a) && decide (d.2 = s))
theorem said_rec (n : Nat) (xs : List Int) (s : St) (D : List (Int × St)) (hs : ¬ s.a ∈ xs) : decide (s ∈ recN n xs D) = saidN n xs s D := by
  induction D using snoc_ind with
  | h0 => simp [recN, saidN]
  | h1 D d ih =>
    have e : saidN n xs s (D ++ [d]) = (saidN n xs s D || (decide (sayE n xs d.1 d.2 = 0) && (decide (d.1 = s.a) && decide (d.2 = s)))) := by simp [saidN]
    rw [recN_snoc, e, ← ih]
    by_cases h0 : sayE n xs d.1 d.2 = 0
    · by_cases h1 : d.2 = s
      · have h2 : d.1 = s.a := by
          unfold sayE at h0
          split at h0
          · cases h0
          · split at h0
            · rename_i h3; rw [h1] at h3; rcases h3 with h3 | h3; exact h3.symm; exact absurd h3.2 hs
            · cases h0
        have : s ∈ sayL n xs (recN n xs D) d.1 d.2 := by
          unfold sayL; rw [h1] at h0 ⊢
          by_cases hm : s ∈ recN n xs D <;> simp [hm, h0]
        have h3 := h0
        rw [h2, h1] at h3
        rw [decide_eq_true this]; simp [h1, h2, h3]
      · have : (s ∈ sayL n xs (recN n xs D) d.1 d.2) ↔ s ∈ recN n xs D := by
          unfold sayL
          split
          · simp; intro h; exact absurd h.symm h1
          · rfl
        simp [this, h1]
    · have : sayL n xs (recN n xs D) d.1 d.2 = recN n xs D := by unfold sayL; simp [h0]
      rw [this]; simp [h0]
theorem sayE_vals (n : Nat) (xs : List Int) (sp : Int) (s : St) : sayE n xs sp s = 0 ∨ sayE n xs sp s = 4 ∨ sayE n xs sp s = 19 := by
  unfold sayE
  split
  · exact .inr (.inl rfl)
  · split
    · exact .inl rfl
    · exact .inr (.inr rfl)
theorem rdd_open {w : World} {v : Value} {D : List (Int × St)} (h : RdD w v D) : ∃ ao cap, v = .slice ao D.length cap ∧ D.length ≤ cap ∧ (∀ x ∈ D, x.2.Wf) ∧ Hid (0 < D.length → ∃ b off, ao = some ⟨b, off, none⟩ ∧ b < w.heap.size ∧ ∀ i (hi : i < D.length), w.cell? ⟨b, off + i * 6, none⟩ = some (.int .i64 D[i].1) ∧ At5 w b (off + i * 6 + 1) D[i].2) := by
  obtain ⟨ao, cap, h1, h2, h3, h4, h5⟩ := h
  exact ⟨ao, cap, h1, h2, h4, h5⟩
theorem rdd_cut {w : World} {ao : Option Addr} {n cap : Nat} {D : List (Int × St)} (h : RdD w (.slice ao n cap) D) : RdD w (.slice ao (min n 120) cap) (D.take 120) := by
  obtain ⟨ao', cap', h1, h2, h3, h4, h5⟩ := h
  cases h1
  refine ⟨ao, cap, by simp [Nat.min_comm], by simp; omega, h3, fun x hx => h4 x (List.mem_of_mem_take hx), Lib.hid fun hp => ?_⟩
  obtain ⟨b, off, h6, h7, h8⟩ := h5.out (by simp at hp; omega)
  refine ⟨b, off, h6, h7, fun i hi => ?_⟩
  have hi' : i < D.length := by simp at hi; omega
  have e : (D.take 120)[i] = D[i] := by simp
  rw [e]; exact h8 i hi'
set_option maxRecDepth 100000 in
set_option maxHeartbeats 4000000 in
theorem true_any (v1 : Value) (xs : List Int) (v2 : Value) (D : List (Int × St)) (s : St) (w : World) (h1 : RdV w v1 (xs.map iv)) (h2 : RdD w v2 D) (hs : s.Wf) :
    Calls Try.prog 5 #[v1, v2, s.v] w fun e w' => e = .returned (.bool true) ∧ Below w.heap.size w w' := by
  have AW := Lib.hid awake_any
  have Be : Below w.heap.size w (w.alloc (.cells #[.int .i64 s.a, .int .i64 s.b, .int .i64 s.c, .int .i64 s.d, .int .i64 s.e] 39)) := (Below.refl _ _).alloc (Nat.le_refl _) _
  have q5 := heap_alloc_new w (.cells #[.int .i64 s.a, .int .i64 s.b, .int .i64 s.c, .int .i64 s.d, .int .i64 s.e] 39)
  have R2 := ring2_any 7 v1 xs _ (h1.below Be (Nat.le_refl _))
  obtain ⟨W, hW⟩ : ∃ W, W = w.alloc (.cells #[.int .i64 s.a, .int .i64 s.b, .int .i64 s.c, .int .i64 s.d, .int .i64 s.e] 39) := ⟨_, rfl⟩
  rw [← hW] at R2 Be q5
  have hl80 : (xs.take 80).length ≤ 80 := by simp; omega
  obtain ⟨X, hX⟩ : ∃ X, X = xs.take 80 := ⟨_, rfl⟩
  rw [← hX] at R2 hl80
  clear hX
  obtain ⟨a2, c2, hv2, hc2, _⟩ := rdd_open h2
  have FW := Lib.hid (fun w' => few_any v2 D.length a2 c2 hv2 hc2 w')
  have H2 := Lib.hid h2
  have HS := Lib.hid hs
  have lq5 := lt_of_block q5
  obtain ⟨ao1, cap1, hv1, _⟩ := rdv_open h1
  subst hv1 hv2
  clear h1 h2 hs
  unfold St.v
  go_enter Try.func5, Try.ntmps5
  go_wp2_with fail
  rw [← hW]
  clear hW
  refine R2.mono ?_
  rintro e w1 ⟨g1, v, rv, (⟨hmay, rfl⟩ | ⟨hmay, B, M, n, base, hn, hb1, hb2, rfl, rg⟩)⟩
  · have rv := rv.below g1 (Nat.le_refl _)
    obtain ⟨ao3, cap3, rfl, hc3, hm3, _⟩ := rdv_open rv
    have MY := fun w' g => may_any 7 (.slice ao3 X.length cap3) X (by omega) w' (rv.below (B := w1.heap.size) g (Nat.le_refl _))
    rw [hmay] at MY
    have MY := Lib.hid MY
    have bel := chain Be g1
    have B3 : Below w1.heap.size w1 (w1.alloc (.cells #[.int .i64 7, .slice ao3 X.length cap3, .slice none 0 0] 27)) := (Below.refl _ _).alloc (Nat.le_refl _) _
    clear rv hmay R2 g1
    go_wp2_with fail
    refine (MY.out _ B3).mono ?_
    rintro e w2 ⟨rfl, rfl⟩
    go_wp2_with (go_at_call 9; refine (AW.out _).mono ?_; rintro e w3 ⟨rfl, g3⟩)
    go_ret
    exact ⟨rfl, chain (chain bel B3) g3⟩
  · have rv := rv.below g1 (Nat.le_refl _)
    obtain ⟨ao3, cap3, rfl, hc3, hm3, _⟩ := rdv_open rv
    obtain rfl : n = 7 := by omega
    have B3 : Below W.heap.size W (w1.alloc (.cells #[.int .i64 7, .slice ao3 X.length cap3, .slice none 0 0] 27)) := g1.alloc g1.size _
    have rg1 := rg.below ((Below.refl _ _).alloc (Nat.le_refl _) (.cells #[.int .i64 7, .slice ao3 X.length cap3, .slice none 0 0] 27))
    have hcut := rdd_cut H2.out
    have hl120 : (D.take 120).length ≤ 120 := by simp; omega
    have hmin : min D.length 120 = (D.take 120).length := by simp [Nat.min_comm]
    rw [hmin] at FW hcut
    obtain ⟨D1, hD1⟩ : ∃ D1, D1 = D.take 120 := ⟨_, rfl⟩
    rw [← hD1] at FW hcut hl120
    obtain ⟨ao4, cap4, hv4, hc4, hwf4, HA⟩ := rdd_open hcut
    cases hv4
    have HW4 := Lib.hid hwf4
    have HMAY := Lib.hid hmay
    have hbase : base ≤ (w1.alloc (.cells #[.int .i64 7, .slice ao3 X.length cap3, .slice none 0 0] 27)).heap.size := by simp; omega
    clear rv hmay R2 g1 rg hcut hmin hD1 H2 hwf4 hn
    go_wp2_with fail
    refine (FW.out _).mono ?_
    rintro e w2 ⟨rfl, rfl⟩
    obtain ⟨W1, hW1⟩ : ∃ W1, W1 = w1.alloc (.cells #[.int .i64 7, .slice ao3 X.length cap3, .slice none 0 0] 27) := ⟨_, rfl⟩
    rw [← hW1] at B3 rg1 hbase ⊢
    clear hW1
    go_wp2_with fail
    go_loopw [10, 11] (fun a i wr => ∃ j : Nat, j ≤ D1.length ∧ a = .bool (saidN 7 X s (D1.take j)) ∧ i = .int .i64 (j : Int) ∧ Below W.heap.size W wr ∧ base ≤ wr.heap.size ∧ ∃ sv, RG wr base B M 7 (badOf X) sv (recN 7 X (D1.take j))) (fun _ i _ => 200 - (intOf i).toNat)
    case atStart => exact ⟨0, Nat.zero_le _, rfl, rfl, B3, hbase, _, rg1⟩
    case round =>
      obtain ⟨j, hj, rfl, rfl, bel, hbs, sv, rg⟩ := hrel
      obtain ⟨L, hL⟩ : ∃ L, L = recN 7 X (D1.take j) := ⟨_, rfl⟩
      obtain ⟨sb, hsb⟩ : ∃ sb, sb = saidN 7 X s (D1.take j) := ⟨_, rfl⟩
      have hLl : L.length ≤ 120 := by rw [hL]; have := recN_len 7 X (D1.take j); simp at this; omega
      rw [← hL] at rg
      rw [← hsb]
      have r5 := (bel.block _ (lt_of_block q5)).trans q5
      by_cases hjx : j < D1.length
      · obtain ⟨b, off, rfl, hb, hcells⟩ := HA.out (by omega)
        have hcw : ∀ w', w'.heap[b]? = wr.heap[b]? → w'.cell? ⟨b, off + j * 6, none⟩ = some (.int .i64 D1[j].1) ∧ At5 w' b (off + j * 6 + 1) D1[j].2 := by
          intro w' hw'
          have e : w'.heap[b]? = w.heap[b]? := hw'.trans ((bel.block b (Nat.lt_of_lt_of_le hb Be.size)).trans (Be.block b hb))
          exact ⟨(World.cell?_of_block e).trans (hcells j hjx).1, (hcells j hjx).2.of e⟩
        have ht : D1.take (j + 1) = D1.take j ++ [D1[j]] := by rw [List.take_succ_eq_append_getElem hjx]
        have hwf := HW4.out D1[j] (List.getElem_mem hjx)
        obtain ⟨⟨sp, t⟩, ex⟩ : ∃ d, d = D1[j] := ⟨_, rfl⟩
        rw [← ex] at hcw ht hwf
        simp only at hcw hwf
        have AC := Lib.hid hcw
        have sy := say_any base B M 7 X sv L sp t hwf wr.drew (rg.below (Below.refl _ _).drew) (by omega) hbs HMAY.out
        have hrec : recN 7 X (D1.take (j + 1)) = sayL 7 X L sp t := by rw [ht, recN_snoc, hL]
        have hsd : saidN 7 X s (D1.take (j + 1)) = (sb || (decide (sayE 7 X sp t = 0) && (decide (sp = s.a) && decide (t = s)))) := by rw [ht, hsb]; simp [saidN]
        have HREC := Lib.hid hrec
        have hS0 : wr.drew.heap[b]? = wr.heap[b]? := rfl
        have hbb : b < base := by have := Be.size; omega
        have lb : b < wr.heap.size := Nat.lt_of_lt_of_le hb (Nat.le_trans Be.size bel.size)
        have hE2 := eq_st t s
        unfold St.v at sy
        clear ht hwf ex hcells hcw hrec hL hsb
        rcases sayE_vals 7 X sp t with h0 | h0 | h0
        · skip
          rw [h0] at sy hsd
          have HSD := Lib.hid hsd
          clear h0 hsd
          go_wp2_with fail
          refine gs_start (S := fun w' => w'.heap[b]? = wr.heap[b]?) (by kernel_rfl) ?_
          refine gs_take (i := 0) (d := (some 35)) (v := ?_) rfl rfl (by kernel_rfl) (fun _ _ _ h => h) (by rfl) (by first | exact hS1 | exact hS0) (fun w' hb' => ?_) ?_
          rotate_left
          · (try go_simp); (try with_reducible rfl)
          try simp only [Act.put, List.setIfInBounds_toArray, List.set_cons_zero, List.set_cons_succ]
          refine gs_take (i := 1) (d := (some 36)) (v := ?_) rfl rfl (by kernel_rfl) (fun _ _ _ h => h) (by rfl) (by first | exact hS1 | exact hS0) (fun w' hb' => ?_) ?_
          rotate_left
          · (try go_simp); (try with_reducible rfl)
          try simp only [Act.put, List.setIfInBounds_toArray, List.set_cons_zero, List.set_cons_succ]
          refine gs_take (i := 2) (d := (some 37)) (v := ?_) rfl rfl (by kernel_rfl) (fun _ _ _ h => h) (by rfl) (by first | exact hS1 | exact hS0) (fun w' hb' => ?_) ?_
          rotate_left
          · (try go_simp); (try with_reducible rfl)
          try simp only [Act.put, List.setIfInBounds_toArray, List.set_cons_zero, List.set_cons_succ]
          refine gs_take (i := 3) (d := (some 38)) (v := ?_) rfl rfl (by kernel_rfl) (fun _ _ _ h => h) (by rfl) (by first | exact hS1 | exact hS0) (fun w' hb' => ?_) ?_
          rotate_left
          · (try go_simp); (try with_reducible rfl)
          try simp only [Act.put, List.setIfInBounds_toArray, List.set_cons_zero, List.set_cons_succ]
          refine gs_take (i := 4) (d := (some 39)) (v := ?_) rfl rfl (by kernel_rfl) (fun _ _ _ h => h) (by rfl) (by first | exact hS1 | exact hS0) (fun w' hb' => ?_) ?_
          rotate_left
          · (try go_simp); (try with_reducible rfl)
          try simp only [Act.put, List.setIfInBounds_toArray, List.set_cons_zero, List.set_cons_succ]
          refine gs_take (i := 5) (d := (some 40)) (v := ?_) rfl rfl (by kernel_rfl) (fun _ _ _ h => h) (by rfl) (by first | exact hS1 | exact hS0) (fun w' hb' => ?_) ?_
          rotate_left
          · have hc := (AC.out _ hb').1; (try go_simp); (try with_reducible rfl)
          try simp only [Act.put, List.setIfInBounds_toArray, List.set_cons_zero, List.set_cons_succ]
          refine gs_take (i := 6) (d := (some 41)) (v := ?_) rfl rfl (by kernel_rfl) (fun _ _ _ h => h) (by rfl) (by first | exact hS1 | exact hS0) (fun w' hb' => ?_) ?_
          rotate_left
          · (try go_simp); (try with_reducible rfl)
          try simp only [Act.put, List.setIfInBounds_toArray, List.set_cons_zero, List.set_cons_succ]
          refine gs_take (i := 7) (d := (some 42)) (v := ?_) rfl rfl (by kernel_rfl) (fun _ _ _ h => h) (by rfl) (by first | exact hS1 | exact hS0) (fun w' hb' => ?_) ?_
          rotate_left
          · (try go_simp); (try with_reducible rfl)
          try simp only [Act.put, List.setIfInBounds_toArray, List.set_cons_zero, List.set_cons_succ]
          refine gs_take (i := 8) (d := (some 43)) (v := ?_) rfl rfl (by kernel_rfl) (fun _ _ _ h => h) (by rfl) (by first | exact hS1 | exact hS0) (fun w' hb' => ?_) ?_
          rotate_left
          · (try go_simp); (try with_reducible rfl)
          try simp only [Act.put, List.setIfInBounds_toArray, List.set_cons_zero, List.set_cons_succ]
          refine gs_take (i := 9) (d := (some 44)) (v := ?_) rfl rfl (by kernel_rfl) (fun _ _ _ h => h) (by rfl) (by first | exact hS1 | exact hS0) (fun w' hb' => ?_) ?_
          rotate_left
          · (try go_simp); (try with_reducible rfl)
          try simp only [Act.put, List.setIfInBounds_toArray, List.set_cons_zero, List.set_cons_succ]
          refine gs_take (i := 10) (d := (some 45)) (v := ?_) rfl rfl (by kernel_rfl) (fun _ _ _ h => h) (by rfl) (by first | exact hS1 | exact hS0) (fun w' hb' => ?_) ?_
          rotate_left
          · have hc := (AC.out _ hb').2; obtain ⟨k1, k2, k3, k4, k5⟩ := hc; (try go_simp); (try with_reducible rfl)
          try simp only [Act.put, List.setIfInBounds_toArray, List.set_cons_zero, List.set_cons_succ]
          refine gs_run (i := 11) rfl (by kernel_rfl) (by rfl) (fun K hK => ?_)
          go_simp
          refine sy.mono ?_
          rintro e w3 ⟨rfl, sv3, rg3, t3, _⟩
          have hS1 : w3.heap[b]? = wr.heap[b]? := t3.block b lb (fun e => by have := rg.own_ge b e; omega)
          refine hK _ _ ⟨hS1, ?_⟩
          clear hK K
          try simp only [Act.put, List.setIfInBounds_toArray, List.set_cons_zero, List.set_cons_succ]
          refine gs_take (i := 12) (d := (some 47)) (v := ?_) rfl rfl (by kernel_rfl) (fun _ _ _ h => h) (by rfl) (by first | exact hS1 | exact hS0) (fun w' hb' => ?_) ?_
          rotate_left
          · (try go_simp); (try with_reducible rfl)
          try simp only [Act.put, List.setIfInBounds_toArray, List.set_cons_zero, List.set_cons_succ]
          refine gs_done (by kernel_rfl) ?_
          have bel3 : Below W.heap.size W w3 := below_trn bel.drew t3 (fun k hk => by have := rg.own_ge k hk; omega)
          have hbs3 : base ≤ w3.heap.size := Nat.le_trans hbs t3.size
          rw [← HREC.out] at rg3
          have RG3 := Lib.hid rg3
          clear rg3 t3 rg sy
          go_wp2_with fail
          have q6 := (bel3.block _ (lt_of_block q5)).trans q5
          have AD := Lib.hid (fun (w' : World) (hb' : Below w3.drew.heap.size w3.drew w') => AC.out w' ((hb'.block b (Nat.lt_of_lt_of_le hb (Nat.le_trans Be.size bel3.size))).trans hS1))
          have SC := Lib.hid (fun (w' : World) (hb' : Below w3.drew.heap.size w3.drew w') => cells5 ((hb'.block _ (lt_of_block q6)).trans q6))
          have RGD := RG3.out.below (Below.refl w3.heap.size w3).drew
          have RGD := Lib.hid RGD
          cases sb with
          | true =>
            refine g_start (by kernel_rfl) ?_
            refine g_take (i := 0) (d := (some 48)) (v := ?_) rfl rfl (by kernel_rfl) (fun _ _ _ h => h) (by rfl) (fun w' hb' => ?_) ?_
            rotate_left
            · (try go_simp); (try with_reducible rfl)
            try simp only [Act.put, List.setIfInBounds_toArray, List.set_cons_zero, List.set_cons_succ]
            refine g_take (i := 1) (d := (some 49)) (v := ?_) rfl rfl (by kernel_rfl) (fun _ _ _ h => h) (by rfl) (fun w' hb' => ?_) ?_
            rotate_left
            · (try go_simp); (try with_reducible rfl)
            try simp only [Act.put, List.setIfInBounds_toArray, List.set_cons_zero, List.set_cons_succ]
            refine g_skip (i := 2) (d := (some 50)) rfl rfl (by kernel_rfl) (fun _ _ _ h => h) (by rfl) ?_
            try simp only [Act.put, List.setIfInBounds_toArray, List.set_cons_zero, List.set_cons_succ]
            refine g_skip (i := 3) (d := (some 51)) rfl rfl (by kernel_rfl) (fun _ _ _ h => h) (by rfl) ?_
            try simp only [Act.put, List.setIfInBounds_toArray, List.set_cons_zero, List.set_cons_succ]
            refine g_skip (i := 4) (d := (some 52)) rfl rfl (by kernel_rfl) (fun _ _ _ h => h) (by rfl) ?_
            try simp only [Act.put, List.setIfInBounds_toArray, List.set_cons_zero, List.set_cons_succ]
            refine g_skip (i := 5) (d := (some 53)) rfl rfl (by kernel_rfl) (fun _ _ _ h => h) (by rfl) ?_
            try simp only [Act.put, List.setIfInBounds_toArray, List.set_cons_zero, List.set_cons_succ]
            refine g_skip (i := 6) (d := (some 54)) rfl rfl (by kernel_rfl) (fun _ _ _ h => h) (by rfl) ?_
            try simp only [Act.put, List.setIfInBounds_toArray, List.set_cons_zero, List.set_cons_succ]
            refine g_skip (i := 7) (d := (some 55)) rfl rfl (by kernel_rfl) (fun _ _ _ h => h) (by rfl) ?_
            try simp only [Act.put, List.setIfInBounds_toArray, List.set_cons_zero, List.set_cons_succ]
            refine g_skip (i := 8) (d := (some 56)) rfl rfl (by kernel_rfl) (fun _ _ _ h => h) (by rfl) ?_
            try simp only [Act.put, List.setIfInBounds_toArray, List.set_cons_zero, List.set_cons_succ]
            refine g_skip (i := 9) (d := (some 57)) rfl rfl (by kernel_rfl) (fun _ _ _ h => h) (by rfl) ?_
            try simp only [Act.put, List.setIfInBounds_toArray, List.set_cons_zero, List.set_cons_succ]
            refine g_skip (i := 10) (d := (some 58)) rfl rfl (by kernel_rfl) (fun _ _ _ h => h) (by rfl) ?_
            try simp only [Act.put, List.setIfInBounds_toArray, List.set_cons_zero, List.set_cons_succ]
            refine g_skip (i := 11) (d := (some 59)) rfl rfl (by kernel_rfl) (fun _ _ _ h => h) (by rfl) ?_
            try simp only [Act.put, List.setIfInBounds_toArray, List.set_cons_zero, List.set_cons_succ]
            refine g_skip (i := 12) (d := (some 60)) rfl rfl (by kernel_rfl) (fun _ _ _ h => h) (by rfl) ?_
            try simp only [Act.put, List.setIfInBounds_toArray, List.set_cons_zero, List.set_cons_succ]
            refine g_skip (i := 13) (d := (some 61)) rfl rfl (by kernel_rfl) (fun _ _ _ h => h) (by rfl) ?_
            try simp only [Act.put, List.setIfInBounds_toArray, List.set_cons_zero, List.set_cons_succ]
            refine g_skip (i := 14) (d := (some 62)) rfl rfl (by kernel_rfl) (fun _ _ _ h => h) (by rfl) ?_
            try simp only [Act.put, List.setIfInBounds_toArray, List.set_cons_zero, List.set_cons_succ]
            refine g_skip (i := 15) (d := (some 63)) rfl rfl (by kernel_rfl) (fun _ _ _ h => h) (by rfl) ?_
            try simp only [Act.put, List.setIfInBounds_toArray, List.set_cons_zero, List.set_cons_succ]
            refine g_skip (i := 16) (d := (some 64)) rfl rfl (by kernel_rfl) (fun _ _ _ h => h) (by rfl) ?_
            try simp only [Act.put, List.setIfInBounds_toArray, List.set_cons_zero, List.set_cons_succ]
            refine g_skip (i := 17) (d := (some 65)) rfl rfl (by kernel_rfl) (fun _ _ _ h => h) (by rfl) ?_
            try simp only [Act.put, List.setIfInBounds_toArray, List.set_cons_zero, List.set_cons_succ]
            refine g_skip (i := 18) (d := (some 66)) rfl rfl (by kernel_rfl) (fun _ _ _ h => h) (by rfl) ?_
            try simp only [Act.put, List.setIfInBounds_toArray, List.set_cons_zero, List.set_cons_succ]
            refine g_take (i := 19) (d := (some 67)) (v := ?_) rfl rfl (by kernel_rfl) (fun _ _ _ h => h) (by rfl) (fun w' hb' => ?_) ?_
            rotate_left
            · (try go_simp); (try with_reducible rfl)
            try simp only [Act.put, List.setIfInBounds_toArray, List.set_cons_zero, List.set_cons_succ]
            refine g_take (i := 20) (d := (some 10)) (v := ?_) rfl rfl (by kernel_rfl) (fun _ _ _ h => h) (by rfl) (fun w' hb' => ?_) ?_
            rotate_left
            · (try go_simp); (try with_reducible rfl)
            try simp only [Act.put, List.setIfInBounds_toArray, List.set_cons_zero, List.set_cons_succ]
            refine g_done (by kernel_rfl) ?_
            go_wp2_with fail
            go_roundw
            case rel => exact ⟨j + 1, by omega, by rw [HSD.out]; simp, by go_num, bel3.drew, hbs3, _, RGD.out⟩
            case measure => simp [intOf]; omega
          | false =>
            by_cases hp : sp = s.a
            · have hp1 := int_eqb hp
              have HP := Lib.hid hp
              clear hp
              cases hD : decide (t = s) with
              | true =>
                rw [hD] at hE2
                have HD := Lib.hid hD
                clear hD
                refine g_start (by kernel_rfl) ?_
                refine g_take (i := 0) (d := (some 48)) (v := ?_) rfl rfl (by kernel_rfl) (fun _ _ _ h => h) (by rfl) (fun w' hb' => ?_) ?_
                rotate_left
                · (try go_simp); (try with_reducible rfl)
                try simp only [Act.put, List.setIfInBounds_toArray, List.set_cons_zero, List.set_cons_succ]
                refine g_take (i := 1) (d := (some 49)) (v := ?_) rfl rfl (by kernel_rfl) (fun _ _ _ h => h) (by rfl) (fun w' hb' => ?_) ?_
                rotate_left
                · (try go_simp); (try with_reducible rfl)
                try simp only [Act.put, List.setIfInBounds_toArray, List.set_cons_zero, List.set_cons_succ]
                refine g_take (i := 2) (d := (some 50)) (v := ?_) rfl rfl (by kernel_rfl) (fun _ _ _ h => h) (by rfl) (fun w' hb' => ?_) ?_
                rotate_left
                · (try go_simp); (try with_reducible rfl)
                try simp only [Act.put, List.setIfInBounds_toArray, List.set_cons_zero, List.set_cons_succ]
                refine g_take (i := 3) (d := (some 51)) (v := ?_) rfl rfl (by kernel_rfl) (fun _ _ _ h => h) (by rfl) (fun w' hb' => ?_) ?_
                rotate_left
                · (try go_simp); (try with_reducible rfl)
                try simp only [Act.put, List.setIfInBounds_toArray, List.set_cons_zero, List.set_cons_succ]
                refine g_take (i := 4) (d := (some 52)) (v := ?_) rfl rfl (by kernel_rfl) (fun _ _ _ h => h) (by rfl) (fun w' hb' => ?_) ?_
                rotate_left
                · (try go_simp); (try with_reducible rfl)
                try simp only [Act.put, List.setIfInBounds_toArray, List.set_cons_zero, List.set_cons_succ]
                refine g_take (i := 5) (d := (some 53)) (v := ?_) rfl rfl (by kernel_rfl) (fun _ _ _ h => h) (by rfl) (fun w' hb' => ?_) ?_
                rotate_left
                · (try go_simp); (try with_reducible rfl)
                try simp only [Act.put, List.setIfInBounds_toArray, List.set_cons_zero, List.set_cons_succ]
                refine g_take (i := 6) (d := (some 54)) (v := ?_) rfl rfl (by kernel_rfl) (fun _ _ _ h => h) (by rfl) (fun w' hb' => ?_) ?_
                rotate_left
                · have hc := (AD.out _ hb').1; (try go_simp); (try with_reducible rfl)
                try simp only [Act.put, List.setIfInBounds_toArray, List.set_cons_zero, List.set_cons_succ]
                refine g_take (i := 7) (d := (some 55)) (v := ?_) rfl rfl (by kernel_rfl) (fun _ _ _ h => h) (by rfl) (fun w' hb' => ?_) ?_
                rotate_left
                · (try go_simp); (try with_reducible rfl)
                try simp only [Act.put, List.setIfInBounds_toArray, List.set_cons_zero, List.set_cons_succ]
                refine g_take (i := 8) (d := (some 56)) (v := ?_) rfl rfl (by kernel_rfl) (fun _ _ _ h => h) (by rfl) (fun w' hb' => ?_) ?_
                rotate_left
                · have hc := SC.out _ hb'; (try go_simp); (try with_reducible rfl)
                try simp only [Act.put, List.setIfInBounds_toArray, List.set_cons_zero, List.set_cons_succ]
                refine g_take (i := 9) (d := (some 57)) (v := ?_) rfl rfl (by kernel_rfl) (fun _ _ _ h => h) (by rfl) (fun w' hb' => ?_) ?_
                rotate_left
                · (try go_simp); (try with_reducible rfl)
                try simp only [Act.put, List.setIfInBounds_toArray, List.set_cons_zero, List.set_cons_succ]
                refine g_take (i := 10) (d := (some 58)) (v := ?_) rfl rfl (by kernel_rfl) (fun _ _ _ h => h) (by rfl) (fun w' hb' => ?_) ?_
                rotate_left
                · (try go_simp); (try with_reducible rfl)
                try simp only [Act.put, List.setIfInBounds_toArray, List.set_cons_zero, List.set_cons_succ]
                refine g_take (i := 11) (d := (some 59)) (v := ?_) rfl rfl (by kernel_rfl) (fun _ _ _ h => h) (by rfl) (fun w' hb' => ?_) ?_
                rotate_left
                · (try go_simp); (try with_reducible rfl)
                try simp only [Act.put, List.setIfInBounds_toArray, List.set_cons_zero, List.set_cons_succ]
                refine g_take (i := 12) (d := (some 60)) (v := ?_) rfl rfl (by kernel_rfl) (fun _ _ _ h => h) (by rfl) (fun w' hb' => ?_) ?_
                rotate_left
                · (try go_simp); (try with_reducible rfl)
                try simp only [Act.put, List.setIfInBounds_toArray, List.set_cons_zero, List.set_cons_succ]
                refine g_take (i := 13) (d := (some 61)) (v := ?_) rfl rfl (by kernel_rfl) (fun _ _ _ h => h) (by rfl) (fun w' hb' => ?_) ?_
                rotate_left
                · (try go_simp); (try with_reducible rfl)
                try simp only [Act.put, List.setIfInBounds_toArray, List.set_cons_zero, List.set_cons_succ]
                refine g_take (i := 14) (d := (some 62)) (v := ?_) rfl rfl (by kernel_rfl) (fun _ _ _ h => h) (by rfl) (fun w' hb' => ?_) ?_
                rotate_left
                · (try go_simp); (try with_reducible rfl)
                try simp only [Act.put, List.setIfInBounds_toArray, List.set_cons_zero, List.set_cons_succ]
                refine g_take (i := 15) (d := (some 63)) (v := ?_) rfl rfl (by kernel_rfl) (fun _ _ _ h => h) (by rfl) (fun w' hb' => ?_) ?_
                rotate_left
                · have hc := (AD.out _ hb').2; obtain ⟨k1, k2, k3, k4, k5⟩ := hc; (try go_simp); (try with_reducible rfl)
                try simp only [Act.put, List.setIfInBounds_toArray, List.set_cons_zero, List.set_cons_succ]
                refine g_take (i := 16) (d := (some 64)) (v := ?_) rfl rfl (by kernel_rfl) (fun _ _ _ h => h) (by rfl) (fun w' hb' => ?_) ?_
                rotate_left
                · have hc := SC.out _ hb'; (try go_simp); (try with_reducible rfl)
                try simp only [Act.put, List.setIfInBounds_toArray, List.set_cons_zero, List.set_cons_succ]
                refine g_take (i := 17) (d := (some 65)) (v := ?_) rfl rfl (by kernel_rfl) (fun _ _ _ h => h) (by rfl) (fun w' hb' => ?_) ?_
                rotate_left
                · (try go_simp); (try with_reducible rfl)
                try simp only [Act.put, List.setIfInBounds_toArray, List.set_cons_zero, List.set_cons_succ]
                refine g_take (i := 18) (d := (some 66)) (v := ?_) rfl rfl (by kernel_rfl) (fun _ _ _ h => h) (by rfl) (fun w' hb' => ?_) ?_
                rotate_left
                · (try go_simp); (try with_reducible rfl)
                try simp only [Act.put, List.setIfInBounds_toArray, List.set_cons_zero, List.set_cons_succ]
                refine g_take (i := 19) (d := (some 67)) (v := ?_) rfl rfl (by kernel_rfl) (fun _ _ _ h => h) (by rfl) (fun w' hb' => ?_) ?_
                rotate_left
                · (try go_simp); (try with_reducible rfl)
                try simp only [Act.put, List.setIfInBounds_toArray, List.set_cons_zero, List.set_cons_succ]
                refine g_take (i := 20) (d := (some 10)) (v := ?_) rfl rfl (by kernel_rfl) (fun _ _ _ h => h) (by rfl) (fun w' hb' => ?_) ?_
                rotate_left
                · (try go_simp); (try with_reducible rfl)
                try simp only [Act.put, List.setIfInBounds_toArray, List.set_cons_zero, List.set_cons_succ]
                refine g_done (by kernel_rfl) ?_
                go_wp2_with fail
                go_roundw
                case rel => exact ⟨j + 1, by omega, by rw [HSD.out]; rw [HD.out, HP.out]; simp, by go_num, bel3.drew, hbs3, _, RGD.out⟩
                case measure => simp [intOf]; omega
              | false =>
                rw [hD] at hE2
                have HD := Lib.hid hD
                clear hD
                refine g_start (by kernel_rfl) ?_
                refine g_take (i := 0) (d := (some 48)) (v := ?_) rfl rfl (by kernel_rfl) (fun _ _ _ h => h) (by rfl) (fun w' hb' => ?_) ?_
                rotate_left
                · (try go_simp); (try with_reducible rfl)
                try simp only [Act.put, List.setIfInBounds_toArray, List.set_cons_zero, List.set_cons_succ]
                refine g_take (i := 1) (d := (some 49)) (v := ?_) rfl rfl (by kernel_rfl) (fun _ _ _ h => h) (by rfl) (fun w' hb' => ?_) ?_
                rotate_left
                · (try go_simp); (try with_reducible rfl)
                try simp only [Act.put, List.setIfInBounds_toArray, List.set_cons_zero, List.set_cons_succ]
                refine g_take (i := 2) (d := (some 50)) (v := ?_) rfl rfl (by kernel_rfl) (fun _ _ _ h => h) (by rfl) (fun w' hb' => ?_) ?_
                rotate_left
                · (try go_simp); (try with_reducible rfl)
                try simp only [Act.put, List.setIfInBounds_toArray, List.set_cons_zero, List.set_cons_succ]
                refine g_take (i := 3) (d := (some 51)) (v := ?_) rfl rfl (by kernel_rfl) (fun _ _ _ h => h) (by rfl) (fun w' hb' => ?_) ?_
                rotate_left
                · (try go_simp); (try with_reducible rfl)
                try simp only [Act.put, List.setIfInBounds_toArray, List.set_cons_zero, List.set_cons_succ]
                refine g_take (i := 4) (d := (some 52)) (v := ?_) rfl rfl (by kernel_rfl) (fun _ _ _ h => h) (by rfl) (fun w' hb' => ?_) ?_
                rotate_left
                · (try go_simp); (try with_reducible rfl)
                try simp only [Act.put, List.setIfInBounds_toArray, List.set_cons_zero, List.set_cons_succ]
                refine g_take (i := 5) (d := (some 53)) (v := ?_) rfl rfl (by kernel_rfl) (fun _ _ _ h => h) (by rfl) (fun w' hb' => ?_) ?_
                rotate_left
                · (try go_simp); (try with_reducible rfl)
                try simp only [Act.put, List.setIfInBounds_toArray, List.set_cons_zero, List.set_cons_succ]
                refine g_take (i := 6) (d := (some 54)) (v := ?_) rfl rfl (by kernel_rfl) (fun _ _ _ h => h) (by rfl) (fun w' hb' => ?_) ?_
                rotate_left
                · have hc := (AD.out _ hb').1; (try go_simp); (try with_reducible rfl)
                try simp only [Act.put, List.setIfInBounds_toArray, List.set_cons_zero, List.set_cons_succ]
                refine g_take (i := 7) (d := (some 55)) (v := ?_) rfl rfl (by kernel_rfl) (fun _ _ _ h => h) (by rfl) (fun w' hb' => ?_) ?_
                rotate_left
                · (try go_simp); (try with_reducible rfl)
                try simp only [Act.put, List.setIfInBounds_toArray, List.set_cons_zero, List.set_cons_succ]
                refine g_take (i := 8) (d := (some 56)) (v := ?_) rfl rfl (by kernel_rfl) (fun _ _ _ h => h) (by rfl) (fun w' hb' => ?_) ?_
                rotate_left
                · have hc := SC.out _ hb'; (try go_simp); (try with_reducible rfl)
                try simp only [Act.put, List.setIfInBounds_toArray, List.set_cons_zero, List.set_cons_succ]
                refine g_take (i := 9) (d := (some 57)) (v := ?_) rfl rfl (by kernel_rfl) (fun _ _ _ h => h) (by rfl) (fun w' hb' => ?_) ?_
                rotate_left
                · (try go_simp); (try with_reducible rfl)
                try simp only [Act.put, List.setIfInBounds_toArray, List.set_cons_zero, List.set_cons_succ]
                refine g_take (i := 10) (d := (some 58)) (v := ?_) rfl rfl (by kernel_rfl) (fun _ _ _ h => h) (by rfl) (fun w' hb' => ?_) ?_
                rotate_left
                · (try go_simp); (try with_reducible rfl)
                try simp only [Act.put, List.setIfInBounds_toArray, List.set_cons_zero, List.set_cons_succ]
                refine g_take (i := 11) (d := (some 59)) (v := ?_) rfl rfl (by kernel_rfl) (fun _ _ _ h => h) (by rfl) (fun w' hb' => ?_) ?_
                rotate_left
                · (try go_simp); (try with_reducible rfl)
                try simp only [Act.put, List.setIfInBounds_toArray, List.set_cons_zero, List.set_cons_succ]
                refine g_take (i := 12) (d := (some 60)) (v := ?_) rfl rfl (by kernel_rfl) (fun _ _ _ h => h) (by rfl) (fun w' hb' => ?_) ?_
                rotate_left
                · (try go_simp); (try with_reducible rfl)
                try simp only [Act.put, List.setIfInBounds_toArray, List.set_cons_zero, List.set_cons_succ]
                refine g_take (i := 13) (d := (some 61)) (v := ?_) rfl rfl (by kernel_rfl) (fun _ _ _ h => h) (by rfl) (fun w' hb' => ?_) ?_
                rotate_left
                · (try go_simp); (try with_reducible rfl)
                try simp only [Act.put, List.setIfInBounds_toArray, List.set_cons_zero, List.set_cons_succ]
                refine g_take (i := 14) (d := (some 62)) (v := ?_) rfl rfl (by kernel_rfl) (fun _ _ _ h => h) (by rfl) (fun w' hb' => ?_) ?_
                rotate_left
                · (try go_simp); (try with_reducible rfl)
                try simp only [Act.put, List.setIfInBounds_toArray, List.set_cons_zero, List.set_cons_succ]
                refine g_take (i := 15) (d := (some 63)) (v := ?_) rfl rfl (by kernel_rfl) (fun _ _ _ h => h) (by rfl) (fun w' hb' => ?_) ?_
                rotate_left
                · have hc := (AD.out _ hb').2; obtain ⟨k1, k2, k3, k4, k5⟩ := hc; (try go_simp); (try with_reducible rfl)
                try simp only [Act.put, List.setIfInBounds_toArray, List.set_cons_zero, List.set_cons_succ]
                refine g_take (i := 16) (d := (some 64)) (v := ?_) rfl rfl (by kernel_rfl) (fun _ _ _ h => h) (by rfl) (fun w' hb' => ?_) ?_
                rotate_left
                · have hc := SC.out _ hb'; (try go_simp); (try with_reducible rfl)
                try simp only [Act.put, List.setIfInBounds_toArray, List.set_cons_zero, List.set_cons_succ]
                refine g_take (i := 17) (d := (some 65)) (v := ?_) rfl rfl (by kernel_rfl) (fun _ _ _ h => h) (by rfl) (fun w' hb' => ?_) ?_
                rotate_left
                · (try go_simp); (try with_reducible rfl)
                try simp only [Act.put, List.setIfInBounds_toArray, List.set_cons_zero, List.set_cons_succ]
                refine g_take (i := 18) (d := (some 66)) (v := ?_) rfl rfl (by kernel_rfl) (fun _ _ _ h => h) (by rfl) (fun w' hb' => ?_) ?_
                rotate_left
                · (try go_simp); (try with_reducible rfl)
                try simp only [Act.put, List.setIfInBounds_toArray, List.set_cons_zero, List.set_cons_succ]
                refine g_take (i := 19) (d := (some 67)) (v := ?_) rfl rfl (by kernel_rfl) (fun _ _ _ h => h) (by rfl) (fun w' hb' => ?_) ?_
                rotate_left
                · (try go_simp); (try with_reducible rfl)
                try simp only [Act.put, List.setIfInBounds_toArray, List.set_cons_zero, List.set_cons_succ]
                refine g_take (i := 20) (d := (some 10)) (v := ?_) rfl rfl (by kernel_rfl) (fun _ _ _ h => h) (by rfl) (fun w' hb' => ?_) ?_
                rotate_left
                · (try go_simp); (try with_reducible rfl)
                try simp only [Act.put, List.setIfInBounds_toArray, List.set_cons_zero, List.set_cons_succ]
                refine g_done (by kernel_rfl) ?_
                go_wp2_with fail
                go_roundw
                case rel => exact ⟨j + 1, by omega, by rw [HSD.out]; rw [HD.out]; simp, by go_num, bel3.drew, hbs3, _, RGD.out⟩
                case measure => simp [intOf]; omega
            · have hp1 := int_neb hp
              have HP := Lib.hid hp
              clear hp
              refine g_start (by kernel_rfl) ?_
              refine g_take (i := 0) (d := (some 48)) (v := ?_) rfl rfl (by kernel_rfl) (fun _ _ _ h => h) (by rfl) (fun w' hb' => ?_) ?_
              rotate_left
              · (try go_simp); (try with_reducible rfl)
              try simp only [Act.put, List.setIfInBounds_toArray, List.set_cons_zero, List.set_cons_succ]
              refine g_take (i := 1) (d := (some 49)) (v := ?_) rfl rfl (by kernel_rfl) (fun _ _ _ h => h) (by rfl) (fun w' hb' => ?_) ?_
              rotate_left
              · (try go_simp); (try with_reducible rfl)
              try simp only [Act.put, List.setIfInBounds_toArray, List.set_cons_zero, List.set_cons_succ]
              refine g_take (i := 2) (d := (some 50)) (v := ?_) rfl rfl (by kernel_rfl) (fun _ _ _ h => h) (by rfl) (fun w' hb' => ?_) ?_
              rotate_left
              · (try go_simp); (try with_reducible rfl)
              try simp only [Act.put, List.setIfInBounds_toArray, List.set_cons_zero, List.set_cons_succ]
              refine g_take (i := 3) (d := (some 51)) (v := ?_) rfl rfl (by kernel_rfl) (fun _ _ _ h => h) (by rfl) (fun w' hb' => ?_) ?_
              rotate_left
              · (try go_simp); (try with_reducible rfl)
              try simp only [Act.put, List.setIfInBounds_toArray, List.set_cons_zero, List.set_cons_succ]
              refine g_take (i := 4) (d := (some 52)) (v := ?_) rfl rfl (by kernel_rfl) (fun _ _ _ h => h) (by rfl) (fun w' hb' => ?_) ?_
              rotate_left
              · (try go_simp); (try with_reducible rfl)
              try simp only [Act.put, List.setIfInBounds_toArray, List.set_cons_zero, List.set_cons_succ]
              refine g_take (i := 5) (d := (some 53)) (v := ?_) rfl rfl (by kernel_rfl) (fun _ _ _ h => h) (by rfl) (fun w' hb' => ?_) ?_
              rotate_left
              · (try go_simp); (try with_reducible rfl)
              try simp only [Act.put, List.setIfInBounds_toArray, List.set_cons_zero, List.set_cons_succ]
              refine g_take (i := 6) (d := (some 54)) (v := ?_) rfl rfl (by kernel_rfl) (fun _ _ _ h => h) (by rfl) (fun w' hb' => ?_) ?_
              rotate_left
              · have hc := (AD.out _ hb').1; (try go_simp); (try with_reducible rfl)
              try simp only [Act.put, List.setIfInBounds_toArray, List.set_cons_zero, List.set_cons_succ]
              refine g_take (i := 7) (d := (some 55)) (v := ?_) rfl rfl (by kernel_rfl) (fun _ _ _ h => h) (by rfl) (fun w' hb' => ?_) ?_
              rotate_left
              · (try go_simp); (try with_reducible rfl)
              try simp only [Act.put, List.setIfInBounds_toArray, List.set_cons_zero, List.set_cons_succ]
              refine g_take (i := 8) (d := (some 56)) (v := ?_) rfl rfl (by kernel_rfl) (fun _ _ _ h => h) (by rfl) (fun w' hb' => ?_) ?_
              rotate_left
              · have hc := SC.out _ hb'; (try go_simp); (try with_reducible rfl)
              try simp only [Act.put, List.setIfInBounds_toArray, List.set_cons_zero, List.set_cons_succ]
              refine g_take (i := 9) (d := (some 57)) (v := ?_) rfl rfl (by kernel_rfl) (fun _ _ _ h => h) (by rfl) (fun w' hb' => ?_) ?_
              rotate_left
              · (try go_simp); (try with_reducible rfl)
              try simp only [Act.put, List.setIfInBounds_toArray, List.set_cons_zero, List.set_cons_succ]
              refine g_take (i := 10) (d := (some 58)) (v := ?_) rfl rfl (by kernel_rfl) (fun _ _ _ h => h) (by rfl) (fun w' hb' => ?_) ?_
              rotate_left
              · (try go_simp); (try with_reducible rfl)
              try simp only [Act.put, List.setIfInBounds_toArray, List.set_cons_zero, List.set_cons_succ]
              refine g_skip (i := 11) (d := (some 59)) rfl rfl (by kernel_rfl) (fun _ _ _ h => h) (by rfl) ?_
              try simp only [Act.put, List.setIfInBounds_toArray, List.set_cons_zero, List.set_cons_succ]
              refine g_skip (i := 12) (d := (some 60)) rfl rfl (by kernel_rfl) (fun _ _ _ h => h) (by rfl) ?_
              try simp only [Act.put, List.setIfInBounds_toArray, List.set_cons_zero, List.set_cons_succ]
              refine g_skip (i := 13) (d := (some 61)) rfl rfl (by kernel_rfl) (fun _ _ _ h => h) (by rfl) ?_
              try simp only [Act.put, List.setIfInBounds_toArray, List.set_cons_zero, List.set_cons_succ]
              refine g_skip (i := 14) (d := (some 62)) rfl rfl (by kernel_rfl) (fun _ _ _ h => h) (by rfl) ?_
              try simp only [Act.put, List.setIfInBounds_toArray, List.set_cons_zero, List.set_cons_succ]
              refine g_skip (i := 15) (d := (some 63)) rfl rfl (by kernel_rfl) (fun _ _ _ h => h) (by rfl) ?_
              try simp only [Act.put, List.setIfInBounds_toArray, List.set_cons_zero, List.set_cons_succ]
              refine g_skip (i := 16) (d := (some 64)) rfl rfl (by kernel_rfl) (fun _ _ _ h => h) (by rfl) ?_
              try simp only [Act.put, List.setIfInBounds_toArray, List.set_cons_zero, List.set_cons_succ]
              refine g_skip (i := 17) (d := (some 65)) rfl rfl (by kernel_rfl) (fun _ _ _ h => h) (by rfl) ?_
              try simp only [Act.put, List.setIfInBounds_toArray, List.set_cons_zero, List.set_cons_succ]
              refine g_take (i := 18) (d := (some 66)) (v := ?_) rfl rfl (by kernel_rfl) (fun _ _ _ h => h) (by rfl) (fun w' hb' => ?_) ?_
              rotate_left
              · (try go_simp); (try with_reducible rfl)
              try simp only [Act.put, List.setIfInBounds_toArray, List.set_cons_zero, List.set_cons_succ]
              refine g_take (i := 19) (d := (some 67)) (v := ?_) rfl rfl (by kernel_rfl) (fun _ _ _ h => h) (by rfl) (fun w' hb' => ?_) ?_
              rotate_left
              · (try go_simp); (try with_reducible rfl)
              try simp only [Act.put, List.setIfInBounds_toArray, List.set_cons_zero, List.set_cons_succ]
              refine g_take (i := 20) (d := (some 10)) (v := ?_) rfl rfl (by kernel_rfl) (fun _ _ _ h => h) (by rfl) (fun w' hb' => ?_) ?_
              rotate_left
              · (try go_simp); (try with_reducible rfl)
              try simp only [Act.put, List.setIfInBounds_toArray, List.set_cons_zero, List.set_cons_succ]
              refine g_done (by kernel_rfl) ?_
              go_wp2_with fail
              go_roundw
              case rel => exact ⟨j + 1, by omega, by rw [HSD.out]; rw [decide_eq_false HP.out]; simp, by go_num, bel3.drew, hbs3, _, RGD.out⟩
              case measure => simp [intOf]; omega
        · skip
          rw [h0] at sy hsd
          have HSD := Lib.hid hsd
          clear h0 hsd
          go_wp2_with fail
          refine gs_start (S := fun w' => w'.heap[b]? = wr.heap[b]?) (by kernel_rfl) ?_
          refine gs_take (i := 0) (d := (some 35)) (v := ?_) rfl rfl (by kernel_rfl) (fun _ _ _ h => h) (by rfl) (by first | exact hS1 | exact hS0) (fun w' hb' => ?_) ?_
          rotate_left
          · (try go_simp); (try with_reducible rfl)
          try simp only [Act.put, List.setIfInBounds_toArray, List.set_cons_zero, List.set_cons_succ]
          refine gs_take (i := 1) (d := (some 36)) (v := ?_) rfl rfl (by kernel_rfl) (fun _ _ _ h => h) (by rfl) (by first | exact hS1 | exact hS0) (fun w' hb' => ?_) ?_
          rotate_left
          · (try go_simp); (try with_reducible rfl)
          try simp only [Act.put, List.setIfInBounds_toArray, List.set_cons_zero, List.set_cons_succ]
          refine gs_take (i := 2) (d := (some 37)) (v := ?_) rfl rfl (by kernel_rfl) (fun _ _ _ h => h) (by rfl) (by first | exact hS1 | exact hS0) (fun w' hb' => ?_) ?_
          rotate_left
          · (try go_simp); (try with_reducible rfl)
          try simp only [Act.put, List.setIfInBounds_toArray, List.set_cons_zero, List.set_cons_succ]
          refine gs_take (i := 3) (d := (some 38)) (v := ?_) rfl rfl (by kernel_rfl) (fun _ _ _ h => h) (by rfl) (by first | exact hS1 | exact hS0) (fun w' hb' => ?_) ?_
          rotate_left
          · (try go_simp); (try with_reducible rfl)
          try simp only [Act.put, List.setIfInBounds_toArray, List.set_cons_zero, List.set_cons_succ]
          refine gs_take (i := 4) (d := (some 39)) (v := ?_) rfl rfl (by kernel_rfl) (fun _ _ _ h => h) (by rfl) (by first | exact hS1 | exact hS0) (fun w' hb' => ?_) ?_
          rotate_left
          · (try go_simp); (try with_reducible rfl)
          try simp only [Act.put, List.setIfInBounds_toArray, List.set_cons_zero, List.set_cons_succ]
          refine gs_take (i := 5) (d := (some 40)) (v := ?_) rfl rfl (by kernel_rfl) (fun _ _ _ h => h) (by rfl) (by first | exact hS1 | exact hS0) (fun w' hb' => ?_) ?_
          rotate_left
          · have hc := (AC.out _ hb').1; (try go_simp); (try with_reducible rfl)
          try simp only [Act.put, List.setIfInBounds_toArray, List.set_cons_zero, List.set_cons_succ]
          refine gs_take (i := 6) (d := (some 41)) (v := ?_) rfl rfl (by kernel_rfl) (fun _ _ _ h => h) (by rfl) (by first | exact hS1 | exact hS0) (fun w' hb' => ?_) ?_
          rotate_left
          · (try go_simp); (try with_reducible rfl)
          try simp only [Act.put, List.setIfInBounds_toArray, List.set_cons_zero, List.set_cons_succ]
          refine gs_take (i := 7) (d := (some 42)) (v := ?_) rfl rfl (by kernel_rfl) (fun _ _ _ h => h) (by rfl) (by first | exact hS1 | exact hS0) (fun w' hb' => ?_) ?_
          rotate_left
          · (try go_simp); (try with_reducible rfl)
          try simp only [Act.put, List.setIfInBounds_toArray, List.set_cons_zero, List.set_cons_succ]
          refine gs_take (i := 8) (d := (some 43)) (v := ?_) rfl rfl (by kernel_rfl) (fun _ _ _ h => h) (by rfl) (by first | exact hS1 | exact hS0) (fun w' hb' => ?_) ?_
          rotate_left
          · (try go_simp); (try with_reducible rfl)
          try simp only [Act.put, List.setIfInBounds_toArray, List.set_cons_zero, List.set_cons_succ]
          refine gs_take (i := 9) (d := (some 44)) (v := ?_) rfl rfl (by kernel_rfl) (fun _ _ _ h => h) (by rfl) (by first | exact hS1 | exact hS0) (fun w' hb' => ?_) ?_
          rotate_left
          · (try go_simp); (try with_reducible rfl)
          try simp only [Act.put, List.setIfInBounds_toArray, List.set_cons_zero, List.set_cons_succ]
          refine gs_take (i := 10) (d := (some 45)) (v := ?_) rfl rfl (by kernel_rfl) (fun _ _ _ h => h) (by rfl) (by first | exact hS1 | exact hS0) (fun w' hb' => ?_) ?_
          rotate_left
          · have hc := (AC.out _ hb').2; obtain ⟨k1, k2, k3, k4, k5⟩ := hc; (try go_simp); (try with_reducible rfl)
          try simp only [Act.put, List.setIfInBounds_toArray, List.set_cons_zero, List.set_cons_succ]
          refine gs_run (i := 11) rfl (by kernel_rfl) (by rfl) (fun K hK => ?_)
          go_simp
          refine sy.mono ?_
          rintro e w3 ⟨rfl, sv3, rg3, t3, _⟩
          have hS1 : w3.heap[b]? = wr.heap[b]? := t3.block b lb (fun e => by have := rg.own_ge b e; omega)
          refine hK _ _ ⟨hS1, ?_⟩
          clear hK K
          try simp only [Act.put, List.setIfInBounds_toArray, List.set_cons_zero, List.set_cons_succ]
          refine gs_take (i := 12) (d := (some 47)) (v := ?_) rfl rfl (by kernel_rfl) (fun _ _ _ h => h) (by rfl) (by first | exact hS1 | exact hS0) (fun w' hb' => ?_) ?_
          rotate_left
          · (try go_simp); (try with_reducible rfl)
          try simp only [Act.put, List.setIfInBounds_toArray, List.set_cons_zero, List.set_cons_succ]
          refine gs_done (by kernel_rfl) ?_
          have bel3 : Below W.heap.size W w3 := below_trn bel.drew t3 (fun k hk => by have := rg.own_ge k hk; omega)
          have hbs3 : base ≤ w3.heap.size := Nat.le_trans hbs t3.size
          rw [← HREC.out] at rg3
          have RG3 := Lib.hid rg3
          clear rg3 t3 rg sy
          go_wp2_with fail
          go_roundw
          case rel => exact ⟨j + 1, by omega, by rw [HSD.out]; simp, by go_num, bel3, hbs3, _, RG3.out⟩
          case measure => simp [intOf]; omega
        · skip
          rw [h0] at sy hsd
          have HSD := Lib.hid hsd
          clear h0 hsd
          go_wp2_with fail
          refine gs_start (S := fun w' => w'.heap[b]? = wr.heap[b]?) (by kernel_rfl) ?_
          refine gs_take (i := 0) (d := (some 35)) (v := ?_) rfl rfl (by kernel_rfl) (fun _ _ _ h => h) (by rfl) (by first | exact hS1 | exact hS0) (fun w' hb' => ?_) ?_
          rotate_left
          · (try go_simp); (try with_reducible rfl)
          try simp only [Act.put, List.setIfInBounds_toArray, List.set_cons_zero, List.set_cons_succ]
          refine gs_take (i := 1) (d := (some 36)) (v := ?_) rfl rfl (by kernel_rfl) (fun _ _ _ h => h) (by rfl) (by first | exact hS1 | exact hS0) (fun w' hb' => ?_) ?_
          rotate_left
          · (try go_simp); (try with_reducible rfl)
          try simp only [Act.put, List.setIfInBounds_toArray, List.set_cons_zero, List.set_cons_succ]
          refine gs_take (i := 2) (d := (some 37)) (v := ?_) rfl rfl (by kernel_rfl) (fun _ _ _ h => h) (by rfl) (by first | exact hS1 | exact hS0) (fun w' hb' => ?_) ?_
          rotate_left
          · (try go_simp); (try with_reducible rfl)
          try simp only [Act.put, List.setIfInBounds_toArray, List.set_cons_zero, List.set_cons_succ]
          refine gs_take (i := 3) (d := (some 38)) (v := ?_) rfl rfl (by kernel_rfl) (fun _ _ _ h => h) (by rfl) (by first | exact hS1 | exact hS0) (fun w' hb' => ?_) ?_
          rotate_left
          · (try go_simp); (try with_reducible rfl)
          try simp only [Act.put, List.setIfInBounds_toArray, List.set_cons_zero, List.set_cons_succ]
          refine gs_take (i := 4) (d := (some 39)) (v := ?_) rfl rfl (by kernel_rfl) (fun _ _ _ h => h) (by rfl) (by first | exact hS1 | exact hS0) (fun w' hb' => ?_) ?_
          rotate_left
          · (try go_simp); (try with_reducible rfl)
          try simp only [Act.put, List.setIfInBounds_toArray, List.set_cons_zero, List.set_cons_succ]
          refine gs_take (i := 5) (d := (some 40)) (v := ?_) rfl rfl (by kernel_rfl) (fun _ _ _ h => h) (by rfl) (by first | exact hS1 | exact hS0) (fun w' hb' => ?_) ?_
          rotate_left
          · have hc := (AC.out _ hb').1; (try go_simp); (try with_reducible rfl)
          try simp only [Act.put, List.setIfInBounds_toArray, List.set_cons_zero, List.set_cons_succ]
          refine gs_take (i := 6) (d := (some 41)) (v := ?_) rfl rfl (by kernel_rfl) (fun _ _ _ h => h) (by rfl) (by first | exact hS1 | exact hS0) (fun w' hb' => ?_) ?_
          rotate_left
          · (try go_simp); (try with_reducible rfl)
          try simp only [Act.put, List.setIfInBounds_toArray, List.set_cons_zero, List.set_cons_succ]
          refine gs_take (i := 7) (d := (some 42)) (v := ?_) rfl rfl (by kernel_rfl) (fun _ _ _ h => h) (by rfl) (by first | exact hS1 | exact hS0) (fun w' hb' => ?_) ?_
          rotate_left
          · (try go_simp); (try with_reducible rfl)
          try simp only [Act.put, List.setIfInBounds_toArray, List.set_cons_zero, List.set_cons_succ]
          refine gs_take (i := 8) (d := (some 43)) (v := ?_) rfl rfl (by kernel_rfl) (fun _ _ _ h => h) (by rfl) (by first | exact hS1 | exact hS0) (fun w' hb' => ?_) ?_
          rotate_left
          · (try go_simp); (try with_reducible rfl)
          try simp only [Act.put, List.setIfInBounds_toArray, List.set_cons_zero, List.set_cons_succ]
          refine gs_take (i := 9) (d := (some 44)) (v := ?_) rfl rfl (by kernel_rfl) (fun _ _ _ h => h) (by rfl) (by first | exact hS1 | exact hS0) (fun w' hb' => ?_) ?_
          rotate_left
          · (try go_simp); (try with_reducible rfl)
          try simp only [Act.put, List.setIfInBounds_toArray, List.set_cons_zero, List.set_cons_succ]
          refine gs_take (i := 10) (d := (some 45)) (v := ?_) rfl rfl (by kernel_rfl) (fun _ _ _ h => h) (by rfl) (by first | exact hS1 | exact hS0) (fun w' hb' => ?_) ?_
          rotate_left
          · have hc := (AC.out _ hb').2; obtain ⟨k1, k2, k3, k4, k5⟩ := hc; (try go_simp); (try with_reducible rfl)
          try simp only [Act.put, List.setIfInBounds_toArray, List.set_cons_zero, List.set_cons_succ]
          refine gs_run (i := 11) rfl (by kernel_rfl) (by rfl) (fun K hK => ?_)
          go_simp
          refine sy.mono ?_
          rintro e w3 ⟨rfl, sv3, rg3, t3, _⟩
          have hS1 : w3.heap[b]? = wr.heap[b]? := t3.block b lb (fun e => by have := rg.own_ge b e; omega)
          refine hK _ _ ⟨hS1, ?_⟩
          clear hK K
          try simp only [Act.put, List.setIfInBounds_toArray, List.set_cons_zero, List.set_cons_succ]
          refine gs_take (i := 12) (d := (some 47)) (v := ?_) rfl rfl (by kernel_rfl) (fun _ _ _ h => h) (by rfl) (by first | exact hS1 | exact hS0) (fun w' hb' => ?_) ?_
          rotate_left
          · (try go_simp); (try with_reducible rfl)
          try simp only [Act.put, List.setIfInBounds_toArray, List.set_cons_zero, List.set_cons_succ]
          refine gs_done (by kernel_rfl) ?_
          have bel3 : Below W.heap.size W w3 := below_trn bel.drew t3 (fun k hk => by have := rg.own_ge k hk; omega)
          have hbs3 : base ≤ w3.heap.size := Nat.le_trans hbs t3.size
          rw [← HREC.out] at rg3
          have RG3 := Lib.hid rg3
          clear rg3 t3 rg sy
          go_wp2_with fail
          go_roundw
          case rel => exact ⟨j + 1, by omega, by rw [HSD.out]; simp, by go_num, bel3, hbs3, _, RG3.out⟩
          case measure => simp [intOf]; omega
      · obtain ⟨f1, f2, f3, f4, f5, f6⟩ := cells5 r5
        have BD := bad_any base B M 7 (badOf X) sv L s.a wr rg
        rw [badB_eq HMAY.out] at BD
        have bel2 := chain Be bel
        by_cases hx : s.a ∈ X
        · rw [decide_eq_true hx] at BD
          clear hL hsb hx rg
          go_wp2_with (first | (go_at_call 15; refine BD.mono ?_; rintro e w2 ⟨rfl, rfl⟩) | (go_at_call 9; refine (AW.out _).mono ?_; rintro e w3 ⟨rfl, g3⟩))
          go_ret
          exact ⟨rfl, chain bel2 g3⟩
        · have hs2 := said_rec 7 X s (D1.take j) hx
          rw [← hL, ← hsb] at hs2
          have Hh := has_any base B M 7 (badOf X) sv L s HS.out wr rg
          rw [hs2] at Hh
          rw [decide_eq_false hx] at BD
          unfold St.v at Hh
          clear hL hsb hx rg hs2
          cases sb with
          | true =>
            go_wp2_with (first | (go_at_call 15; refine BD.mono ?_; rintro e w2 ⟨rfl, rfl⟩) | (go_at_call 13; refine Hh.mono ?_; rintro e w2 ⟨rfl, g2⟩) | (go_at_call 9; refine (AW.out _).mono ?_; rintro e w3 ⟨rfl, g3⟩))
            go_ret
            exact ⟨rfl, chain (chain bel2 g2) g3⟩
          | false =>
            go_wp2_with (first | (go_at_call 15; refine BD.mono ?_; rintro e w2 ⟨rfl, rfl⟩) | (go_at_call 13; refine Hh.mono ?_; rintro e w2 ⟨rfl, g2⟩) | (go_at_call 9; refine (AW.out _).mono ?_; rintro e w3 ⟨rfl, g3⟩))
            go_ret
            exact ⟨rfl, chain (chain bel2 g2) g3⟩
end Go.Proofs.Ytojjpnkdblaidaa
