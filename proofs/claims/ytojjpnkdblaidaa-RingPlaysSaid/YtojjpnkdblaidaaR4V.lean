/- The law RingVoices. Written by wip/tools/gen4v.py. -/
import Derived.Test.YtojjpnkdblaidaaR4N
namespace Go.Proofs.Ytojjpnkdblaidaa
open Go Go.RowKit Go.Maps
set_option linter.unusedVariables false
set_option linter.unusedSimpArgs false
theorem RG.not_own {w : World} {base B M n k : Nat} {bad : Nat → Bool} {sv : Value} {L : List St} {cs : Array Value} (h : RG w base B M n bad sv L) (hk : w.heap[k]? = some (.cells cs 27 (0, 0))) : ¬ ownR B M sv k := by
  rintro (rfl | rfl | e)
  · obtain ⟨c, h1, _⟩ := h.blk
    rw [hk] at h1; simp at h1
  · obtain ⟨es, clock, h1, _⟩ := h.map
    rw [hk] at h1; cases h1
  · rcases h.row.2 with ⟨h1, _⟩ | ⟨g, cap, cur, h1, _, h2, _⟩
    · rw [h1] at e; cases e
    · rw [h1] at e; cases e; rw [hk] at h2; simp at h2
theorem own_trn {w w' : World} {base B M n : Nat} {bad : Nat → Bool} {sv lv : Value} {L : List St} {m : Nat} {xs : List Value} (h : RG w base B M n bad sv L) (o : w.ownsRow 0 39 5 lv m xs) (t : Trn (ownR B M sv) w w') (hne : ∀ k, lv.ownBlock = some k → sv.ownBlock ≠ some k) : w'.ownsRow 0 39 5 lv m xs := by
  refine ⟨o.1, ?_⟩
  rcases o.2 with hn | ⟨g, cap, cur, rfl, hb, hg, rest⟩
  · exact .inl hn
  · refine .inr ⟨g, cap, cur, rfl, hb, (t.block g (lt_of_block hg) ?_).trans hg, rest⟩
    rintro (rfl | rfl | e)
    · obtain ⟨c, h1, _⟩ := h.blk
      rw [hg] at h1; simp at h1
    · obtain ⟨es, clock, h1, _⟩ := h.map
      rw [hg] at h1; cases h1
    · exact hne g rfl e
theorem rds_cut {w : World} {ao : Option Addr} {n cap : Nat} {T : List St} (h : RdS w (.slice ao n cap) T) (k : Nat) : RdS w (.slice ao (min n k) cap) (T.take k) := by
  obtain ⟨ao', cap', h1, h2, h3, h4, h5⟩ := h
  cases h1
  refine ⟨ao, cap, by simp [Nat.min_comm], by simp; omega, h3, fun x hx => h4 x (List.mem_of_mem_take hx), Lib.hid fun hp => ?_⟩
  obtain ⟨b, off, h6, h7, h8⟩ := h5.out (by simp at hp; omega)
  refine ⟨b, off, h6, h7, fun i hi => ?_⟩
  have hi' : i < T.length := by simp at hi; omega
  have e : (T.take k)[i] = T[i] := by simp
  rw [e]; exact h8 i hi'
theorem voices_snoc (L T : List St) (want : St) (k : Nat) : voicesN L T want (k + 1) = voicesN L T want k ++ (if spokeN L T want k then [(k : Int)] else []) := by
  unfold voicesN
  rw [List.range_succ, List.filter_append, List.map_append]
  by_cases h : spokeN L T want k <;> simp [h]
theorem voices_pre (L T : List St) (want : St) (k m : Nat) (h : k ≤ m) : ∃ r, voicesN L T want m = voicesN L T want k ++ r := by
  induction m with
  | zero => obtain rfl : k = 0 := by omega
            exact ⟨[], by simp⟩
  | succ m ih =>
    by_cases e : k = m + 1
    · subst e; exact ⟨[], by simp⟩
    · obtain ⟨r, hr⟩ := ih (by omega)
      exact ⟨r ++ _, by rw [voices_snoc, hr, List.append_assoc]⟩
theorem voices_at (L T : List St) (want : St) (k : Nat) (h : k < 64) (hs : spokeN L T want k = true) : (voicesN L T want k).length < (voicesN L T want 64).length ∧ (voicesN L T want 64)[(voicesN L T want k).length]? = some (k : Int) := by
  obtain ⟨r, hr⟩ := voices_pre L T want (k + 1) 64 (by omega)
  rw [voices_snoc L T want k, if_pos hs] at hr
  rw [hr]
  constructor
  · simp
  · rw [List.append_assoc, List.getElem?_append_right (Nat.le_refl _)]; simp
theorem voices_len (L T : List St) (want : St) (k : Nat) : (voicesN L T want k).length ≤ k := by
  unfold voicesN; simp; have := List.length_filter_le (spokeN L T want) (List.range k); simpa using this
theorem own_keepT {w w' : World} {b m8 : Nat} {lv : Value} {n : Nat} {xs : List Value} {cs : Array Value} (h : w.ownsRow b 39 5 lv n xs) (hk : ∀ k, k ≠ m8 → w'.heap[k]? = w.heap[k]?) (hm : w.heap[m8]? = some (.cells cs 27 (0, 0))) : w'.ownsRow b 39 5 lv n xs := by
  refine ⟨h.1, ?_⟩
  rcases h.2 with hn | ⟨g, cap, cur, rfl, hb, hg, rest⟩
  · exact .inl hn
  · exact .inr ⟨g, cap, cur, rfl, hb, (hk g (by rintro rfl; rw [hm] at hg; simp at hg)).trans hg, rest⟩
theorem i64_small (p : Nat) (h : p < 64) : (Lit.int .i64 (p : Int)).wf = true := by
  simp [Lit.wf, IntKind.min, IntKind.max, IntKind.signed, IntKind.bits]; omega
theorem set3_old {w : World} {B k : Nat} {u0 u1 u2 : Value} (h : k ≠ B) : (((w.setCell ⟨B, 0, none⟩ u0).setCell ⟨B, 1, none⟩ u1).setCell ⟨B, 2, none⟩ u2).heap[k]? = w.heap[k]? := by
  rw [set_old h, set_old h, set_old h]
theorem set3_new {w : World} {B : Nat} {a0 a1 a2 u0 u1 u2 : Value} {t : TypeId} (h : w.heap[B]? = some (.cells #[a0, a1, a2] t (0, 0))) : (((w.setCell ⟨B, 0, none⟩ u0).setCell ⟨B, 1, none⟩ u1).setCell ⟨B, 2, none⟩ u2).heap[B]? = some (.cells #[u0, u1, u2] t (0, 0)) := by
  simpa using set_at (i := 2) (u := u2) (set_at (i := 1) (u := u1) (set_at (i := 0) (u := u0) h))
set_option maxRecDepth 100000 in
set_option maxHeartbeats 700000 in
theorem law_voices (v1 : Value) (D : List (Int × St)) (v2 : Value) (T : List St) (s : St) (w : World) (h1 : RdD w v1 D) (h2 : RdS w v2 T) (hs : s.Wf) :
    Calls Try.prog 4 #[v1, v2, s.v] w fun e w' => e = .returned (.bool true) ∧ Below w.heap.size w w' := by
  have AW := Lib.hid awake_any
  have hMAY : mayN ((7 : Nat) : Int) [5, 6] = true := by decide
  obtain ⟨q5, q6, q7, _⟩ := two_allocs w (.cells #[.int .i64 s.a, .int .i64 s.b, .int .i64 s.c, .int .i64 s.d, .int .i64 s.e] 39) (.cells #[.int .i64 5, .int .i64 6] 3)
  have Be : Below w.heap.size w ((w.alloc (.cells #[.int .i64 s.a, .int .i64 s.b, .int .i64 s.c, .int .i64 s.d, .int .i64 s.e] 39)).alloc (.cells #[.int .i64 5, .int .i64 6] 3)) := ((Below.refl _ _).alloc (Nat.le_refl _) _).alloc (by simp) _
  have R56 : RdV ((w.alloc (.cells #[.int .i64 s.a, .int .i64 s.b, .int .i64 s.c, .int .i64 s.d, .int .i64 s.e] 39)).alloc (.cells #[.int .i64 5, .int .i64 6] 3)) (.slice (some ⟨w.heap.size + 1, 0, none⟩) 2 2) ([5, 6].map iv) := by
    have := own_rdv (World.ownsRow_lit (base := 0) (size := 1) (w := w.alloc (.cells #[.int .i64 s.a, .int .i64 s.b, .int .i64 s.c, .int .i64 s.d, .int .i64 s.e] 39)) (e := 3) #[.int .i64 5, .int .i64 6] 2 (Nat.zero_le _) (by decide) rfl)
    simpa [iv] using this
  have R2 := ring2_any 7 _ [5, 6] _ R56
  obtain ⟨W, hW⟩ : ∃ W, W = (w.alloc (.cells #[.int .i64 s.a, .int .i64 s.b, .int .i64 s.c, .int .i64 s.d, .int .i64 s.e] 39)).alloc (.cells #[.int .i64 5, .int .i64 6] 3) := ⟨_, rfl⟩
  rw [← hW] at R2 Be q5 q7
  have hWs : w.heap.size + 1 < W.heap.size := by rw [q7]; omega
  clear q7
  rw [show ([5, 6] : List Int).take 80 = [5, 6] from rfl] at R2
  obtain ⟨a2, c2, hv1, hc2, _⟩ := rdd_open h1
  have FW := Lib.hid (fun w' => few_any v1 D.length a2 c2 hv1 hc2 w')
  have H1 := Lib.hid h1
  have H2 := Lib.hid h2
  have HS := Lib.hid hs
  obtain ⟨a3, c3, hv2, hc3, _⟩ := h2
  have HT2 := Lib.hid (rds_cut (hv2 ▸ H2.out) 100)
  have hT100 : (T.take 100).length ≤ 100 := by simp; omega
  have hTm : min T.length 100 = (T.take 100).length := by simp [Nat.min_comm]
  rw [hTm] at HT2
  subst hv1 hv2
  have hcut := rdd_cut H1.out
  have hl120 : (D.take 120).length ≤ 120 := by simp; omega
  have hmin : min D.length 120 = (D.take 120).length := by simp [Nat.min_comm]
  rw [hmin] at FW hcut
  obtain ⟨D1, hD1⟩ : ∃ D1, D1 = D.take 120 := ⟨_, rfl⟩
  rw [← hD1] at FW hcut hl120
  obtain ⟨ao4, cap4, hv4, hc4, hwf4, HA⟩ := rdd_open hcut
  cases hv4
  have HW4 := Lib.hid hwf4
  obtain ⟨N, hN⟩ : ∃ N, N = T.take 100 := ⟨_, rfl⟩
  rw [← hN] at HT2 hT100 hTm
  have HTM := Lib.hid hTm
  clear h1 hs hwf4 hcut hmin hD1 hN R56 q6 H1 hTm
  unfold St.v
  go_enter Try.func4, Try.ntmps4
  go_wp2_with fail
  rw [← hW]
  clear hW
  refine R2.mono ?_
  rintro e w1 ⟨g1, v, rv, (⟨hmay, _⟩ | ⟨_, B, M, n, base, hn, hb1, hb2, rfl, rg⟩)⟩
  · rw [show mayN 7 [5, 6] = true from hMAY] at hmay; cases hmay
  obtain ⟨ao3, cap3, rfl, hc5, hm5, _⟩ := rdv_open rv
  obtain rfl : n = 7 := by omega
  have B3 : Below W.heap.size W (w1.alloc (.cells #[.int .i64 7, .slice ao3 2 cap3, .slice none 0 0] 27)) := g1.alloc g1.size _
  have rg1 := rg.below ((Below.refl _ _).alloc (Nat.le_refl _) (.cells #[.int .i64 7, .slice ao3 2 cap3, .slice none 0 0] 27))
  have q8 := heap_alloc_new w1 (.cells #[.int .i64 7, .slice ao3 2 cap3, .slice none 0 0] 27)
  have RV := Lib.hid rv
  have hbase : base ≤ (w1.alloc (.cells #[.int .i64 7, .slice ao3 2 cap3, .slice none 0 0] 27)).heap.size := by simp; omega
  obtain ⟨m8, hm8⟩ : ∃ m8, m8 = w1.heap.size := ⟨_, rfl⟩
  have G1 := Lib.hid g1
  clear R2 g1 rg hn rv
  go_wp2_with fail
  refine (FW.out _).mono ?_
  rintro e w2 ⟨rfl, rfl⟩
  obtain ⟨W1, hW1⟩ : ∃ W1, W1 = w1.alloc (.cells #[.int .i64 7, .slice ao3 2 cap3, .slice none 0 0] 27) := ⟨_, rfl⟩
  rw [← hW1] at B3 rg1 hbase q8 ⊢
  rw [← hm8] at q8 ⊢
  have hWm : W.heap.size ≤ m8 := by rw [hm8]; exact G1.out.size
  clear hW1 hm8
  by_cases hT : T.length ≤ 100
  · have hT' : ¬ (100 : Int) < (T.length : Int) := by omega
    have hTN : T.length = N.length := by rw [← HTM.out]; omega
    rw [hTN] at hT' hc3
    try rw [hTN]
    have HTN := Lib.hid hTN
    clear hT hTN
    rw [Nat.min_eq_left (by have := HTN.out; omega)] at HTM
    go_wp2_with fail
    go_loopw [10] (fun i wr => ∃ j : Nat, j ≤ D1.length ∧ i = .int .i64 (j : Int) ∧ Below W.heap.size W wr ∧ base ≤ wr.heap.size ∧ ∃ sv lv, RG wr base B M 7 (badOf [5, 6]) sv (recN 7 [5, 6] (D1.take j)) ∧ wr.heap[m8]? = some (.cells #[.int .i64 7, .slice ao3 2 cap3, lv] 27 (0, 0)) ∧ wr.ownsRow 0 39 5 lv (recN 7 [5, 6] (D1.take j)).length ((recN 7 [5, 6] (D1.take j)).flatMap St.cs) ∧ ∀ k, lv.ownBlock = some k → sv.ownBlock ≠ some k) (fun i _ => 200 - (intOf i).toNat)
    case atStart => exact ⟨0, Nat.zero_le _, rfl, B3, hbase, _, _, rg1, q8, World.ownsRow_nil _ _ _ _, fun k hk => by cases hk⟩
    case round =>
      obtain ⟨j, hj, rfl, bel, hbs, sv, lv, rg, q8, ow, hne⟩ := hrel
      obtain ⟨L, hL⟩ : ∃ L, L = recN 7 [5, 6] (D1.take j) := ⟨_, rfl⟩
      have hLl : L.length ≤ 120 := by rw [hL]; have := recN_len 7 [5, 6] (D1.take j); simp at this; omega
      rw [← hL] at rg ow
      have r5 := (bel.block _ (lt_of_block q5)).trans q5
      obtain ⟨aL, cL, rfl⟩ := own_slice' ow
      have HNE := Lib.hid hne
      have HOW := Lib.hid ow
      have RVW := Lib.hid (RV.out.below bel (Nat.le_refl _))
      by_cases hjx : j < D1.length
      · obtain ⟨b, off, rfl, hb, hcells⟩ := HA.out (by omega)
        have hcw : ∀ w', w'.heap[b]? = wr.heap[b]? → w'.cell? ⟨b, off + j * 6, none⟩ = some (.int .i64 D1[j].1) ∧ At5 w' b (off + j * 6 + 1) D1[j].2 := by
          intro w' hw'
          have e : w'.heap[b]? = w.heap[b]? := hw'.trans ((bel.block b (Nat.lt_of_lt_of_le hb Be.size)).trans (Be.block b hb))
          exact ⟨(World.cell?_of_block e).trans (hcells j hjx).1, (hcells j hjx).2.of e⟩
        have ht : D1.take (j + 1) = D1.take j ++ [D1[j]] := by rw [List.take_succ_eq_append_getElem hjx]
        have hwf := HW4.out D1[j] (List.getElem_mem hjx)
        obtain ⟨⟨sp, t⟩, ex⟩ : ∃ d, d = D1[j] := ⟨_, rfl⟩
        rw [← ex] at hcw ht hwf
        simp only at hcw hwf
        have AC := Lib.hid hcw
        have sy := say_any base B M 7 [5, 6] sv L sp t hwf wr.drew (rg.below (Below.refl _ _).drew) (by omega) hbs hMAY
        have hrec : recN 7 [5, 6] (D1.take (j + 1)) = sayL 7 [5, 6] L sp t := by rw [ht, recN_snoc, hL]
        have HREC := Lib.hid hrec
        have hS0 : wr.drew.heap[b]? = wr.heap[b]? := rfl
        have hbb : b < base := by have := Be.size; omega
        have lb : b < wr.heap.size := Nat.lt_of_lt_of_le hb (Nat.le_trans Be.size bel.size)
        have HWF := Lib.hid rg.wf
        unfold St.v at sy
        clear ht hwf ex hcells hcw hrec hL hne ow
        go_wp2_with fail
        refine gs_start (S := fun w' => w'.heap[b]? = wr.heap[b]?) (by kernel_rfl) ?_
        refine gs_take (i := 0) (d := (some 35)) (v := ?_) rfl rfl (by kernel_rfl) (fun _ _ _ h => h) (by rfl) (by first | exact hS1 | exact hS0) (fun w' hb' => ?_) ?_
        rotate_left
        · (try go_simp); (try with_reducible rfl)
        try simp only [Act.put, List.setIfInBounds_toArray, List.set_cons_zero, List.set_cons_succ]
        refine gs_take (i := 1) (d := (some 36)) (v := ?_) rfl rfl (by kernel_rfl) (fun _ _ _ h => h) (by rfl) (by first | exact hS1 | exact hS0) (fun w' hb' => ?_) ?_
        rotate_left
        · (try go_simp); (try with_reducible rfl)
        try simp only [Act.put, List.setIfInBounds_toArray, List.set_cons_zero, List.set_cons_succ]
        refine gs_take (i := 2) (d := (some 37)) (v := ?_) rfl rfl (by kernel_rfl) (fun _ _ _ h => h) (by rfl) (by first | exact hS1 | exact hS0) (fun w' hb' => ?_) ?_
        rotate_left
        · (try go_simp); (try with_reducible rfl)
        try simp only [Act.put, List.setIfInBounds_toArray, List.set_cons_zero, List.set_cons_succ]
        refine gs_take (i := 3) (d := (some 38)) (v := ?_) rfl rfl (by kernel_rfl) (fun _ _ _ h => h) (by rfl) (by first | exact hS1 | exact hS0) (fun w' hb' => ?_) ?_
        rotate_left
        · (try go_simp); (try with_reducible rfl)
        try simp only [Act.put, List.setIfInBounds_toArray, List.set_cons_zero, List.set_cons_succ]
        refine gs_take (i := 4) (d := (some 39)) (v := ?_) rfl rfl (by kernel_rfl) (fun _ _ _ h => h) (by rfl) (by first | exact hS1 | exact hS0) (fun w' hb' => ?_) ?_
        rotate_left
        · (try go_simp); (try with_reducible rfl)
        try simp only [Act.put, List.setIfInBounds_toArray, List.set_cons_zero, List.set_cons_succ]
        refine gs_take (i := 5) (d := (some 40)) (v := ?_) rfl rfl (by kernel_rfl) (fun _ _ _ h => h) (by rfl) (by first | exact hS1 | exact hS0) (fun w' hb' => ?_) ?_
        rotate_left
        · have hc := (AC.out _ hb').1; (try go_simp); (try with_reducible rfl)
        try simp only [Act.put, List.setIfInBounds_toArray, List.set_cons_zero, List.set_cons_succ]
        refine gs_take (i := 6) (d := (some 41)) (v := ?_) rfl rfl (by kernel_rfl) (fun _ _ _ h => h) (by rfl) (by first | exact hS1 | exact hS0) (fun w' hb' => ?_) ?_
        rotate_left
        · (try go_simp); (try with_reducible rfl)
        try simp only [Act.put, List.setIfInBounds_toArray, List.set_cons_zero, List.set_cons_succ]
        refine gs_take (i := 7) (d := (some 42)) (v := ?_) rfl rfl (by kernel_rfl) (fun _ _ _ h => h) (by rfl) (by first | exact hS1 | exact hS0) (fun w' hb' => ?_) ?_
        rotate_left
        · (try go_simp); (try with_reducible rfl)
        try simp only [Act.put, List.setIfInBounds_toArray, List.set_cons_zero, List.set_cons_succ]
        refine gs_take (i := 8) (d := (some 43)) (v := ?_) rfl rfl (by kernel_rfl) (fun _ _ _ h => h) (by rfl) (by first | exact hS1 | exact hS0) (fun w' hb' => ?_) ?_
        rotate_left
        · (try go_simp); (try with_reducible rfl)
        try simp only [Act.put, List.setIfInBounds_toArray, List.set_cons_zero, List.set_cons_succ]
        refine gs_take (i := 9) (d := (some 44)) (v := ?_) rfl rfl (by kernel_rfl) (fun _ _ _ h => h) (by rfl) (by first | exact hS1 | exact hS0) (fun w' hb' => ?_) ?_
        rotate_left
        · (try go_simp); (try with_reducible rfl)
        try simp only [Act.put, List.setIfInBounds_toArray, List.set_cons_zero, List.set_cons_succ]
        refine gs_take (i := 10) (d := (some 45)) (v := ?_) rfl rfl (by kernel_rfl) (fun _ _ _ h => h) (by rfl) (by first | exact hS1 | exact hS0) (fun w' hb' => ?_) ?_
        rotate_left
        · have hc := (AC.out _ hb').2; obtain ⟨k1, k2, k3, k4, k5⟩ := hc; (try go_simp); (try with_reducible rfl)
        try simp only [Act.put, List.setIfInBounds_toArray, List.set_cons_zero, List.set_cons_succ]
        refine gs_run (i := 11) rfl (by kernel_rfl) (by rfl) (fun K hK => ?_)
        go_simp
        refine sy.mono ?_
        rintro e w3 ⟨rfl, sv3, rg3, t3, hsv3⟩
        have hS1 : w3.heap[b]? = wr.heap[b]? := t3.block b lb (fun e => by have := rg.own_ge b e; omega)
        refine hK _ _ ⟨hS1, ?_⟩
        clear hK K
        try simp only [Act.put, List.setIfInBounds_toArray, List.set_cons_zero, List.set_cons_succ]
        refine gs_done (by kernel_rfl) ?_
        have bel3 : Below W.heap.size W w3 := below_trn bel.drew t3 (fun k hk => by have := rg.own_ge k hk; omega)
        have hbs3 : base ≤ w3.heap.size := Nat.le_trans hbs t3.size
        have sz3 : wr.heap.size ≤ w3.heap.size := t3.size
        have q3 : w3.heap[m8]? = some (.cells #[.int .i64 7, .slice ao3 2 cap3, .slice aL L.length cL] 27 (0, 0)) := (t3.block m8 (lt_of_block q8) (rg.not_own q8)).trans q8
        have ow3 : w3.ownsRow 0 39 5 (.slice aL L.length cL) L.length (L.flatMap St.cs) := own_trn (rg.below (Below.refl _ _).drew) HOW.out t3 HNE.out
        have my := refSay_any 7 (.slice ao3 2 cap3) (.slice aL L.length cL) [5, 6] L sp t w3.drew (by decide) (by omega) (RV.out.below bel3.drew (Nat.le_refl _)) HWF.out ow3
        have hne3 : ∀ k, (Value.slice aL L.length cL).ownBlock = some k → sv3.ownBlock ≠ some k := by
          intro k hk e
          rcases hsv3 k e with e2 | e2
          · exact HNE.out k hk e2
          · have := (HOW.out.lt k hk).2; simp at e2; omega
        have ne4 : ∀ (lv4 : Value), (∀ k, lv4.ownBlock = some k → (Value.slice aL L.length cL).ownBlock = some k ∨ w3.drew.heap.size ≤ k) → ∀ k, lv4.ownBlock = some k → sv3.ownBlock ≠ some k := by
          intro lv4 h4 k hk e
          rcases h4 k hk with e2 | e2
          · exact hne3 k e2 e
          · have := (rg3.row.lt k e).2; simp at e2; omega
        have NE4 := Lib.hid ne4
        rw [← HREC.out] at rg3 my
        have RG3 := Lib.hid rg3
        have hT0 : w3.drew.heap[b]? = wr.heap[b]? := hS1
        unfold St.v at my
        clear rg3 t3 rg sy hsv3 hne3 ne4 ow3
        go_wp2_with fail
        refine gs_start (S := fun w' => w'.heap[b]? = wr.heap[b]?) (by kernel_rfl) ?_
        refine gs_take (i := 1) (d := (some 49)) (v := ?_) rfl rfl (by kernel_rfl) (fun _ _ _ h => h) (by rfl) (by first | exact hT2 | exact hT1 | exact hT0) (fun w' hb' => ?_) ?_
        rotate_left
        · (try go_simp); (try with_reducible rfl)
        try simp only [Act.put, List.setIfInBounds_toArray, List.set_cons_zero, List.set_cons_succ]
        refine gs_take (i := 2) (d := (some 50)) (v := ?_) rfl rfl (by kernel_rfl) (fun _ _ _ h => h) (by rfl) (by first | exact hT2 | exact hT1 | exact hT0) (fun w' hb' => ?_) ?_
        rotate_left
        · (try go_simp); (try with_reducible rfl)
        try simp only [Act.put, List.setIfInBounds_toArray, List.set_cons_zero, List.set_cons_succ]
        refine gs_take (i := 3) (d := (some 51)) (v := ?_) rfl rfl (by kernel_rfl) (fun _ _ _ h => h) (by rfl) (by first | exact hT2 | exact hT1 | exact hT0) (fun w' hb' => ?_) ?_
        rotate_left
        · (try go_simp); (try with_reducible rfl)
        try simp only [Act.put, List.setIfInBounds_toArray, List.set_cons_zero, List.set_cons_succ]
        refine gs_take (i := 4) (d := (some 52)) (v := ?_) rfl rfl (by kernel_rfl) (fun _ _ _ h => h) (by rfl) (by first | exact hT2 | exact hT1 | exact hT0) (fun w' hb' => ?_) ?_
        rotate_left
        · (try go_simp); (try with_reducible rfl)
        try simp only [Act.put, List.setIfInBounds_toArray, List.set_cons_zero, List.set_cons_succ]
        refine gs_take (i := 5) (d := (some 53)) (v := ?_) rfl rfl (by kernel_rfl) (fun _ _ _ h => h) (by rfl) (by first | exact hT2 | exact hT1 | exact hT0) (fun w' hb' => ?_) ?_
        rotate_left
        · have hc := (AC.out _ hb').1; (try go_simp); (try with_reducible rfl)
        try simp only [Act.put, List.setIfInBounds_toArray, List.set_cons_zero, List.set_cons_succ]
        refine gs_take (i := 6) (d := (some 54)) (v := ?_) rfl rfl (by kernel_rfl) (fun _ _ _ h => h) (by rfl) (by first | exact hT2 | exact hT1 | exact hT0) (fun w' hb' => ?_) ?_
        rotate_left
        · (try go_simp); (try with_reducible rfl)
        try simp only [Act.put, List.setIfInBounds_toArray, List.set_cons_zero, List.set_cons_succ]
        refine gs_take (i := 7) (d := (some 55)) (v := ?_) rfl rfl (by kernel_rfl) (fun _ _ _ h => h) (by rfl) (by first | exact hT2 | exact hT1 | exact hT0) (fun w' hb' => ?_) ?_
        rotate_left
        · (try go_simp); (try with_reducible rfl)
        try simp only [Act.put, List.setIfInBounds_toArray, List.set_cons_zero, List.set_cons_succ]
        refine gs_take (i := 8) (d := (some 56)) (v := ?_) rfl rfl (by kernel_rfl) (fun _ _ _ h => h) (by rfl) (by first | exact hT2 | exact hT1 | exact hT0) (fun w' hb' => ?_) ?_
        rotate_left
        · (try go_simp); (try with_reducible rfl)
        try simp only [Act.put, List.setIfInBounds_toArray, List.set_cons_zero, List.set_cons_succ]
        refine gs_take (i := 9) (d := (some 57)) (v := ?_) rfl rfl (by kernel_rfl) (fun _ _ _ h => h) (by rfl) (by first | exact hT2 | exact hT1 | exact hT0) (fun w' hb' => ?_) ?_
        rotate_left
        · (try go_simp); (try with_reducible rfl)
        try simp only [Act.put, List.setIfInBounds_toArray, List.set_cons_zero, List.set_cons_succ]
        refine gs_take (i := 10) (d := (some 58)) (v := ?_) rfl rfl (by kernel_rfl) (fun _ _ _ h => h) (by rfl) (by first | exact hT2 | exact hT1 | exact hT0) (fun w' hb' => ?_) ?_
        rotate_left
        · have hc := (AC.out _ hb').2; obtain ⟨k1, k2, k3, k4, k5⟩ := hc; (try go_simp); (try with_reducible rfl)
        try simp only [Act.put, List.setIfInBounds_toArray, List.set_cons_zero, List.set_cons_succ]
        refine gs_run (i := 0) rfl (by kernel_rfl) (by rfl) (fun K hK => ?_)
        have hc := cells3 q3
        go_simp
        refine hK _ _ ⟨hT0, ?_⟩
        clear hK K
        try simp only [Act.put, List.setIfInBounds_toArray, List.set_cons_zero, List.set_cons_succ]
        refine gs_run (i := 11) rfl (by kernel_rfl) (by rfl) (fun K hK => ?_)
        go_simp
        refine my.mono ?_
        rintro e w4 ⟨g4, lv4, rfl, ow4, hlv4⟩
        obtain ⟨a4, m4, c4, rfl⟩ := own_slice ow4
        have hT1 : w4.heap[b]? = wr.heap[b]? := (g4.block b (Nat.lt_of_lt_of_le lb sz3)).trans hS1
        have hM8 : w4.heap[m8]? = some (.cells #[.int .i64 7, .slice ao3 2 cap3, .slice aL L.length cL] 27 (0, 0)) := (g4.block _ (lt_of_block q3)).trans q3
        refine hK _ _ ⟨hT1, ?_⟩
        clear hK K
        try simp only [Act.put, List.setIfInBounds_toArray, List.set_cons_zero, List.set_cons_succ]
        refine gs_take (i := 12) (d := (some 47)) (v := ?_) rfl rfl (by kernel_rfl) (fun _ _ _ h => h) (by rfl) (by first | exact hT2 | exact hT1 | exact hT0) (fun w' hb' => ?_) ?_
        rotate_left
        · (try go_simp); (try with_reducible rfl)
        try simp only [Act.put, List.setIfInBounds_toArray, List.set_cons_zero, List.set_cons_succ]
        refine gs_take (i := 13) (d := (some 60)) (v := ?_) rfl rfl (by kernel_rfl) (fun _ _ _ h => h) (by rfl) (by first | exact hT2 | exact hT1 | exact hT0) (fun w' hb' => ?_) ?_
        rotate_left
        · (try go_simp); (try with_reducible rfl)
        try simp only [Act.put, List.setIfInBounds_toArray, List.set_cons_zero, List.set_cons_succ]
        refine gs_take (i := 14) (d := (some 61)) (v := ?_) rfl rfl (by kernel_rfl) (fun _ _ _ h => h) (by rfl) (by first | exact hT2 | exact hT1 | exact hT0) (fun w' hb' => ?_) ?_
        rotate_left
        · (try go_simp); (try with_reducible rfl)
        try simp only [Act.put, List.setIfInBounds_toArray, List.set_cons_zero, List.set_cons_succ]
        refine gs_run (i := 15) rfl (by kernel_rfl) (by rfl) (fun K hK => ?_)
        have hc := cells3 hM8
        have hf := block_frozen hM8
        have hT2 := (set3_old (w := w4) (u0 := .int .i64 7) (u1 := .slice ao3 2 cap3) (u2 := .slice a4 m4 c4) (by omega : b ≠ m8)).trans hT1
        go_simp
        refine hK _ _ ⟨hT2, ?_⟩
        clear hK K hc hf
        try simp only [Act.put, List.setIfInBounds_toArray, List.set_cons_zero, List.set_cons_succ]
        refine gs_done (by kernel_rfl) ?_
        have fin1 : Below W.heap.size W w4 := chain bel3.drew g4
        have rg4 := RG3.out.below (chain (Below.refl _ _).drew g4)
        have q9 := set3_new (u0 := .int .i64 7) (u1 := .slice ao3 2 cap3) (u2 := .slice a4 m4 c4) hM8
        go_wp2_with fail
        go_roundw
        case rel =>
          refine ⟨j + 1, by omega, by go_num, ((fin1.setCell hWm _).setCell hWm _).setCell hWm _, ?_, sv3, _, rg4.kept (fun k hk hown => set3_old (fun e => rg4.not_own hM8 (e ▸ hown))), q9, own_keepT ow4 (fun k hk => set3_old hk) hM8, NE4.out _ hlv4⟩
          have := g4.size
          simp at this ⊢
          omega
        case measure => simp [intOf]; omega
      · have hj2 : D1.take j = D1 := List.take_of_length_le (by omega)
        have VO := voices_any base B M 7 (badOf [5, 6]) sv L (.slice a3 N.length c3) N s HS.out (by omega) wr rg (HT2.out.below (chain Be bel))
        have bel2 := chain Be bel
        obtain ⟨f1, f2, f3, f4, f5, f6⟩ := cells5 r5
        have RL := Lib.hid (own_rds HOW.out rg.wf (by omega))
        unfold St.v at VO
        clear hj2 hL hne ow rg
        go_wp2_with fail
        refine VO.mono ?_
        rintro e wv ⟨z, rfl, gv, rz⟩
        obtain ⟨az, cz, rfl, hzc, hzm, HZ⟩ := rdv_open rz
        have q9 := (gv.block _ (lt_of_block q8)).trans q8
        have r6 := (gv.block _ (lt_of_block r5)).trans r5
        have bel3 := chain bel2 gv
        have HVC := Lib.hid (fun (p : Nat) (hp : p < 64) (w' : World) (g : Below wr.heap.size wr w') => voice_any 7 (.slice ao3 2 cap3) (.slice aL L.length cL) (.slice a3 N.length c3) L N (by omega) (by omega) s (p : Int) HS.out (i64_small p hp) w' ⟨_, _, _, rfl⟩ (RL.out.below g) (HT2.out.below (bel2.trans (g.mono bel2.size))))
        clear VO rz
        go_wp2_with fail
        go_loopw [12, 13] (fun k p wx => ∃ q : Nat, q ≤ 64 ∧ k = .int .i64 ((voicesN L N s q).length : Int) ∧ p = .int .i64 (q : Int) ∧ Below wv.heap.size wv wx) (fun _ p _ => 64 - (intOf p).toNat)
        case atStart => exact ⟨0, by omega, rfl, rfl, Below.refl _ _⟩
        case round =>
          obtain ⟨q, hq, rfl, rfl, gx⟩ := hrel
          by_cases hq2 : q < 64
          · have vc := HVC.out q hq2 wr (chain gv gx)
            rw [show decide (({ s with a := (q : Int) } : St) ∈ N ∧ ({ s with a := (q : Int) } : St) ∈ L) = spokeN L N s q from rfl] at vc
            have x8 := cells3 ((gx.block _ (lt_of_block q9)).trans q9)
            have x6 := cells5 ((gx.block _ (lt_of_block r6)).trans r6)
            have hsn := voices_snoc L N s q
            unfold St.v at vc
            cases hsp : spokeN L N s q with
            | false =>
              rw [hsp] at vc hsn
              have HSN := Lib.hid hsn
              clear hsn hsp
              go_wp2_with fail
              refine vc.mono ?_
              rintro e wy ⟨rfl, gy⟩
              go_wp2_with fail
              go_roundw
              case rel => exact ⟨q + 1, by omega, by rw [HSN.out]; simp, by go_num, chain gx gy⟩
              case measure => simp [intOf]; omega
            | true =>
              obtain ⟨hlt, hat⟩ := voices_at L N s q hq2 hsp
              rw [hsp] at vc hsn
              have hkl : (voicesN L N s (q + 1)).length = (voicesN L N s q).length + 1 := by rw [hsn]; simp
              obtain ⟨K, hK⟩ : ∃ K, K = (voicesN L N s q).length := ⟨_, rfl⟩
              obtain ⟨bz, oz, rfl, hbz, hzc2⟩ := HZ.out (by omega)
              have hz1 := hzc2 _ hlt
              rw [List.getElem?_eq_getElem hlt] at hat
              rw [Option.some.inj hat] at hz1
              rw [← hK] at hz1 hlt hkl
              try rw [← hK]
              have HKL := Lib.hid hkl
              have HKK := Lib.hid hK
              have hKq : K ≤ 64 := by have := voices_len L N s q; omega
              have hlt2 : ¬ ((voicesN L N s 64).length : Int) ≤ (K : Int) := by omega
              clear hsn hsp hat hkl hzc2 hK
              go_wp2_with fail
              refine vc.mono ?_
              rintro e wy ⟨rfl, gy⟩
              have hz2 := ((chain gx gy).cell (p := ⟨bz, oz + K, none⟩) hbz).trans hz1
              have hqq := int_eqb (rfl : (q : Int) = q)
              have hqn := int_eqn (rfl : (q : Int) = q)
              go_wp2_with fail
              go_roundw
              case rel => exact ⟨q + 1, by omega, by rw [HKL.out]; go_num, by go_num, chain gx gy⟩
              case measure => simp [intOf]; omega
          · obtain rfl : q = 64 := by omega
            have hqq := int_eqb (rfl : ((voicesN L N s 64).length : Int) = (voicesN L N s 64).length)
            go_wp2_with (go_at_call 9; refine (AW.out _).mono ?_; rintro e w3 ⟨rfl, g3⟩)
            go_ret
            exact ⟨rfl, chain (chain bel3 gx) g3⟩
  · have hT' : (100 : Int) < (T.length : Int) := by omega
    rw [Nat.min_eq_right (by omega)] at HTM
    rw [← HTM.out] at HT2
    have hN100 : 100 = N.length := HTM.out
    have HNL := Lib.hid hN100
    clear hT hN100
    go_wp2_with fail
    go_loopw [10] (fun i wr => ∃ j : Nat, j ≤ D1.length ∧ i = .int .i64 (j : Int) ∧ Below W.heap.size W wr ∧ base ≤ wr.heap.size ∧ ∃ sv lv, RG wr base B M 7 (badOf [5, 6]) sv (recN 7 [5, 6] (D1.take j)) ∧ wr.heap[m8]? = some (.cells #[.int .i64 7, .slice ao3 2 cap3, lv] 27 (0, 0)) ∧ wr.ownsRow 0 39 5 lv (recN 7 [5, 6] (D1.take j)).length ((recN 7 [5, 6] (D1.take j)).flatMap St.cs) ∧ ∀ k, lv.ownBlock = some k → sv.ownBlock ≠ some k) (fun i _ => 200 - (intOf i).toNat)
    case atStart => exact ⟨0, Nat.zero_le _, rfl, B3, hbase, _, _, rg1, q8, World.ownsRow_nil _ _ _ _, fun k hk => by cases hk⟩
    case round =>
      obtain ⟨j, hj, rfl, bel, hbs, sv, lv, rg, q8, ow, hne⟩ := hrel
      obtain ⟨L, hL⟩ : ∃ L, L = recN 7 [5, 6] (D1.take j) := ⟨_, rfl⟩
      have hLl : L.length ≤ 120 := by rw [hL]; have := recN_len 7 [5, 6] (D1.take j); simp at this; omega
      rw [← hL] at rg ow
      have r5 := (bel.block _ (lt_of_block q5)).trans q5
      obtain ⟨aL, cL, rfl⟩ := own_slice' ow
      have HNE := Lib.hid hne
      have HOW := Lib.hid ow
      have RVW := Lib.hid (RV.out.below bel (Nat.le_refl _))
      by_cases hjx : j < D1.length
      · obtain ⟨b, off, rfl, hb, hcells⟩ := HA.out (by omega)
        have hcw : ∀ w', w'.heap[b]? = wr.heap[b]? → w'.cell? ⟨b, off + j * 6, none⟩ = some (.int .i64 D1[j].1) ∧ At5 w' b (off + j * 6 + 1) D1[j].2 := by
          intro w' hw'
          have e : w'.heap[b]? = w.heap[b]? := hw'.trans ((bel.block b (Nat.lt_of_lt_of_le hb Be.size)).trans (Be.block b hb))
          exact ⟨(World.cell?_of_block e).trans (hcells j hjx).1, (hcells j hjx).2.of e⟩
        have ht : D1.take (j + 1) = D1.take j ++ [D1[j]] := by rw [List.take_succ_eq_append_getElem hjx]
        have hwf := HW4.out D1[j] (List.getElem_mem hjx)
        obtain ⟨⟨sp, t⟩, ex⟩ : ∃ d, d = D1[j] := ⟨_, rfl⟩
        rw [← ex] at hcw ht hwf
        simp only at hcw hwf
        have AC := Lib.hid hcw
        have sy := say_any base B M 7 [5, 6] sv L sp t hwf wr.drew (rg.below (Below.refl _ _).drew) (by omega) hbs hMAY
        have hrec : recN 7 [5, 6] (D1.take (j + 1)) = sayL 7 [5, 6] L sp t := by rw [ht, recN_snoc, hL]
        have HREC := Lib.hid hrec
        have hS0 : wr.drew.heap[b]? = wr.heap[b]? := rfl
        have hbb : b < base := by have := Be.size; omega
        have lb : b < wr.heap.size := Nat.lt_of_lt_of_le hb (Nat.le_trans Be.size bel.size)
        have HWF := Lib.hid rg.wf
        unfold St.v at sy
        clear ht hwf ex hcells hcw hrec hL hne ow
        go_wp2_with fail
        refine gs_start (S := fun w' => w'.heap[b]? = wr.heap[b]?) (by kernel_rfl) ?_
        refine gs_take (i := 0) (d := (some 35)) (v := ?_) rfl rfl (by kernel_rfl) (fun _ _ _ h => h) (by rfl) (by first | exact hS1 | exact hS0) (fun w' hb' => ?_) ?_
        rotate_left
        · (try go_simp); (try with_reducible rfl)
        try simp only [Act.put, List.setIfInBounds_toArray, List.set_cons_zero, List.set_cons_succ]
        refine gs_take (i := 1) (d := (some 36)) (v := ?_) rfl rfl (by kernel_rfl) (fun _ _ _ h => h) (by rfl) (by first | exact hS1 | exact hS0) (fun w' hb' => ?_) ?_
        rotate_left
        · (try go_simp); (try with_reducible rfl)
        try simp only [Act.put, List.setIfInBounds_toArray, List.set_cons_zero, List.set_cons_succ]
        refine gs_take (i := 2) (d := (some 37)) (v := ?_) rfl rfl (by kernel_rfl) (fun _ _ _ h => h) (by rfl) (by first | exact hS1 | exact hS0) (fun w' hb' => ?_) ?_
        rotate_left
        · (try go_simp); (try with_reducible rfl)
        try simp only [Act.put, List.setIfInBounds_toArray, List.set_cons_zero, List.set_cons_succ]
        refine gs_take (i := 3) (d := (some 38)) (v := ?_) rfl rfl (by kernel_rfl) (fun _ _ _ h => h) (by rfl) (by first | exact hS1 | exact hS0) (fun w' hb' => ?_) ?_
        rotate_left
        · (try go_simp); (try with_reducible rfl)
        try simp only [Act.put, List.setIfInBounds_toArray, List.set_cons_zero, List.set_cons_succ]
        refine gs_take (i := 4) (d := (some 39)) (v := ?_) rfl rfl (by kernel_rfl) (fun _ _ _ h => h) (by rfl) (by first | exact hS1 | exact hS0) (fun w' hb' => ?_) ?_
        rotate_left
        · (try go_simp); (try with_reducible rfl)
        try simp only [Act.put, List.setIfInBounds_toArray, List.set_cons_zero, List.set_cons_succ]
        refine gs_take (i := 5) (d := (some 40)) (v := ?_) rfl rfl (by kernel_rfl) (fun _ _ _ h => h) (by rfl) (by first | exact hS1 | exact hS0) (fun w' hb' => ?_) ?_
        rotate_left
        · have hc := (AC.out _ hb').1; (try go_simp); (try with_reducible rfl)
        try simp only [Act.put, List.setIfInBounds_toArray, List.set_cons_zero, List.set_cons_succ]
        refine gs_take (i := 6) (d := (some 41)) (v := ?_) rfl rfl (by kernel_rfl) (fun _ _ _ h => h) (by rfl) (by first | exact hS1 | exact hS0) (fun w' hb' => ?_) ?_
        rotate_left
        · (try go_simp); (try with_reducible rfl)
        try simp only [Act.put, List.setIfInBounds_toArray, List.set_cons_zero, List.set_cons_succ]
        refine gs_take (i := 7) (d := (some 42)) (v := ?_) rfl rfl (by kernel_rfl) (fun _ _ _ h => h) (by rfl) (by first | exact hS1 | exact hS0) (fun w' hb' => ?_) ?_
        rotate_left
        · (try go_simp); (try with_reducible rfl)
        try simp only [Act.put, List.setIfInBounds_toArray, List.set_cons_zero, List.set_cons_succ]
        refine gs_take (i := 8) (d := (some 43)) (v := ?_) rfl rfl (by kernel_rfl) (fun _ _ _ h => h) (by rfl) (by first | exact hS1 | exact hS0) (fun w' hb' => ?_) ?_
        rotate_left
        · (try go_simp); (try with_reducible rfl)
        try simp only [Act.put, List.setIfInBounds_toArray, List.set_cons_zero, List.set_cons_succ]
        refine gs_take (i := 9) (d := (some 44)) (v := ?_) rfl rfl (by kernel_rfl) (fun _ _ _ h => h) (by rfl) (by first | exact hS1 | exact hS0) (fun w' hb' => ?_) ?_
        rotate_left
        · (try go_simp); (try with_reducible rfl)
        try simp only [Act.put, List.setIfInBounds_toArray, List.set_cons_zero, List.set_cons_succ]
        refine gs_take (i := 10) (d := (some 45)) (v := ?_) rfl rfl (by kernel_rfl) (fun _ _ _ h => h) (by rfl) (by first | exact hS1 | exact hS0) (fun w' hb' => ?_) ?_
        rotate_left
        · have hc := (AC.out _ hb').2; obtain ⟨k1, k2, k3, k4, k5⟩ := hc; (try go_simp); (try with_reducible rfl)
        try simp only [Act.put, List.setIfInBounds_toArray, List.set_cons_zero, List.set_cons_succ]
        refine gs_run (i := 11) rfl (by kernel_rfl) (by rfl) (fun K hK => ?_)
        go_simp
        refine sy.mono ?_
        rintro e w3 ⟨rfl, sv3, rg3, t3, hsv3⟩
        have hS1 : w3.heap[b]? = wr.heap[b]? := t3.block b lb (fun e => by have := rg.own_ge b e; omega)
        refine hK _ _ ⟨hS1, ?_⟩
        clear hK K
        try simp only [Act.put, List.setIfInBounds_toArray, List.set_cons_zero, List.set_cons_succ]
        refine gs_done (by kernel_rfl) ?_
        have bel3 : Below W.heap.size W w3 := below_trn bel.drew t3 (fun k hk => by have := rg.own_ge k hk; omega)
        have hbs3 : base ≤ w3.heap.size := Nat.le_trans hbs t3.size
        have sz3 : wr.heap.size ≤ w3.heap.size := t3.size
        have q3 : w3.heap[m8]? = some (.cells #[.int .i64 7, .slice ao3 2 cap3, .slice aL L.length cL] 27 (0, 0)) := (t3.block m8 (lt_of_block q8) (rg.not_own q8)).trans q8
        have ow3 : w3.ownsRow 0 39 5 (.slice aL L.length cL) L.length (L.flatMap St.cs) := own_trn (rg.below (Below.refl _ _).drew) HOW.out t3 HNE.out
        have my := refSay_any 7 (.slice ao3 2 cap3) (.slice aL L.length cL) [5, 6] L sp t w3.drew (by decide) (by omega) (RV.out.below bel3.drew (Nat.le_refl _)) HWF.out ow3
        have hne3 : ∀ k, (Value.slice aL L.length cL).ownBlock = some k → sv3.ownBlock ≠ some k := by
          intro k hk e
          rcases hsv3 k e with e2 | e2
          · exact HNE.out k hk e2
          · have := (HOW.out.lt k hk).2; simp at e2; omega
        have ne4 : ∀ (lv4 : Value), (∀ k, lv4.ownBlock = some k → (Value.slice aL L.length cL).ownBlock = some k ∨ w3.drew.heap.size ≤ k) → ∀ k, lv4.ownBlock = some k → sv3.ownBlock ≠ some k := by
          intro lv4 h4 k hk e
          rcases h4 k hk with e2 | e2
          · exact hne3 k e2 e
          · have := (rg3.row.lt k e).2; simp at e2; omega
        have NE4 := Lib.hid ne4
        rw [← HREC.out] at rg3 my
        have RG3 := Lib.hid rg3
        have hT0 : w3.drew.heap[b]? = wr.heap[b]? := hS1
        unfold St.v at my
        clear rg3 t3 rg sy hsv3 hne3 ne4 ow3
        go_wp2_with fail
        refine gs_start (S := fun w' => w'.heap[b]? = wr.heap[b]?) (by kernel_rfl) ?_
        refine gs_take (i := 1) (d := (some 49)) (v := ?_) rfl rfl (by kernel_rfl) (fun _ _ _ h => h) (by rfl) (by first | exact hT2 | exact hT1 | exact hT0) (fun w' hb' => ?_) ?_
        rotate_left
        · (try go_simp); (try with_reducible rfl)
        try simp only [Act.put, List.setIfInBounds_toArray, List.set_cons_zero, List.set_cons_succ]
        refine gs_take (i := 2) (d := (some 50)) (v := ?_) rfl rfl (by kernel_rfl) (fun _ _ _ h => h) (by rfl) (by first | exact hT2 | exact hT1 | exact hT0) (fun w' hb' => ?_) ?_
        rotate_left
        · (try go_simp); (try with_reducible rfl)
        try simp only [Act.put, List.setIfInBounds_toArray, List.set_cons_zero, List.set_cons_succ]
        refine gs_take (i := 3) (d := (some 51)) (v := ?_) rfl rfl (by kernel_rfl) (fun _ _ _ h => h) (by rfl) (by first | exact hT2 | exact hT1 | exact hT0) (fun w' hb' => ?_) ?_
        rotate_left
        · (try go_simp); (try with_reducible rfl)
        try simp only [Act.put, List.setIfInBounds_toArray, List.set_cons_zero, List.set_cons_succ]
        refine gs_take (i := 4) (d := (some 52)) (v := ?_) rfl rfl (by kernel_rfl) (fun _ _ _ h => h) (by rfl) (by first | exact hT2 | exact hT1 | exact hT0) (fun w' hb' => ?_) ?_
        rotate_left
        · (try go_simp); (try with_reducible rfl)
        try simp only [Act.put, List.setIfInBounds_toArray, List.set_cons_zero, List.set_cons_succ]
        refine gs_take (i := 5) (d := (some 53)) (v := ?_) rfl rfl (by kernel_rfl) (fun _ _ _ h => h) (by rfl) (by first | exact hT2 | exact hT1 | exact hT0) (fun w' hb' => ?_) ?_
        rotate_left
        · have hc := (AC.out _ hb').1; (try go_simp); (try with_reducible rfl)
        try simp only [Act.put, List.setIfInBounds_toArray, List.set_cons_zero, List.set_cons_succ]
        refine gs_take (i := 6) (d := (some 54)) (v := ?_) rfl rfl (by kernel_rfl) (fun _ _ _ h => h) (by rfl) (by first | exact hT2 | exact hT1 | exact hT0) (fun w' hb' => ?_) ?_
        rotate_left
        · (try go_simp); (try with_reducible rfl)
        try simp only [Act.put, List.setIfInBounds_toArray, List.set_cons_zero, List.set_cons_succ]
        refine gs_take (i := 7) (d := (some 55)) (v := ?_) rfl rfl (by kernel_rfl) (fun _ _ _ h => h) (by rfl) (by first | exact hT2 | exact hT1 | exact hT0) (fun w' hb' => ?_) ?_
        rotate_left
        · (try go_simp); (try with_reducible rfl)
        try simp only [Act.put, List.setIfInBounds_toArray, List.set_cons_zero, List.set_cons_succ]
        refine gs_take (i := 8) (d := (some 56)) (v := ?_) rfl rfl (by kernel_rfl) (fun _ _ _ h => h) (by rfl) (by first | exact hT2 | exact hT1 | exact hT0) (fun w' hb' => ?_) ?_
        rotate_left
        · (try go_simp); (try with_reducible rfl)
        try simp only [Act.put, List.setIfInBounds_toArray, List.set_cons_zero, List.set_cons_succ]
        refine gs_take (i := 9) (d := (some 57)) (v := ?_) rfl rfl (by kernel_rfl) (fun _ _ _ h => h) (by rfl) (by first | exact hT2 | exact hT1 | exact hT0) (fun w' hb' => ?_) ?_
        rotate_left
        · (try go_simp); (try with_reducible rfl)
        try simp only [Act.put, List.setIfInBounds_toArray, List.set_cons_zero, List.set_cons_succ]
        refine gs_take (i := 10) (d := (some 58)) (v := ?_) rfl rfl (by kernel_rfl) (fun _ _ _ h => h) (by rfl) (by first | exact hT2 | exact hT1 | exact hT0) (fun w' hb' => ?_) ?_
        rotate_left
        · have hc := (AC.out _ hb').2; obtain ⟨k1, k2, k3, k4, k5⟩ := hc; (try go_simp); (try with_reducible rfl)
        try simp only [Act.put, List.setIfInBounds_toArray, List.set_cons_zero, List.set_cons_succ]
        refine gs_run (i := 0) rfl (by kernel_rfl) (by rfl) (fun K hK => ?_)
        have hc := cells3 q3
        go_simp
        refine hK _ _ ⟨hT0, ?_⟩
        clear hK K
        try simp only [Act.put, List.setIfInBounds_toArray, List.set_cons_zero, List.set_cons_succ]
        refine gs_run (i := 11) rfl (by kernel_rfl) (by rfl) (fun K hK => ?_)
        go_simp
        refine my.mono ?_
        rintro e w4 ⟨g4, lv4, rfl, ow4, hlv4⟩
        obtain ⟨a4, m4, c4, rfl⟩ := own_slice ow4
        have hT1 : w4.heap[b]? = wr.heap[b]? := (g4.block b (Nat.lt_of_lt_of_le lb sz3)).trans hS1
        have hM8 : w4.heap[m8]? = some (.cells #[.int .i64 7, .slice ao3 2 cap3, .slice aL L.length cL] 27 (0, 0)) := (g4.block _ (lt_of_block q3)).trans q3
        refine hK _ _ ⟨hT1, ?_⟩
        clear hK K
        try simp only [Act.put, List.setIfInBounds_toArray, List.set_cons_zero, List.set_cons_succ]
        refine gs_take (i := 12) (d := (some 47)) (v := ?_) rfl rfl (by kernel_rfl) (fun _ _ _ h => h) (by rfl) (by first | exact hT2 | exact hT1 | exact hT0) (fun w' hb' => ?_) ?_
        rotate_left
        · (try go_simp); (try with_reducible rfl)
        try simp only [Act.put, List.setIfInBounds_toArray, List.set_cons_zero, List.set_cons_succ]
        refine gs_take (i := 13) (d := (some 60)) (v := ?_) rfl rfl (by kernel_rfl) (fun _ _ _ h => h) (by rfl) (by first | exact hT2 | exact hT1 | exact hT0) (fun w' hb' => ?_) ?_
        rotate_left
        · (try go_simp); (try with_reducible rfl)
        try simp only [Act.put, List.setIfInBounds_toArray, List.set_cons_zero, List.set_cons_succ]
        refine gs_take (i := 14) (d := (some 61)) (v := ?_) rfl rfl (by kernel_rfl) (fun _ _ _ h => h) (by rfl) (by first | exact hT2 | exact hT1 | exact hT0) (fun w' hb' => ?_) ?_
        rotate_left
        · (try go_simp); (try with_reducible rfl)
        try simp only [Act.put, List.setIfInBounds_toArray, List.set_cons_zero, List.set_cons_succ]
        refine gs_run (i := 15) rfl (by kernel_rfl) (by rfl) (fun K hK => ?_)
        have hc := cells3 hM8
        have hf := block_frozen hM8
        have hT2 := (set3_old (w := w4) (u0 := .int .i64 7) (u1 := .slice ao3 2 cap3) (u2 := .slice a4 m4 c4) (by omega : b ≠ m8)).trans hT1
        go_simp
        refine hK _ _ ⟨hT2, ?_⟩
        clear hK K hc hf
        try simp only [Act.put, List.setIfInBounds_toArray, List.set_cons_zero, List.set_cons_succ]
        refine gs_done (by kernel_rfl) ?_
        have fin1 : Below W.heap.size W w4 := chain bel3.drew g4
        have rg4 := RG3.out.below (chain (Below.refl _ _).drew g4)
        have q9 := set3_new (u0 := .int .i64 7) (u1 := .slice ao3 2 cap3) (u2 := .slice a4 m4 c4) hM8
        go_wp2_with fail
        go_roundw
        case rel =>
          refine ⟨j + 1, by omega, by go_num, ((fin1.setCell hWm _).setCell hWm _).setCell hWm _, ?_, sv3, _, rg4.kept (fun k hk hown => set3_old (fun e => rg4.not_own hM8 (e ▸ hown))), q9, own_keepT ow4 (fun k hk => set3_old hk) hM8, NE4.out _ hlv4⟩
          have := g4.size
          simp at this ⊢
          omega
        case measure => simp [intOf]; omega
      · have hj2 : D1.take j = D1 := List.take_of_length_le (by omega)
        have VO := voices_any base B M 7 (badOf [5, 6]) sv L (.slice a3 100 c3) N s HS.out (by omega) wr rg (HT2.out.below (chain Be bel))
        have bel2 := chain Be bel
        obtain ⟨f1, f2, f3, f4, f5, f6⟩ := cells5 r5
        have RL := Lib.hid (own_rds HOW.out rg.wf (by omega))
        unfold St.v at VO
        clear hj2 hL hne ow rg
        go_wp2_with fail
        refine VO.mono ?_
        rintro e wv ⟨z, rfl, gv, rz⟩
        obtain ⟨az, cz, rfl, hzc, hzm, HZ⟩ := rdv_open rz
        have q9 := (gv.block _ (lt_of_block q8)).trans q8
        have r6 := (gv.block _ (lt_of_block r5)).trans r5
        have bel3 := chain bel2 gv
        have HVC := Lib.hid (fun (p : Nat) (hp : p < 64) (w' : World) (g : Below wr.heap.size wr w') => voice_any 7 (.slice ao3 2 cap3) (.slice aL L.length cL) (.slice a3 100 c3) L N (by omega) (by omega) s (p : Int) HS.out (i64_small p hp) w' ⟨_, _, _, rfl⟩ (RL.out.below g) (HT2.out.below (bel2.trans (g.mono bel2.size))))
        clear VO rz
        go_wp2_with fail
        go_loopw [12, 13] (fun k p wx => ∃ q : Nat, q ≤ 64 ∧ k = .int .i64 ((voicesN L N s q).length : Int) ∧ p = .int .i64 (q : Int) ∧ Below wv.heap.size wv wx) (fun _ p _ => 64 - (intOf p).toNat)
        case atStart => exact ⟨0, by omega, rfl, rfl, Below.refl _ _⟩
        case round =>
          obtain ⟨q, hq, rfl, rfl, gx⟩ := hrel
          by_cases hq2 : q < 64
          · have vc := HVC.out q hq2 wr (chain gv gx)
            rw [show decide (({ s with a := (q : Int) } : St) ∈ N ∧ ({ s with a := (q : Int) } : St) ∈ L) = spokeN L N s q from rfl] at vc
            have x8 := cells3 ((gx.block _ (lt_of_block q9)).trans q9)
            have x6 := cells5 ((gx.block _ (lt_of_block r6)).trans r6)
            have hsn := voices_snoc L N s q
            unfold St.v at vc
            cases hsp : spokeN L N s q with
            | false =>
              rw [hsp] at vc hsn
              have HSN := Lib.hid hsn
              clear hsn hsp
              go_wp2_with fail
              refine vc.mono ?_
              rintro e wy ⟨rfl, gy⟩
              go_wp2_with fail
              go_roundw
              case rel => exact ⟨q + 1, by omega, by rw [HSN.out]; simp, by go_num, chain gx gy⟩
              case measure => simp [intOf]; omega
            | true =>
              obtain ⟨hlt, hat⟩ := voices_at L N s q hq2 hsp
              rw [hsp] at vc hsn
              have hkl : (voicesN L N s (q + 1)).length = (voicesN L N s q).length + 1 := by rw [hsn]; simp
              obtain ⟨K, hK⟩ : ∃ K, K = (voicesN L N s q).length := ⟨_, rfl⟩
              obtain ⟨bz, oz, rfl, hbz, hzc2⟩ := HZ.out (by omega)
              have hz1 := hzc2 _ hlt
              rw [List.getElem?_eq_getElem hlt] at hat
              rw [Option.some.inj hat] at hz1
              rw [← hK] at hz1 hlt hkl
              try rw [← hK]
              have HKL := Lib.hid hkl
              have HKK := Lib.hid hK
              have hKq : K ≤ 64 := by have := voices_len L N s q; omega
              have hlt2 : ¬ ((voicesN L N s 64).length : Int) ≤ (K : Int) := by omega
              clear hsn hsp hat hkl hzc2 hK
              go_wp2_with fail
              refine vc.mono ?_
              rintro e wy ⟨rfl, gy⟩
              have hz2 := ((chain gx gy).cell (p := ⟨bz, oz + K, none⟩) hbz).trans hz1
              have hqq := int_eqb (rfl : (q : Int) = q)
              have hqn := int_eqn (rfl : (q : Int) = q)
              go_wp2_with fail
              go_roundw
              case rel => exact ⟨q + 1, by omega, by rw [HKL.out]; go_num, by go_num, chain gx gy⟩
              case measure => simp [intOf]; omega
          · obtain rfl : q = 64 := by omega
            have hqq := int_eqb (rfl : ((voicesN L N s 64).length : Int) = (voicesN L N s 64).length)
            go_wp2_with (go_at_call 9; refine (AW.out _).mono ?_; rintro e w3 ⟨rfl, g3⟩)
            go_ret
            exact ⟨rfl, chain (chain bel3 gx) g3⟩
end Go.Proofs.Ytojjpnkdblaidaa
