/- Lists of texts: what bytes are read as one. Written by wip/tools/gen1w.py. -/
import Derived.Test.YtlafmalgioffkaaL01V
import Derived.Laws.MakeOwn
namespace Go.Proofs.Ytlafmalgioffkaa
open Go.RowKit
set_option linter.unusedVariables false
set_option linter.unusedSimpArgs false
theorem most_bad {most : Int} (h : most < 0 ∨ 255 < most) : mostN most = 255 := if_pos h
theorem most_ok {most : Int} {M : Nat} (h : most = (M : Int)) (hM : M ≤ 255) : mostN most = M := by
  unfold mostN
  rw [if_neg (by omega)]; omega
theorem ret_list {v : Value} {a b a' b' : Int} (h : a = a') (h' : b = b') : Ending.returned (.tuple #[v, .int .i64 a, .int .i64 b]) = Ending.returned (.tuple #[v, .int .i64 a', .int .i64 b']) := by rw [h, h']
theorem take_done {b : List UInt8} {x n : Nat} : cutGoT b 0 x [] = ([], x, 0) := rfl
/-- A list that was read, and where. -/
def CutR (w : World) (r : List (List UInt8) × Nat × Nat) (e : Ending) (w' : World) : Prop := ∃ v, e = .returned (.tuple #[v, .int .i64 (r.2.1 : Int), .int .i64 (r.2.2 : Int)]) ∧ RdV w' v (r.1.map sv) ∧ Below w.heap.size w w'
theorem cutR_nil {w w' : World} {e' : Int} {e : Nat} (h : e' = (e : Int)) (bel : Below w.heap.size w w') : CutR w ([], 0, e) (.returned (.tuple #[.slice none 0 0, .int .i64 0, .int .i64 e'])) w' := ⟨_, by rw [h]; rfl, rdv_nil _, bel⟩
set_option maxRecDepth 100000 in
set_option maxHeartbeats 1000000 in
theorem cutList_neg (v : Value) (b : List UInt8) (most : Int) (hmost : most < 0) (w : World) (h : Rd w v b) (hb : b.length ≤ 2000) :
    Calls Try.prog 27 #[v, .int .i64 most] w (CutR w (if (cutL b).2.2 ≠ 0 then ([], 0, (cutL b).2.2) else if 255 < (cutL b).1 then ([], 0, 8) else cutGoT b (cutL b).1 (cutL b).2.1 [])) := by
  obtain ⟨u0, ui, uz0, uz1, uz2⟩ := info_parts u8info
  obtain ⟨i0, hi, hz0, hz1, hz2⟩ := info_parts strinfo
  obtain ⟨x, n, c, hc⟩ : ∃ x n c, cutL b = (x, n, c) := ⟨_, _, _, rfl⟩
  have hf := cutL_facts hc
  have CU := Lib.hid (fun w (h : Rd w v b) => cut_at v b x n c hc w h)
  rw [hc]
  simp only
  obtain ⟨R, hR⟩ : ∃ R, R = (if c ≠ 0 then ([], 0, c) else if 255 < x then ([], 0, 8) else cutGoT b x n [] : List (List UInt8) × Nat × Nat) := ⟨_, rfl⟩
  rw [← hR]
  have HR := Lib.hid hR
  have H := Lib.hid h
  obtain ⟨f1, f2, f3, f4, f5, f6⟩ := hf
  have hbm : b.length ≤ 9223372036854775807 := by omega
  have h' := h
  obtain ⟨ao, cap, rfl, hl, hm, -, -⟩ := h'
  clear hc hR h f4
  unfold maxLen at hm
  by_cases hc0 : c = 0
  · have hn0 := f5 hc0
    have hr1 := HR.out
    rw [if_neg (by simpa using hc0)] at hr1
    clear f5 f6 HR
    subst hc0
    by_cases hx : 255 < x
    · rw [if_pos hx] at hr1
      have HR := Lib.hid hr1
      clear hr1
      have hxi : (255 : Int) < (x : Int) := by omega
      go_enter Try.func27, Try.ntmps27
      go_wp2_with (go_at_call 18; refine (CU.out _ H.out).mono ?_; rintro e w' ⟨rfl, rfl⟩)
      go_ret3
      rw [HR.out]
      exact cutR_nil rfl (Below.refl _ _)
    · rw [if_neg hx] at hr1
      have HR := Lib.hid hr1
      clear hr1
      have hx2 : x ≤ 255 := by omega
      have hxi : (x : Int) ≤ 255 := by omega
      have hmk : ∀ u : World, (Instr.makeSlice 49 (.int .i64 0) (.int .u64 (x : Int))).run Try.prog u = .ok (.slice (some ⟨u.heap.size, 0, none⟩) 0 x) (u.alloc (.cells (madeCells #[.string ⟨#[]⟩] x) 9)) := fun u => by
        have h := run_make (P := Try.prog) u 49 9 i0 (.string ⟨#[]⟩) Try.underlying49 hi hz0 .i64 .u64 0 (x : Int) (by omega) (by omega) (by rw [hz2]; omega) (by omega)
        have e : ((x : Nat) : Int).toNat = x := by omega
        rw [e] at h
        simpa [hz1, Value.cells] using h
      go_enter Try.func27, Try.ntmps27
      go_wp2_with (go_at_call 18; refine (CU.out _ H.out).mono ?_; rintro e w' ⟨rfl, rfl⟩)
      have own0 : (w.alloc (.cells (madeCells #[.string ⟨#[]⟩] x) 9)).ownsRow w.heap.size 9 1 (.slice (some ⟨w.heap.size, 0, none⟩) 0 x) 0 [] := World.ownsRow_made w (madeCells #[.string ⟨#[]⟩] x) x (Nat.le_refl _) (by unfold maxLen; omega) (by simp [madeCells])
      go_loopw [8, 10, 11, 12, 13, 38] (fun at_ d _ _ _ q wr => ∃ (j A : Nat) (acc : List (List UInt8)), j ≤ x ∧ q = .int .u64 (j : Int) ∧ at_ = .int .i64 (A : Int) ∧ A ≤ b.length ∧ acc.length = j ∧ Hid (cutGoT b (x - j) A acc = cutGoT b x n []) ∧ wr.ownsRow w.heap.size 9 1 d acc.length (acc.map sv) ∧ Below w.heap.size w wr) (fun _ _ _ _ _ q _ => x - (intOf q).toNat)
      case atStart => exact ⟨0, n, [], Nat.zero_le _, rfl, rfl, f2, rfl, rfl, own0, (Below.refl _ _).alloc (Nat.le_refl _) _⟩
      case round =>
        obtain ⟨j, A, acc, hj, rfl, rfl, hA, hacc, hs, hown, bel⟩ := hrel
        by_cases hjx : j < x
        · have RB := Lib.hid (H.out.below bel (Nat.le_refl _))
          obtain ⟨s, m, e, ht⟩ : ∃ s m e, cutTextL (b.drop A) = (s, m, e) := ⟨_, _, _, rfl⟩
          obtain ⟨x', n', c', hc'⟩ : ∃ x n c, cutL (b.drop A) = (x, n, c) := ⟨_, _, _, rfl⟩
          have hdl : (b.drop A).length ≤ 2000 := by simp; omega
          have TF := cutTextL_fact ht
          have CT := fun v w (h : Rd w v (b.drop A)) => cutText_at v (b.drop A) x' n' c' hc' hdl w h
          rw [ht] at CT
          simp only at CT
          have hst := cutGoT_step b (x - (j + 1)) A acc ht
          rw [show x - (j + 1) + 1 = x - j by omega, hs.out] at hst
          have hdA : m ≤ b.length - A := by have := TF.1; simpa using this
          have CTH := Lib.hid CT
          clear ht hc' CT hdl hs own0 hmk
          rcases Nat.eq_zero_or_pos e with rfl | he
          · rw [if_neg (by simp)] at hst
            have HS : Hid (cutGoT b (x - (j + 1)) (A + m) (acc ++ [s]) = cutGoT b x n []) := hst.symm
            clear hst TF
            go_wp2_with (first
              | (with_reducible refine wpList_slice_from rfl 24 5 _ _ rfl u0 Try.underlying24 ui uz1 _ _ _ b rfl RB.out _ _ rfl A rfl (by omega) ?_; intro ao' cap' hr')
              | (go_at_call 23; refine (CTH.out _ _ hr').mono ?_; rintro e w' ⟨rfl, rfl⟩)
              | (at_builtin; refine wpList_app1 w rfl (.tmp 51) (.tmp 53) 49 rfl w.heap.size 9 i0 (.string ⟨#[]⟩) 16 Try.underlying49 hi hz0 hz1 hz2 rfl _ _ _ rfl hown _ (sv s) rfl rfl (by unfold maxLen; omega) (by omega) (Nat.le_refl _) bel ?_; intro v' w1 hown' hb'))
            exact ⟨⟨j + 1, A + m, acc ++ [s], by omega, by push_cast; rfl, by push_cast; rfl, by omega, by simp; omega, HS, by simpa using hown', hb'⟩, by simp [intOf]; omega⟩
          · rw [if_pos (by omega)] at hst
            have HS := Lib.hid hst
            have hei : 0 < (e : Int) := by omega
            have hen : ((e : Int) != 0) = true := by simpa using (by omega : ¬ e = 0)
            clear hst TF
            go_wp2_with (first
              | (with_reducible refine wpList_slice_from rfl 24 5 _ _ rfl u0 Try.underlying24 ui uz1 _ _ _ b rfl RB.out _ _ rfl A rfl (by omega) ?_; intro ao' cap' hr')
              | (go_at_call 23; refine (CTH.out _ _ hr').mono ?_; rintro e w' ⟨rfl, rfl⟩))
            go_ret3
            rw [HR.out, HS.out]
            exact cutR_nil rfl bel
        · obtain rfl : j = x := by omega
          have hfin : cutGoT b j n [] = (acc, A, 0) := by rw [← hs.out, Nat.sub_self]; rfl
          have HFI := Lib.hid hfin
          clear hfin hs own0 hmk
          go_wp2_with fail
          go_ret3
          rw [HR.out, HFI.out]
          exact ⟨_, rfl, own_rdv hown, bel⟩
  · have hr1 := HR.out
    rw [if_pos (by simpa using hc0)] at hr1
    have HR := Lib.hid hr1
    have hcn : ((c : Int) != 0) = true := by simpa using hc0
    clear hr1 f5 hc0
    go_enter Try.func27, Try.ntmps27
    go_wp2_with (go_at_call 18; refine (CU.out _ H.out).mono ?_; rintro e w' ⟨rfl, rfl⟩)
    go_ret3
    rw [HR.out]
    exact cutR_nil rfl (Below.refl _ _)
set_option maxRecDepth 100000 in
set_option maxHeartbeats 1000000 in
theorem cutList_big (v : Value) (b : List UInt8) (most : Int) (hmost : 255 < most) (hmm : most ≤ 9223372036854775807) (w : World) (h : Rd w v b) (hb : b.length ≤ 2000) :
    Calls Try.prog 27 #[v, .int .i64 most] w (CutR w (if (cutL b).2.2 ≠ 0 then ([], 0, (cutL b).2.2) else if 255 < (cutL b).1 then ([], 0, 8) else cutGoT b (cutL b).1 (cutL b).2.1 [])) := by
  obtain ⟨u0, ui, uz0, uz1, uz2⟩ := info_parts u8info
  obtain ⟨i0, hi, hz0, hz1, hz2⟩ := info_parts strinfo
  obtain ⟨x, n, c, hc⟩ : ∃ x n c, cutL b = (x, n, c) := ⟨_, _, _, rfl⟩
  have hf := cutL_facts hc
  have CU := Lib.hid (fun w (h : Rd w v b) => cut_at v b x n c hc w h)
  rw [hc]
  simp only
  obtain ⟨R, hR⟩ : ∃ R, R = (if c ≠ 0 then ([], 0, c) else if 255 < x then ([], 0, 8) else cutGoT b x n [] : List (List UInt8) × Nat × Nat) := ⟨_, rfl⟩
  rw [← hR]
  have HR := Lib.hid hR
  have H := Lib.hid h
  obtain ⟨f1, f2, f3, f4, f5, f6⟩ := hf
  have hbm : b.length ≤ 9223372036854775807 := by omega
  have h' := h
  obtain ⟨ao, cap, rfl, hl, hm, -, -⟩ := h'
  clear hc hR h f4
  unfold maxLen at hm
  by_cases hc0 : c = 0
  · have hn0 := f5 hc0
    have hr1 := HR.out
    rw [if_neg (by simpa using hc0)] at hr1
    clear f5 f6 HR
    subst hc0
    by_cases hx : 255 < x
    · rw [if_pos hx] at hr1
      have HR := Lib.hid hr1
      clear hr1
      have hxi : (255 : Int) < (x : Int) := by omega
      go_enter Try.func27, Try.ntmps27
      go_wp2_with (go_at_call 18; refine (CU.out _ H.out).mono ?_; rintro e w' ⟨rfl, rfl⟩)
      go_ret3
      rw [HR.out]
      exact cutR_nil rfl (Below.refl _ _)
    · rw [if_neg hx] at hr1
      have HR := Lib.hid hr1
      clear hr1
      have hx2 : x ≤ 255 := by omega
      have hxi : (x : Int) ≤ 255 := by omega
      have hmk : ∀ u : World, (Instr.makeSlice 49 (.int .i64 0) (.int .u64 (x : Int))).run Try.prog u = .ok (.slice (some ⟨u.heap.size, 0, none⟩) 0 x) (u.alloc (.cells (madeCells #[.string ⟨#[]⟩] x) 9)) := fun u => by
        have h := run_make (P := Try.prog) u 49 9 i0 (.string ⟨#[]⟩) Try.underlying49 hi hz0 .i64 .u64 0 (x : Int) (by omega) (by omega) (by rw [hz2]; omega) (by omega)
        have e : ((x : Nat) : Int).toNat = x := by omega
        rw [e] at h
        simpa [hz1, Value.cells] using h
      go_enter Try.func27, Try.ntmps27
      go_wp2_with (go_at_call 18; refine (CU.out _ H.out).mono ?_; rintro e w' ⟨rfl, rfl⟩)
      have own0 : (w.alloc (.cells (madeCells #[.string ⟨#[]⟩] x) 9)).ownsRow w.heap.size 9 1 (.slice (some ⟨w.heap.size, 0, none⟩) 0 x) 0 [] := World.ownsRow_made w (madeCells #[.string ⟨#[]⟩] x) x (Nat.le_refl _) (by unfold maxLen; omega) (by simp [madeCells])
      go_loopw [8, 10, 11, 12, 13, 38] (fun at_ d _ _ _ q wr => ∃ (j A : Nat) (acc : List (List UInt8)), j ≤ x ∧ q = .int .u64 (j : Int) ∧ at_ = .int .i64 (A : Int) ∧ A ≤ b.length ∧ acc.length = j ∧ Hid (cutGoT b (x - j) A acc = cutGoT b x n []) ∧ wr.ownsRow w.heap.size 9 1 d acc.length (acc.map sv) ∧ Below w.heap.size w wr) (fun _ _ _ _ _ q _ => x - (intOf q).toNat)
      case atStart => exact ⟨0, n, [], Nat.zero_le _, rfl, rfl, f2, rfl, rfl, own0, (Below.refl _ _).alloc (Nat.le_refl _) _⟩
      case round =>
        obtain ⟨j, A, acc, hj, rfl, rfl, hA, hacc, hs, hown, bel⟩ := hrel
        by_cases hjx : j < x
        · have RB := Lib.hid (H.out.below bel (Nat.le_refl _))
          obtain ⟨s, m, e, ht⟩ : ∃ s m e, cutTextL (b.drop A) = (s, m, e) := ⟨_, _, _, rfl⟩
          obtain ⟨x', n', c', hc'⟩ : ∃ x n c, cutL (b.drop A) = (x, n, c) := ⟨_, _, _, rfl⟩
          have hdl : (b.drop A).length ≤ 2000 := by simp; omega
          have TF := cutTextL_fact ht
          have CT := fun v w (h : Rd w v (b.drop A)) => cutText_at v (b.drop A) x' n' c' hc' hdl w h
          rw [ht] at CT
          simp only at CT
          have hst := cutGoT_step b (x - (j + 1)) A acc ht
          rw [show x - (j + 1) + 1 = x - j by omega, hs.out] at hst
          have hdA : m ≤ b.length - A := by have := TF.1; simpa using this
          have CTH := Lib.hid CT
          clear ht hc' CT hdl hs own0 hmk
          rcases Nat.eq_zero_or_pos e with rfl | he
          · rw [if_neg (by simp)] at hst
            have HS : Hid (cutGoT b (x - (j + 1)) (A + m) (acc ++ [s]) = cutGoT b x n []) := hst.symm
            clear hst TF
            go_wp2_with (first
              | (with_reducible refine wpList_slice_from rfl 24 5 _ _ rfl u0 Try.underlying24 ui uz1 _ _ _ b rfl RB.out _ _ rfl A rfl (by omega) ?_; intro ao' cap' hr')
              | (go_at_call 23; refine (CTH.out _ _ hr').mono ?_; rintro e w' ⟨rfl, rfl⟩)
              | (at_builtin; refine wpList_app1 w rfl (.tmp 51) (.tmp 53) 49 rfl w.heap.size 9 i0 (.string ⟨#[]⟩) 16 Try.underlying49 hi hz0 hz1 hz2 rfl _ _ _ rfl hown _ (sv s) rfl rfl (by unfold maxLen; omega) (by omega) (Nat.le_refl _) bel ?_; intro v' w1 hown' hb'))
            exact ⟨⟨j + 1, A + m, acc ++ [s], by omega, by push_cast; rfl, by push_cast; rfl, by omega, by simp; omega, HS, by simpa using hown', hb'⟩, by simp [intOf]; omega⟩
          · rw [if_pos (by omega)] at hst
            have HS := Lib.hid hst
            have hei : 0 < (e : Int) := by omega
            have hen : ((e : Int) != 0) = true := by simpa using (by omega : ¬ e = 0)
            clear hst TF
            go_wp2_with (first
              | (with_reducible refine wpList_slice_from rfl 24 5 _ _ rfl u0 Try.underlying24 ui uz1 _ _ _ b rfl RB.out _ _ rfl A rfl (by omega) ?_; intro ao' cap' hr')
              | (go_at_call 23; refine (CTH.out _ _ hr').mono ?_; rintro e w' ⟨rfl, rfl⟩))
            go_ret3
            rw [HR.out, HS.out]
            exact cutR_nil rfl bel
        · obtain rfl : j = x := by omega
          have hfin : cutGoT b j n [] = (acc, A, 0) := by rw [← hs.out, Nat.sub_self]; rfl
          have HFI := Lib.hid hfin
          clear hfin hs own0 hmk
          go_wp2_with fail
          go_ret3
          rw [HR.out, HFI.out]
          exact ⟨_, rfl, own_rdv hown, bel⟩
  · have hr1 := HR.out
    rw [if_pos (by simpa using hc0)] at hr1
    have HR := Lib.hid hr1
    have hcn : ((c : Int) != 0) = true := by simpa using hc0
    clear hr1 f5 hc0
    go_enter Try.func27, Try.ntmps27
    go_wp2_with (go_at_call 18; refine (CU.out _ H.out).mono ?_; rintro e w' ⟨rfl, rfl⟩)
    go_ret3
    rw [HR.out]
    exact cutR_nil rfl (Below.refl _ _)
set_option maxRecDepth 100000 in
set_option maxHeartbeats 1000000 in
theorem cutList_mid (v : Value) (b : List UInt8) (most : Int) (M : Nat) (hM : M ≤ 255) (hmost : most = (M : Int)) (w : World) (h : Rd w v b) (hb : b.length ≤ 2000) :
    Calls Try.prog 27 #[v, .int .i64 most] w (CutR w (if (cutL b).2.2 ≠ 0 then ([], 0, (cutL b).2.2) else if M < (cutL b).1 then ([], 0, 8) else cutGoT b (cutL b).1 (cutL b).2.1 [])) := by
  obtain ⟨u0, ui, uz0, uz1, uz2⟩ := info_parts u8info
  obtain ⟨i0, hi, hz0, hz1, hz2⟩ := info_parts strinfo
  obtain ⟨x, n, c, hc⟩ : ∃ x n c, cutL b = (x, n, c) := ⟨_, _, _, rfl⟩
  have hf := cutL_facts hc
  have CU := Lib.hid (fun w (h : Rd w v b) => cut_at v b x n c hc w h)
  rw [hc]
  simp only
  obtain ⟨R, hR⟩ : ∃ R, R = (if c ≠ 0 then ([], 0, c) else if M < x then ([], 0, 8) else cutGoT b x n [] : List (List UInt8) × Nat × Nat) := ⟨_, rfl⟩
  rw [← hR]
  have HR := Lib.hid hR
  have H := Lib.hid h
  obtain ⟨f1, f2, f3, f4, f5, f6⟩ := hf
  have hbm : b.length ≤ 9223372036854775807 := by omega
  have h' := h
  obtain ⟨ao, cap, rfl, hl, hm, -, -⟩ := h'
  clear hc hR h f4
  subst hmost
  unfold maxLen at hm
  by_cases hc0 : c = 0
  · have hn0 := f5 hc0
    have hr1 := HR.out
    rw [if_neg (by simpa using hc0)] at hr1
    clear f5 f6 HR
    subst hc0
    by_cases hx : M < x
    · rw [if_pos hx] at hr1
      have HR := Lib.hid hr1
      clear hr1
      have hxi : (M : Int) < (x : Int) := by omega
      go_enter Try.func27, Try.ntmps27
      go_wp2_with (go_at_call 18; refine (CU.out _ H.out).mono ?_; rintro e w' ⟨rfl, rfl⟩)
      go_ret3
      rw [HR.out]
      exact cutR_nil rfl (Below.refl _ _)
    · rw [if_neg hx] at hr1
      have HR := Lib.hid hr1
      clear hr1
      have hx2 : x ≤ M := by omega
      have hxi : (x : Int) ≤ (M : Int) := by omega
      have hmk : ∀ u : World, (Instr.makeSlice 49 (.int .i64 0) (.int .u64 (x : Int))).run Try.prog u = .ok (.slice (some ⟨u.heap.size, 0, none⟩) 0 x) (u.alloc (.cells (madeCells #[.string ⟨#[]⟩] x) 9)) := fun u => by
        have h := run_make (P := Try.prog) u 49 9 i0 (.string ⟨#[]⟩) Try.underlying49 hi hz0 .i64 .u64 0 (x : Int) (by omega) (by omega) (by rw [hz2]; omega) (by omega)
        have e : ((x : Nat) : Int).toNat = x := by omega
        rw [e] at h
        simpa [hz1, Value.cells] using h
      go_enter Try.func27, Try.ntmps27
      go_wp2_with (go_at_call 18; refine (CU.out _ H.out).mono ?_; rintro e w' ⟨rfl, rfl⟩)
      have own0 : (w.alloc (.cells (madeCells #[.string ⟨#[]⟩] x) 9)).ownsRow w.heap.size 9 1 (.slice (some ⟨w.heap.size, 0, none⟩) 0 x) 0 [] := World.ownsRow_made w (madeCells #[.string ⟨#[]⟩] x) x (Nat.le_refl _) (by unfold maxLen; omega) (by simp [madeCells])
      go_loopw [8, 10, 11, 12, 13, 38] (fun at_ d _ _ _ q wr => ∃ (j A : Nat) (acc : List (List UInt8)), j ≤ x ∧ q = .int .u64 (j : Int) ∧ at_ = .int .i64 (A : Int) ∧ A ≤ b.length ∧ acc.length = j ∧ Hid (cutGoT b (x - j) A acc = cutGoT b x n []) ∧ wr.ownsRow w.heap.size 9 1 d acc.length (acc.map sv) ∧ Below w.heap.size w wr) (fun _ _ _ _ _ q _ => x - (intOf q).toNat)
      case atStart => exact ⟨0, n, [], Nat.zero_le _, rfl, rfl, f2, rfl, rfl, own0, (Below.refl _ _).alloc (Nat.le_refl _) _⟩
      case round =>
        obtain ⟨j, A, acc, hj, rfl, rfl, hA, hacc, hs, hown, bel⟩ := hrel
        by_cases hjx : j < x
        · have RB := Lib.hid (H.out.below bel (Nat.le_refl _))
          obtain ⟨s, m, e, ht⟩ : ∃ s m e, cutTextL (b.drop A) = (s, m, e) := ⟨_, _, _, rfl⟩
          obtain ⟨x', n', c', hc'⟩ : ∃ x n c, cutL (b.drop A) = (x, n, c) := ⟨_, _, _, rfl⟩
          have hdl : (b.drop A).length ≤ 2000 := by simp; omega
          have TF := cutTextL_fact ht
          have CT := fun v w (h : Rd w v (b.drop A)) => cutText_at v (b.drop A) x' n' c' hc' hdl w h
          rw [ht] at CT
          simp only at CT
          have hst := cutGoT_step b (x - (j + 1)) A acc ht
          rw [show x - (j + 1) + 1 = x - j by omega, hs.out] at hst
          have hdA : m ≤ b.length - A := by have := TF.1; simpa using this
          have CTH := Lib.hid CT
          clear ht hc' CT hdl hs own0 hmk
          rcases Nat.eq_zero_or_pos e with rfl | he
          · rw [if_neg (by simp)] at hst
            have HS : Hid (cutGoT b (x - (j + 1)) (A + m) (acc ++ [s]) = cutGoT b x n []) := hst.symm
            clear hst TF
            go_wp2_with (first
              | (with_reducible refine wpList_slice_from rfl 24 5 _ _ rfl u0 Try.underlying24 ui uz1 _ _ _ b rfl RB.out _ _ rfl A rfl (by omega) ?_; intro ao' cap' hr')
              | (go_at_call 23; refine (CTH.out _ _ hr').mono ?_; rintro e w' ⟨rfl, rfl⟩)
              | (at_builtin; refine wpList_app1 w rfl (.tmp 51) (.tmp 53) 49 rfl w.heap.size 9 i0 (.string ⟨#[]⟩) 16 Try.underlying49 hi hz0 hz1 hz2 rfl _ _ _ rfl hown _ (sv s) rfl rfl (by unfold maxLen; omega) (by omega) (Nat.le_refl _) bel ?_; intro v' w1 hown' hb'))
            exact ⟨⟨j + 1, A + m, acc ++ [s], by omega, by push_cast; rfl, by push_cast; rfl, by omega, by simp; omega, HS, by simpa using hown', hb'⟩, by simp [intOf]; omega⟩
          · rw [if_pos (by omega)] at hst
            have HS := Lib.hid hst
            have hei : 0 < (e : Int) := by omega
            have hen : ((e : Int) != 0) = true := by simpa using (by omega : ¬ e = 0)
            clear hst TF
            go_wp2_with (first
              | (with_reducible refine wpList_slice_from rfl 24 5 _ _ rfl u0 Try.underlying24 ui uz1 _ _ _ b rfl RB.out _ _ rfl A rfl (by omega) ?_; intro ao' cap' hr')
              | (go_at_call 23; refine (CTH.out _ _ hr').mono ?_; rintro e w' ⟨rfl, rfl⟩))
            go_ret3
            rw [HR.out, HS.out]
            exact cutR_nil rfl bel
        · obtain rfl : j = x := by omega
          have hfin : cutGoT b j n [] = (acc, A, 0) := by rw [← hs.out, Nat.sub_self]; rfl
          have HFI := Lib.hid hfin
          clear hfin hs own0 hmk
          go_wp2_with fail
          go_ret3
          rw [HR.out, HFI.out]
          exact ⟨_, rfl, own_rdv hown, bel⟩
  · have hr1 := HR.out
    rw [if_pos (by simpa using hc0)] at hr1
    have HR := Lib.hid hr1
    have hcn : ((c : Int) != 0) = true := by simpa using hc0
    clear hr1 f5 hc0
    go_enter Try.func27, Try.ntmps27
    go_wp2_with (go_at_call 18; refine (CU.out _ H.out).mono ?_; rintro e w' ⟨rfl, rfl⟩)
    go_ret3
    rw [HR.out]
    exact cutR_nil rfl (Below.refl _ _)
def lenOf : Value → Nat
  | .slice _ n _ => n
  | _ => 0
set_option maxRecDepth 100000 in
set_option maxHeartbeats 1000000 in
theorem refCutList_neg (b : List UInt8) (most : Int) (hmost : most < 0) (w : World) (hb : b.length ≤ 2000) :
    Calls Try.prog 28 #[.string (str b), .int .i64 most] w (CutR w (if (cutL b).2.2 ≠ 0 then ([], 0, (cutL b).2.2) else if 255 < (cutL b).1 then ([], 0, 8) else cutGoT b (cutL b).1 (cutL b).2.1 [])) := by
  obtain ⟨i0, hi, hz0, hz1, hz2⟩ := info_parts strinfo
  obtain ⟨x, n, c, hc⟩ : ∃ x n c, cutL b = (x, n, c) := ⟨_, _, _, rfl⟩
  have hf := cutL_facts hc
  have CU := Lib.hid (fun w => refCut_at b x n c hc (by unfold maxLen; omega) w)
  have hzb : (str b).size = b.length := str_size b
  rw [hc]
  simp only
  obtain ⟨R, hR⟩ : ∃ R, R = (if c ≠ 0 then ([], 0, c) else if 255 < x then ([], 0, 8) else cutGoT b x n [] : List (List UInt8) × Nat × Nat) := ⟨_, rfl⟩
  rw [← hR]
  have HR := Lib.hid hR
  obtain ⟨f1, f2, f3, f4, f5, f6⟩ := hf
  clear hc hR f4

  by_cases hc0 : c = 0
  · have hn0 := f5 hc0
    have hr1 := HR.out
    rw [if_neg (by simpa using hc0)] at hr1
    clear f5 f6 HR
    subst hc0
    by_cases hx : 255 < x
    · rw [if_pos hx] at hr1
      have HR := Lib.hid hr1
      clear hr1
      have hxi : (255 : Int) < (x : Int) := by omega
      go_enter Try.func28, Try.ntmps28
      go_wp2_with (go_at_call 20; refine (CU.out _).mono ?_; rintro e w' ⟨rfl, rfl⟩)
      go_ret3
      rw [HR.out]
      exact cutR_nil rfl (Below.refl _ _)
    · rw [if_neg hx] at hr1
      have HR := Lib.hid hr1
      clear hr1
      have hx2 : x ≤ 255 := by omega
      have hxi : (x : Int) ≤ (255 : Int) := by omega
      go_enter Try.func28, Try.ntmps28
      go_wp2_with (go_at_call 20; refine (CU.out _).mono ?_; rintro e w' ⟨rfl, rfl⟩)
      go_loopw [8, 10, 11, 12, 13] (fun at_ d _ _ _ wr => ∃ (j A cap : Nat) (ao : Option Addr) (acc : List (List UInt8)), j ≤ x ∧ d = .slice ao j cap ∧ at_ = .int .i64 (A : Int) ∧ A ≤ b.length ∧ acc.length = j ∧ Hid (cutGoT b (x - j) A acc = cutGoT b x n []) ∧ wr.ownsRow w.heap.size 9 1 (.slice ao j cap) acc.length (acc.map sv) ∧ Below w.heap.size w wr) (fun _ d _ _ _ _ => x - lenOf d)
      case atStart => exact ⟨0, n, 0, none, [], Nat.zero_le _, rfl, rfl, f2, rfl, rfl, World.ownsRow_nil _ _ _ _, Below.refl _ _⟩
      case round =>
        obtain ⟨j, A, cap, ao, acc, hj, rfl, rfl, hA, hacc, hs, hown, bel⟩ := hrel
        by_cases hjx : j < x
        · obtain ⟨s, m, e, ht⟩ : ∃ s m e, cutTextL (b.drop A) = (s, m, e) := ⟨_, _, _, rfl⟩
          obtain ⟨x', n', c', hc'⟩ : ∃ x n c, cutL (b.drop A) = (x, n, c) := ⟨_, _, _, rfl⟩
          have hdl : (b.drop A).length ≤ 2000 := by simp; omega
          have TF := cutTextL_fact ht
          have CT := fun w => refCutText_at (b.drop A) x' n' c' hc' hdl w
          rw [ht] at CT
          simp only at CT
          have hst := cutGoT_step b (x - (j + 1)) A acc ht
          rw [show x - (j + 1) + 1 = x - j by omega, hs.out] at hst
          have hdA : m ≤ b.length - A := by have := TF.1; simpa using this
          have hex : (str b).extract A b.length = str (b.drop A) := by rw [str_extract]; rw [List.take_of_length_le (by simp)]
          have CTH := Lib.hid CT
          clear ht hc' CT hdl hs
          rcases Nat.eq_zero_or_pos e with rfl | he
          · rw [if_neg (by simp)] at hst
            have HS : Hid (cutGoT b (x - (j + 1)) (A + m) (acc ++ [s]) = cutGoT b x n []) := hst.symm
            clear hst TF
            go_wp2_with (first
              | (go_at_call 24; refine (CTH.out _).mono ?_; rintro e w' ⟨rfl, rfl⟩)
              | (at_builtin; refine wpList_app1 w rfl (.tmp 49) (.tmp 51) 49 rfl w.heap.size 9 i0 (.string ⟨#[]⟩) 16 Try.underlying49 hi hz0 hz1 hz2 rfl _ _ _ rfl hown _ (sv s) rfl rfl (by unfold maxLen; omega) (by omega) (Nat.le_refl _) bel ?_; intro v' w1 hown' hb'))
            rw [hacc] at hown'
            obtain ⟨g', cap', rfl, _, _⟩ := slice_of_own hown' (by omega)
            exact ⟨⟨j + 1, A + m, cap', some ⟨g', 0, none⟩, acc ++ [s], by omega, rfl, by push_cast; rfl, by omega, by simp; omega, HS, by simpa [hacc] using hown', hb'⟩, by simp [lenOf]; omega⟩
          · rw [if_pos (by omega)] at hst
            have HS := Lib.hid hst
            have hei : 0 < (e : Int) := by omega
            have hen : ((e : Int) != 0) = true := by simpa using (by omega : ¬ e = 0)
            clear hst TF
            go_wp2_with (go_at_call 24; refine (CTH.out _).mono ?_; rintro e w' ⟨rfl, rfl⟩)
            go_ret3
            rw [HR.out, HS.out]
            exact cutR_nil rfl bel
        · obtain rfl : j = x := by omega
          have hfin : cutGoT b j n [] = (acc, A, 0) := by rw [← hs.out, Nat.sub_self]; rfl
          have HFI := Lib.hid hfin
          clear hfin hs
          go_wp2_with fail
          go_ret3
          rw [HR.out, HFI.out]
          exact ⟨_, rfl, own_rdv hown, bel⟩
  · have hr1 := HR.out
    rw [if_pos (by simpa using hc0)] at hr1
    have HR := Lib.hid hr1
    have hcn : ((c : Int) != 0) = true := by simpa using hc0
    clear hr1 f5 hc0
    go_enter Try.func28, Try.ntmps28
    go_wp2_with (go_at_call 20; refine (CU.out _).mono ?_; rintro e w' ⟨rfl, rfl⟩)
    go_ret3
    rw [HR.out]
    exact cutR_nil rfl (Below.refl _ _)
set_option maxRecDepth 100000 in
set_option maxHeartbeats 1000000 in
theorem refCutList_big (b : List UInt8) (most : Int) (hmost : 255 < most) (hmm : most ≤ 9223372036854775807) (w : World) (hb : b.length ≤ 2000) :
    Calls Try.prog 28 #[.string (str b), .int .i64 most] w (CutR w (if (cutL b).2.2 ≠ 0 then ([], 0, (cutL b).2.2) else if 255 < (cutL b).1 then ([], 0, 8) else cutGoT b (cutL b).1 (cutL b).2.1 [])) := by
  obtain ⟨i0, hi, hz0, hz1, hz2⟩ := info_parts strinfo
  obtain ⟨x, n, c, hc⟩ : ∃ x n c, cutL b = (x, n, c) := ⟨_, _, _, rfl⟩
  have hf := cutL_facts hc
  have CU := Lib.hid (fun w => refCut_at b x n c hc (by unfold maxLen; omega) w)
  have hzb : (str b).size = b.length := str_size b
  rw [hc]
  simp only
  obtain ⟨R, hR⟩ : ∃ R, R = (if c ≠ 0 then ([], 0, c) else if 255 < x then ([], 0, 8) else cutGoT b x n [] : List (List UInt8) × Nat × Nat) := ⟨_, rfl⟩
  rw [← hR]
  have HR := Lib.hid hR
  obtain ⟨f1, f2, f3, f4, f5, f6⟩ := hf
  clear hc hR f4

  by_cases hc0 : c = 0
  · have hn0 := f5 hc0
    have hr1 := HR.out
    rw [if_neg (by simpa using hc0)] at hr1
    clear f5 f6 HR
    subst hc0
    by_cases hx : 255 < x
    · rw [if_pos hx] at hr1
      have HR := Lib.hid hr1
      clear hr1
      have hxi : (255 : Int) < (x : Int) := by omega
      go_enter Try.func28, Try.ntmps28
      go_wp2_with (go_at_call 20; refine (CU.out _).mono ?_; rintro e w' ⟨rfl, rfl⟩)
      go_ret3
      rw [HR.out]
      exact cutR_nil rfl (Below.refl _ _)
    · rw [if_neg hx] at hr1
      have HR := Lib.hid hr1
      clear hr1
      have hx2 : x ≤ 255 := by omega
      have hxi : (x : Int) ≤ (255 : Int) := by omega
      go_enter Try.func28, Try.ntmps28
      go_wp2_with (go_at_call 20; refine (CU.out _).mono ?_; rintro e w' ⟨rfl, rfl⟩)
      go_loopw [8, 10, 11, 12, 13] (fun at_ d _ _ _ wr => ∃ (j A cap : Nat) (ao : Option Addr) (acc : List (List UInt8)), j ≤ x ∧ d = .slice ao j cap ∧ at_ = .int .i64 (A : Int) ∧ A ≤ b.length ∧ acc.length = j ∧ Hid (cutGoT b (x - j) A acc = cutGoT b x n []) ∧ wr.ownsRow w.heap.size 9 1 (.slice ao j cap) acc.length (acc.map sv) ∧ Below w.heap.size w wr) (fun _ d _ _ _ _ => x - lenOf d)
      case atStart => exact ⟨0, n, 0, none, [], Nat.zero_le _, rfl, rfl, f2, rfl, rfl, World.ownsRow_nil _ _ _ _, Below.refl _ _⟩
      case round =>
        obtain ⟨j, A, cap, ao, acc, hj, rfl, rfl, hA, hacc, hs, hown, bel⟩ := hrel
        by_cases hjx : j < x
        · obtain ⟨s, m, e, ht⟩ : ∃ s m e, cutTextL (b.drop A) = (s, m, e) := ⟨_, _, _, rfl⟩
          obtain ⟨x', n', c', hc'⟩ : ∃ x n c, cutL (b.drop A) = (x, n, c) := ⟨_, _, _, rfl⟩
          have hdl : (b.drop A).length ≤ 2000 := by simp; omega
          have TF := cutTextL_fact ht
          have CT := fun w => refCutText_at (b.drop A) x' n' c' hc' hdl w
          rw [ht] at CT
          simp only at CT
          have hst := cutGoT_step b (x - (j + 1)) A acc ht
          rw [show x - (j + 1) + 1 = x - j by omega, hs.out] at hst
          have hdA : m ≤ b.length - A := by have := TF.1; simpa using this
          have hex : (str b).extract A b.length = str (b.drop A) := by rw [str_extract]; rw [List.take_of_length_le (by simp)]
          have CTH := Lib.hid CT
          clear ht hc' CT hdl hs
          rcases Nat.eq_zero_or_pos e with rfl | he
          · rw [if_neg (by simp)] at hst
            have HS : Hid (cutGoT b (x - (j + 1)) (A + m) (acc ++ [s]) = cutGoT b x n []) := hst.symm
            clear hst TF
            go_wp2_with (first
              | (go_at_call 24; refine (CTH.out _).mono ?_; rintro e w' ⟨rfl, rfl⟩)
              | (at_builtin; refine wpList_app1 w rfl (.tmp 49) (.tmp 51) 49 rfl w.heap.size 9 i0 (.string ⟨#[]⟩) 16 Try.underlying49 hi hz0 hz1 hz2 rfl _ _ _ rfl hown _ (sv s) rfl rfl (by unfold maxLen; omega) (by omega) (Nat.le_refl _) bel ?_; intro v' w1 hown' hb'))
            rw [hacc] at hown'
            obtain ⟨g', cap', rfl, _, _⟩ := slice_of_own hown' (by omega)
            exact ⟨⟨j + 1, A + m, cap', some ⟨g', 0, none⟩, acc ++ [s], by omega, rfl, by push_cast; rfl, by omega, by simp; omega, HS, by simpa [hacc] using hown', hb'⟩, by simp [lenOf]; omega⟩
          · rw [if_pos (by omega)] at hst
            have HS := Lib.hid hst
            have hei : 0 < (e : Int) := by omega
            have hen : ((e : Int) != 0) = true := by simpa using (by omega : ¬ e = 0)
            clear hst TF
            go_wp2_with (go_at_call 24; refine (CTH.out _).mono ?_; rintro e w' ⟨rfl, rfl⟩)
            go_ret3
            rw [HR.out, HS.out]
            exact cutR_nil rfl bel
        · obtain rfl : j = x := by omega
          have hfin : cutGoT b j n [] = (acc, A, 0) := by rw [← hs.out, Nat.sub_self]; rfl
          have HFI := Lib.hid hfin
          clear hfin hs
          go_wp2_with fail
          go_ret3
          rw [HR.out, HFI.out]
          exact ⟨_, rfl, own_rdv hown, bel⟩
  · have hr1 := HR.out
    rw [if_pos (by simpa using hc0)] at hr1
    have HR := Lib.hid hr1
    have hcn : ((c : Int) != 0) = true := by simpa using hc0
    clear hr1 f5 hc0
    go_enter Try.func28, Try.ntmps28
    go_wp2_with (go_at_call 20; refine (CU.out _).mono ?_; rintro e w' ⟨rfl, rfl⟩)
    go_ret3
    rw [HR.out]
    exact cutR_nil rfl (Below.refl _ _)
set_option maxRecDepth 100000 in
set_option maxHeartbeats 1000000 in
theorem refCutList_mid (b : List UInt8) (most : Int) (M : Nat) (hM : M ≤ 255) (hmost : most = (M : Int)) (w : World) (hb : b.length ≤ 2000) :
    Calls Try.prog 28 #[.string (str b), .int .i64 most] w (CutR w (if (cutL b).2.2 ≠ 0 then ([], 0, (cutL b).2.2) else if M < (cutL b).1 then ([], 0, 8) else cutGoT b (cutL b).1 (cutL b).2.1 [])) := by
  obtain ⟨i0, hi, hz0, hz1, hz2⟩ := info_parts strinfo
  obtain ⟨x, n, c, hc⟩ : ∃ x n c, cutL b = (x, n, c) := ⟨_, _, _, rfl⟩
  have hf := cutL_facts hc
  have CU := Lib.hid (fun w => refCut_at b x n c hc (by unfold maxLen; omega) w)
  have hzb : (str b).size = b.length := str_size b
  rw [hc]
  simp only
  obtain ⟨R, hR⟩ : ∃ R, R = (if c ≠ 0 then ([], 0, c) else if M < x then ([], 0, 8) else cutGoT b x n [] : List (List UInt8) × Nat × Nat) := ⟨_, rfl⟩
  rw [← hR]
  have HR := Lib.hid hR
  obtain ⟨f1, f2, f3, f4, f5, f6⟩ := hf
  clear hc hR f4
  subst hmost
  by_cases hc0 : c = 0
  · have hn0 := f5 hc0
    have hr1 := HR.out
    rw [if_neg (by simpa using hc0)] at hr1
    clear f5 f6 HR
    subst hc0
    by_cases hx : M < x
    · rw [if_pos hx] at hr1
      have HR := Lib.hid hr1
      clear hr1
      have hxi : (M : Int) < (x : Int) := by omega
      go_enter Try.func28, Try.ntmps28
      go_wp2_with (go_at_call 20; refine (CU.out _).mono ?_; rintro e w' ⟨rfl, rfl⟩)
      go_ret3
      rw [HR.out]
      exact cutR_nil rfl (Below.refl _ _)
    · rw [if_neg hx] at hr1
      have HR := Lib.hid hr1
      clear hr1
      have hx2 : x ≤ M := by omega
      have hxi : (x : Int) ≤ (M : Int) := by omega
      go_enter Try.func28, Try.ntmps28
      go_wp2_with (go_at_call 20; refine (CU.out _).mono ?_; rintro e w' ⟨rfl, rfl⟩)
      go_loopw [8, 10, 11, 12, 13] (fun at_ d _ _ _ wr => ∃ (j A cap : Nat) (ao : Option Addr) (acc : List (List UInt8)), j ≤ x ∧ d = .slice ao j cap ∧ at_ = .int .i64 (A : Int) ∧ A ≤ b.length ∧ acc.length = j ∧ Hid (cutGoT b (x - j) A acc = cutGoT b x n []) ∧ wr.ownsRow w.heap.size 9 1 (.slice ao j cap) acc.length (acc.map sv) ∧ Below w.heap.size w wr) (fun _ d _ _ _ _ => x - lenOf d)
      case atStart => exact ⟨0, n, 0, none, [], Nat.zero_le _, rfl, rfl, f2, rfl, rfl, World.ownsRow_nil _ _ _ _, Below.refl _ _⟩
      case round =>
        obtain ⟨j, A, cap, ao, acc, hj, rfl, rfl, hA, hacc, hs, hown, bel⟩ := hrel
        by_cases hjx : j < x
        · obtain ⟨s, m, e, ht⟩ : ∃ s m e, cutTextL (b.drop A) = (s, m, e) := ⟨_, _, _, rfl⟩
          obtain ⟨x', n', c', hc'⟩ : ∃ x n c, cutL (b.drop A) = (x, n, c) := ⟨_, _, _, rfl⟩
          have hdl : (b.drop A).length ≤ 2000 := by simp; omega
          have TF := cutTextL_fact ht
          have CT := fun w => refCutText_at (b.drop A) x' n' c' hc' hdl w
          rw [ht] at CT
          simp only at CT
          have hst := cutGoT_step b (x - (j + 1)) A acc ht
          rw [show x - (j + 1) + 1 = x - j by omega, hs.out] at hst
          have hdA : m ≤ b.length - A := by have := TF.1; simpa using this
          have hex : (str b).extract A b.length = str (b.drop A) := by rw [str_extract]; rw [List.take_of_length_le (by simp)]
          have CTH := Lib.hid CT
          clear ht hc' CT hdl hs
          rcases Nat.eq_zero_or_pos e with rfl | he
          · rw [if_neg (by simp)] at hst
            have HS : Hid (cutGoT b (x - (j + 1)) (A + m) (acc ++ [s]) = cutGoT b x n []) := hst.symm
            clear hst TF
            go_wp2_with (first
              | (go_at_call 24; refine (CTH.out _).mono ?_; rintro e w' ⟨rfl, rfl⟩)
              | (at_builtin; refine wpList_app1 w rfl (.tmp 49) (.tmp 51) 49 rfl w.heap.size 9 i0 (.string ⟨#[]⟩) 16 Try.underlying49 hi hz0 hz1 hz2 rfl _ _ _ rfl hown _ (sv s) rfl rfl (by unfold maxLen; omega) (by omega) (Nat.le_refl _) bel ?_; intro v' w1 hown' hb'))
            rw [hacc] at hown'
            obtain ⟨g', cap', rfl, _, _⟩ := slice_of_own hown' (by omega)
            exact ⟨⟨j + 1, A + m, cap', some ⟨g', 0, none⟩, acc ++ [s], by omega, rfl, by push_cast; rfl, by omega, by simp; omega, HS, by simpa [hacc] using hown', hb'⟩, by simp [lenOf]; omega⟩
          · rw [if_pos (by omega)] at hst
            have HS := Lib.hid hst
            have hei : 0 < (e : Int) := by omega
            have hen : ((e : Int) != 0) = true := by simpa using (by omega : ¬ e = 0)
            clear hst TF
            go_wp2_with (go_at_call 24; refine (CTH.out _).mono ?_; rintro e w' ⟨rfl, rfl⟩)
            go_ret3
            rw [HR.out, HS.out]
            exact cutR_nil rfl bel
        · obtain rfl : j = x := by omega
          have hfin : cutGoT b j n [] = (acc, A, 0) := by rw [← hs.out, Nat.sub_self]; rfl
          have HFI := Lib.hid hfin
          clear hfin hs
          go_wp2_with fail
          go_ret3
          rw [HR.out, HFI.out]
          exact ⟨_, rfl, own_rdv hown, bel⟩
  · have hr1 := HR.out
    rw [if_pos (by simpa using hc0)] at hr1
    have HR := Lib.hid hr1
    have hcn : ((c : Int) != 0) = true := by simpa using hc0
    clear hr1 f5 hc0
    go_enter Try.func28, Try.ntmps28
    go_wp2_with (go_at_call 20; refine (CU.out _).mono ?_; rintro e w' ⟨rfl, rfl⟩)
    go_ret3
    rw [HR.out]
    exact cutR_nil rfl (Below.refl _ _)
theorem cutList_any (v : Value) (b : List UInt8) (most : Int) (hI : I64 most) (w : World) (h : Rd w v b) (hb : b.length ≤ 2000) : Calls Try.prog 27 #[v, .int .i64 most] w (CutR w (cutListL b most)) := by
  unfold cutListL
  rcases (show most < 0 ∨ 255 < most ∨ (0 ≤ most ∧ most ≤ 255) by omega) with hm | hm | ⟨hm, hm2⟩
  · rw [most_bad (.inl hm)]; exact cutList_neg v b most hm w h hb
  · rw [most_bad (.inr hm)]; exact cutList_big v b most hm hI.2 w h hb
  · rw [most_ok (M := most.toNat) (by omega) (by omega)]; exact cutList_mid v b most most.toNat (by omega) (by omega) w h hb
theorem refCutList_any (b : List UInt8) (most : Int) (hI : I64 most) (w : World) (hb : b.length ≤ 2000) : Calls Try.prog 28 #[.string (str b), .int .i64 most] w (CutR w (cutListL b most)) := by
  unfold cutListL
  rcases (show most < 0 ∨ 255 < most ∨ (0 ≤ most ∧ most ≤ 255) by omega) with hm | hm | ⟨hm, hm2⟩
  · rw [most_bad (.inl hm)]; exact refCutList_neg b most hm w hb
  · rw [most_bad (.inr hm)]; exact refCutList_big b most hm hI.2 w hb
  · rw [most_ok (M := most.toNat) (by omega) (by omega)]; exact refCutList_mid b most most.toNat (by omega) (by omega) w hb
end Go.Proofs.Ytlafmalgioffkaa
