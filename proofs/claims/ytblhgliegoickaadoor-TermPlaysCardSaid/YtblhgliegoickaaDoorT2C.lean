/- A table of texts: digits tell a list; List; few; the chapter's examples. Written by wip/tools/gen2c.py. -/
import Derived.Test.YtblhgliegoickaaDoorT2B
namespace Go.Proofs.YtblhgliegoickaaDoor
open Go Go.RowKit Go.Maps Go.MapKept
set_option linter.unusedVariables false
set_option linter.unusedSimpArgs false
def valN (l : Txt) : Nat := l.foldl (fun a c => a * 10 + (c.toNat - 48)) 0
theorem dec_val (u : Nat) : valN (Lib.decDigits u) = u ∧ ∀ c ∈ Lib.decDigits u, 48 ≤ c.toNat ∧ c.toNat ≤ 57 := by
  induction u using Nat.strongRecOn with
  | ind u ih =>
    rw [Lib.decDigits]
    split
    · rename_i h
      have e : (UInt8.ofNat (48 + u)).toNat = 48 + u := by rw [UInt8.toNat_ofNat']; omega
      refine ⟨by simp only [valN, List.foldl_cons, List.foldl_nil, e]; omega, ?_⟩
      intro c hc
      rw [List.mem_singleton.1 hc, e]; omega
    · rename_i h
      obtain ⟨h1, h2⟩ := ih (u / 10) (by omega)
      have e : (UInt8.ofNat (48 + u % 10)).toNat = 48 + u % 10 := by rw [UInt8.toNat_ofNat']; omega
      refine ⟨?_, ?_⟩
      · unfold valN at h1 ⊢
        rw [List.foldl_append, h1]
        simp only [List.foldl_cons, List.foldl_nil, e]; omega
      · intro c hc
        rcases List.mem_append.1 hc with hc | hc
        · exact h2 c hc
        · rw [List.mem_singleton.1 hc, e]; omega
theorem itoa_ne44 (n : Int) : ¬ (44 : UInt8) ∈ Lib.itoa n := by
  unfold Lib.itoa
  split
  · intro h
    rcases List.mem_cons.1 h with h | h
    · cases h
    · have := ((dec_val _).2 _ h).1; simp at this
  · intro h
    have := ((dec_val _).2 _ h).1; simp at this
theorem itoa_inj {a b : Int} (h : Lib.itoa a = Lib.itoa b) : a = b := by
  have nb : ∀ u : Nat, ∀ t, Lib.decDigits u ≠ 45 :: t := fun u t e => by
    have := ((dec_val u).2 45 (by rw [e]; simp)).1; simp at this
  unfold Lib.itoa at h
  split at h <;> split at h
  · have := congrArg valN (List.cons.inj h).2
    rw [(dec_val _).1, (dec_val _).1] at this; omega
  · exact absurd h.symm (nb _ _)
  · exact absurd h (nb _ _)
  · have := congrArg valN h
    rw [(dec_val _).1, (dec_val _).1] at this; omega
theorem cut_inj {c : UInt8} : ∀ {l1 l2 r1 r2 : Txt}, ¬ c ∈ l1 → ¬ c ∈ l2 → l1 ++ c :: r1 = l2 ++ c :: r2 → l1 = l2 ∧ r1 = r2
  | [], [], _, _, _, _, h => ⟨rfl, (List.cons.inj h).2⟩
  | [], y :: ys, _, _, _, h2, h => absurd (List.cons.inj h).1.symm (fun e => h2 (by rw [e]; simp))
  | x :: xs, [], _, _, h1, _, h => absurd (List.cons.inj h).1 (fun e => h1 (by rw [e]; simp))
  | x :: xs, y :: ys, _, _, h1, h2, h => by
    obtain ⟨e1, e2⟩ := List.cons.inj h
    obtain ⟨e3, e4⟩ := cut_inj (fun hm => h1 (List.mem_cons_of_mem _ hm)) (fun hm => h2 (List.mem_cons_of_mem _ hm)) e2
    exact ⟨by rw [e1, e3], e4⟩
theorem digN_cons (x : Int) (xs : List Int) : digN (x :: xs) = Lib.itoa x ++ 44 :: digN xs := by simp [digN]
theorem digN_inj : ∀ {a b : List Int}, digN a = digN b → a = b
  | [], [], _ => rfl
  | [], y :: ys, h => by rw [digN_cons] at h; have := congrArg List.length h; simp [digN] at this
  | x :: xs, [], h => by rw [digN_cons] at h; have := congrArg List.length h; simp [digN] at this
  | x :: xs, y :: ys, h => by
    rw [digN_cons, digN_cons] at h
    obtain ⟨e1, e2⟩ := cut_inj (itoa_ne44 x) (itoa_ne44 y) h
    rw [itoa_inj e1, digN_inj e2]
theorem ofL_nodup {L : List Txt} {s : Txt} (h : L.Nodup) : (ofL L s).Nodup := by
  unfold ofL
  split
  · exact h
  · rename_i hin
    rw [List.nodup_append]; exact ⟨h, by simp, by rintro a ha b hb rfl; simp at hb; subst hb; exact hin ha⟩
theorem ofL_len (L : List Txt) (s : Txt) : (ofL L s).length ≤ L.length + 1 := by unfold ofL; split <;> simp
theorem ofL_mem (L : List Txt) (s : Txt) : s ∈ ofL L s := by unfold ofL; split <;> simp [*]
theorem ofL_sub {L : List Txt} {s t : Txt} (h : t ∈ L) : t ∈ ofL L s := by unfold ofL; split <;> simp [*]
theorem num_ofL {L : List Txt} {s t : Txt} (h : t ∈ L) : numN (ofL L s) t = numN L t := by
  unfold ofL; split
  · rfl
  · exact num_snoc_old h
theorem num_inj {L : List Txt} {s t : Txt} (h : L.Nodup) (hs : s ∈ L) (ht : t ∈ L) (e : numN L s = numN L t) : s = t := by
  unfold numN at e
  rw [if_pos hs, if_pos ht] at e
  have e2 : L.idxOf s = L.idxOf t := by omega
  have h1 := List.getElem_idxOf (List.idxOf_lt_length_iff.2 hs)
  have h2 := List.getElem_idxOf (List.idxOf_lt_length_iff.2 ht)
  rw [← h1, ← h2]
  simp only [e2]
set_option maxRecDepth 100000 in
theorem list_any (base B M : Nat) (v : Value) (L : List Txt) (z : Value) (xs : List Int) (hx : xs.length ≤ 1000) (hf : ∀ x ∈ xs, fitsI x) (hlen : L.length < 2000) (w : World) (h : TB w base B M v L) (hbw : base ≤ w.heap.size) (hz : RdV w z (xs.map iv)) (ht : Tab w) :
    Calls Tryd.prog 13 #[.pointer (some ⟨B, 0, none⟩), z] w (OfP w base B M v (numN (ofL L (digN xs)) (digN xs) : Int) (ofL L (digN xs))) := by
  have DG := digits_any z xs hx hf w hz ht
  have hdl := digN_len xs hf
  have OF := Lib.hid (fun w' (g : Below w.heap.size w w') => of_any base B M v L (digN xs) (by unfold maxLen; omega) hlen w' (h.below g) (Nat.le_trans hbw g.size))
  obtain ⟨ao, cap, rfl, _⟩ := rdv_open hz
  obtain ⟨s, hs⟩ : ∃ s, s = digN xs := ⟨_, rfl⟩
  rw [← hs] at DG OF ⊢
  clear h hz hdl hs
  unfold sv at DG OF
  go_enter Tryd.func13, Tryd.ntmps13
  go_wp2_with fail
  refine DG.mono ?_
  rintro e w1 ⟨rfl, g1⟩
  go_wp2_with fail
  refine (OF.out _ g1).mono ?_
  rintro e w2 ⟨rfl, v2, tb, tr, hv2⟩
  go_wp2_with fail
  go_ret2
  refine ⟨rfl, v2, tb, ?_, fun k hk => (hv2 k hk).imp id (fun h => Nat.le_trans g1.size h)⟩
  exact ⟨tr.os.trans g1.os, tr.tape.trans g1.tape, tr.output.trans g1.output, Nat.le_trans g1.size tr.size, fun k hk hn => (tr.block k (Nat.lt_of_lt_of_le hk g1.size) hn).trans (g1.block k hk)⟩
theorem few_any (n : Nat) (ao : Option Addr) (cap : Nat) (hc : n ≤ cap) (w : World) :
    Calls Tryd.prog 12 #[.slice ao n cap] w fun e w' => e = .returned (.slice ao (min n 60) cap) ∧ w = w' := by
  by_cases h : n ≤ 60
  · rw [Nat.min_eq_left h]
    go_enter Tryd.func12, Tryd.ntmps12
    go_wp2_with fail
    go_ret
    exact ⟨rfl, rfl⟩
  · rw [Nat.min_eq_right (by omega)]
    go_enter Tryd.func12, Tryd.ntmps12
    go_wp2_with fail
    go_ret
    exact ⟨rfl, rfl⟩
theorem rdv_cut {w : World} {ao : Option Addr} {cap : Nat} {xs : List Int} (h : RdV w (.slice ao xs.length cap) (xs.map iv)) (k : Nat) : RdV w (.slice ao (min xs.length k) cap) ((xs.take k).map iv) := by
  have := h.short (min xs.length k) (Nat.min_le_left _ _)
  rw [← List.map_take] at this
  by_cases hk : k ≤ xs.length
  · rw [Nat.min_eq_right hk] at this ⊢; exact this
  · rw [Nat.min_eq_left (by omega), List.take_of_length_le (by omega)] at this; rw [Nat.min_eq_left (by omega), List.take_of_length_le (by omega)]; exact this
set_option maxRecDepth 100000 in
set_option maxHeartbeats 1000000 in
theorem awake_any (w : World) (ht : Tab w) : Calls Tryd.prog 17 #[] w fun e w' => e = .returned (.bool true) ∧ Below w.heap.size w w' := by
  have HT := Lib.hid ht
  clear ht
  go_enter Tryd.func17, Tryd.ntmps17
  go_wp2_with fail
  refine (new_any w).mono ?_
  rintro e w0 ⟨rfl, B0, tb0⟩
  have hb0 : w.heap.size ≤ w0.heap.size := B0.size
  have S0 := of_any _ (w.heap.size + 1) w.heap.size _ [] [97] (by decide) (by decide) w0 tb0 hb0
  rw [show ofL [] [97] = [[97]] from by decide, show numN [[97]] [97] = 1 from by decide] at S0
  have O0 := tb0.own_ge
  unfold sv at S0
  go_wp2_with fail
  refine S0.mono ?_
  rintro e w1 ⟨rfl, v1, tb1, tr, _⟩
  have B1 := below_trn B0 tr O0
  have hb1 := Nat.le_trans hb0 tr.size
  clear S0 tr O0 tb0
  have S1 := of_any _ (w.heap.size + 1) w.heap.size _ [[97]] [98] (by decide) (by decide) w1 tb1 hb1
  rw [show ofL [[97]] [98] = [[97], [98]] from by decide, show numN [[97], [98]] [98] = 2 from by decide] at S1
  have O1 := tb1.own_ge
  unfold sv at S1
  go_wp2_with fail
  refine S1.mono ?_
  rintro e w2 ⟨rfl, v2, tb2, tr, _⟩
  have B2 := below_trn B1 tr O1
  have hb2 := Nat.le_trans hb1 tr.size
  clear S1 tr O1 tb1
  have S2 := of_any _ (w.heap.size + 1) w.heap.size _ [[97], [98]] [97] (by decide) (by decide) w2 tb2 hb2
  rw [show ofL [[97], [98]] [97] = [[97], [98]] from by decide, show numN [[97], [98]] [97] = 1 from by decide] at S2
  have O2 := tb2.own_ge
  unfold sv at S2
  go_wp2_with fail
  refine S2.mono ?_
  rintro e w3 ⟨rfl, v3, tb3, tr, _⟩
  have B3 := below_trn B2 tr O2
  have hb3 := Nat.le_trans hb2 tr.size
  clear S2 tr O2 tb2
  have S3 := has_any _ (w.heap.size + 1) w.heap.size _ [[97], [98]] [99] (by decide) w3 tb3
  rw [show numN [[97], [98]] [99] = 0 from by decide, show decide (([99] : Txt) ∈ ([[97], [98]] : List Txt)) = false from by decide] at S3
  unfold sv at S3
  go_wp2_with fail
  refine S3.mono ?_
  rintro e w4 ⟨rfl, rfl⟩
  have S4 := text_in _ (w.heap.size + 1) w.heap.size _ [[97], [98]] 1 (by decide) w3 tb3
  simp only [List.getElem_cons_succ, List.getElem_cons_zero] at S4
  unfold sv at S4
  rw [show str [98] = ⟨#[98]⟩ from rfl] at S4
  clear S3
  go_wp2_with fail
  refine S4.mono ?_
  rintro e w4 ⟨rfl, rfl⟩
  have S5 := text_out _ (w.heap.size + 1) w.heap.size _ [[97], [98]] 3 (by decide) w3 tb3
  unfold sv at S5
  clear S4
  go_wp2_with fail
  refine S5.mono ?_
  rintro e w4 ⟨rfl, rfl⟩
  have R0 : RdV (w3.alloc (.cells #[.int .i64 1, .int .i64 (-2)] 3)) (.slice (some ⟨w3.heap.size, 0, none⟩) 2 2) ([1, -2].map iv) := by
    have := own_rdv (World.ownsRow_lit (base := 0) (size := 1) (w := w3) (e := 3) #[.int .i64 1, .int .i64 (-2)] 2 (Nat.zero_le _) (by decide) rfl)
    simpa [iv] using this
  have gA : Below w3.heap.size w3 (w3.alloc (.cells #[.int .i64 1, .int .i64 (-2)] 3)) := (Below.refl _ _).alloc (Nat.le_refl _) _
  have tbA := tb3.below gA
  have BA := chain B3 gA
  have S6 := list_any _ (w.heap.size + 1) w.heap.size _ [[97], [98]] _ [1, -2] (by decide) (by intro x hx; simp at hx; rcases hx with rfl | rfl <;> (unfold fitsI; omega)) (by decide) _ tbA (Nat.le_trans hb3 gA.size) R0 (HT.out.below BA)
  have ed : digN [1, -2] = [49, 44, 45, 50, 44] := by
    rw [digN_cons, digN_cons]
    simp [digN, Lib.itoa, Lib.decDigits_one]
  rw [ed, show ofL [[97], [98]] [49, 44, 45, 50, 44] = [[97], [98], [49, 44, 45, 50, 44]] from by decide, show numN [[97], [98], [49, 44, 45, 50, 44]] [49, 44, 45, 50, 44] = 3 from by decide] at S6
  have OA := tbA.own_ge
  obtain ⟨WA, hWA⟩ : ∃ z, z = w3.alloc (.cells #[.int .i64 1, .int .i64 (-2)] 3) := ⟨_, rfl⟩
  have hbA := Nat.le_trans hb3 gA.size
  rw [← hWA] at S6 BA hbA
  clear S5 R0 tbA ed gA
  go_wp2_with fail
  rw [← hWA]
  refine S6.mono ?_
  rintro e w5 ⟨rfl, v5, tb5, tr, _⟩
  have B5 := below_trn BA tr OA
  have hb5 := Nat.le_trans hbA tr.size
  clear S6 tr OA hWA
  have S7 := of_any _ (w.heap.size + 1) w.heap.size _ [[97], [98], [49, 44, 45, 50, 44]] [49, 44, 45, 50, 44] (by decide) (by decide) w5 tb5 hb5
  rw [show ofL [[97], [98], [49, 44, 45, 50, 44]] [49, 44, 45, 50, 44] = [[97], [98], [49, 44, 45, 50, 44]] from by decide, show numN [[97], [98], [49, 44, 45, 50, 44]] [49, 44, 45, 50, 44] = 3 from by decide] at S7
  have O5 := tb5.own_ge
  unfold sv at S7
  go_wp2_with fail
  refine S7.mono ?_
  rintro e w6 ⟨rfl, v6, tb6, tr, _⟩
  have B6 := below_trn B5 tr O5
  clear S7 tr O5 tb5 tb6
  go_wp2_with fail
  go_ret
  exact ⟨rfl, B6⟩
end Go.Proofs.YtblhgliegoickaaDoor
