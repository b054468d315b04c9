/- Marks: In, Voices by the program; the law's Few. Written by wip/tools/gen30d.py. -/
import Derived.Test.YtgmblgpfgdfnaaaQMM26
namespace Go.Proofs.Ytgmblgpfgdfnaaa
open Go Go.RowKit
set_option linter.unusedVariables false
set_option linter.unusedSimpArgs false
set_option maxRecDepth 100000

theorem info_parts {P : Program} {e : TypeId} {z : Value} {n m : Nat} (h : (P.info? e).map (fun i => (i.zero, i.size, i.bytes)) = some (some z, n, m)) : ∃ i, P.info? e = some i ∧ i.zero = some z ∧ i.size = n ∧ i.bytes = m := by
  cases hi : P.info? e with
  | none => rw [hi] at h; cases h
  | some i => rw [hi] at h; simp at h; exact ⟨i, rfl, h.1, h.2.1, h.2.2⟩
theorem mark_info : (Try.prog.info? 30).map (fun i => (i.zero, i.size, i.bytes)) = some (some (.agg #[.int .i64 0, .int .i64 0, .int .i64 0]), 3, 24) := by kernel_rfl
structure Sm where
  fr : Int
  kd : Int
  vw : Int
  sq : Int
  tm : Int
def smC (x : Sm) : List Value := [.int .i64 x.fr, .int .i64 x.kd, .int .i64 x.vw, .int .i64 x.sq, .int .i64 x.tm]
theorem smC_len (x : Sm) : (smC x).length = 5 := rfl
theorem smC_one (x : Sm) : ∀ u ∈ smC x, u.oneCell' = true := by
  intro u hu
  simp only [smC, List.mem_cons, List.not_mem_nil, or_false] at hu
  rcases hu with rfl | rfl | rfl | rfl | rfl <;> rfl
theorem stmt_info : (Try.prog.info? 32).map (fun i => (i.zero, i.size, i.bytes)) = some (some (.agg #[.int .i64 0, .int .i64 0, .int .i64 0, .int .i64 0, .int .i64 0]), 5, 40) := by kernel_rfl
def OwnM (w : World) (l : List Sm) (e : Ending) (w' : World) : Prop := ∃ a c, e = .returned (.slice a l.length c) ∧ w'.ownsRow w.heap.size 32 5 (.slice a l.length c) l.length (l.flatMap smC) ∧ Below w.heap.size w w'
/-- Who says a checkpoint. -/
def sayM (l : List Vt) (seq tm : Int) : List Sm := (l.filter (mat seq tm)).map fun x => ⟨x.fr, 5, 0, seq, tm⟩
def voiM (m : Ms) (seq tm : Int) : List Sm := if mayM m = true then sayM m.l seq tm else []
theorem say_up {l : List Vt} {seq tm : Int} {k : Nat} (hk : k < l.length) : sayM (l.take (k + 1)) seq tm = if mat seq tm l[k] = true then sayM (l.take k) seq tm ++ [⟨l[k].fr, 5, 0, seq, tm⟩] else sayM (l.take k) seq tm := by
  unfold sayM
  rw [List.take_succ_eq_append_getElem hk, List.filter_append]
  by_cases h : mat seq tm l[k] = true
  · rw [if_pos h]; simp [h]
  · rw [if_neg h]; simp [h]
theorem say_len (l : List Vt) (seq tm : Int) : (sayM l seq tm).length ≤ l.length := by unfold sayM; rw [List.length_map]; exact List.length_filter_le _ _
theorem own_val {w : World} {base : Nat} {e : TypeId} {s : Nat} {v : Value} {n : Nat} {xs : List Value} (h : w.ownsRow base e s v n xs) : ∃ a c, v = Value.slice a n c := by
  rcases h.2 with ⟨h1, h2⟩ | ⟨g, cap, cur, h1, _⟩
  · exact ⟨_, _, by rw [h1, h2]⟩
  · exact ⟨_, _, h1⟩
theorem own_base {w : World} {base b : Nat} {e : TypeId} {s : Nat} {v : Value} {n : Nat} {xs : List Value} (h : w.ownsRow base e s v n xs) (hb : b ≤ base) : w.ownsRow b e s v n xs := by
  obtain ⟨h1, h2⟩ := h
  refine ⟨h1, ?_⟩
  rcases h2 with h2 | ⟨g, cap, cur, h3, h4, h5⟩
  · exact .inl h2
  · exact .inr ⟨g, cap, cur, h3, Nat.le_trans hb h4, h5⟩
theorem in_any (m : Ms) (v : Value) (s : Int) (w : World) (h : RdM w m v) (hs : s ≤ 9223372036854775807) : Calls Try.prog 11 #[mV m v, .int .i64 s] w fun e w' => e = .returned (.bool (mayM m && witB m.low s)) ∧ Below w.heap.size w w' := by
  obtain ⟨M, hM⟩ : ∃ M, M = mayM m := ⟨_, rfl⟩
  have MY0 := fun w' (g : Below w.heap.size w w') => may_any m v w' (h.below g (Nat.le_refl _))
  have h0 := fun e : M = true => (show 0 ≤ m.low by have := ((mayM_iff m).1 (hM ▸ e)).1; unfold numB at this; simp at this; exact this.1)
  rw [← hM] at MY0 ⊢
  obtain ⟨low, root, l⟩ := m
  obtain ⟨ao, len, cap, rfl⟩ := rdt_val h.l
  unfold mV at MY0 ⊢
  simp only at MY0 h0 ⊢
  have q0 := heap_alloc_new w (.cells #[.int .i64 low, .int .i64 root, .slice ao len cap] 24)
  have B0 := (Below.refl w.heap.size w).alloc (Nat.le_refl _) (.cells #[.int .i64 low, .int .i64 root, .slice ao len cap] 24)
  obtain ⟨d0, d1, d2, df⟩ := block_cells3 q0
  have MY := Lib.hid MY0
  clear hM MY0 h
  cases M with
  | false =>
    clear h0
    go_enter Try.func11, Try.ntmps11
    go_wp2_with (first | ((with_reducible refine (MY.out _ B0).mono ?_); rintro e w1 ⟨rfl, g⟩))
    go_ret
    exact ⟨rfl, chain B0 g⟩
  | true =>
    have WI0 := fun w' => within_any low root s (.slice ao len cap) (h0 rfl) hs w'
    obtain ⟨u, hu⟩ : ∃ u, u = witB low s := ⟨_, rfl⟩
    rw [← hu] at WI0 ⊢
    have WI := Lib.hid WI0
    clear h0 WI0 hu
    go_enter Try.func11, Try.ntmps11
    go_wp2_with (first | ((with_reducible refine (MY.out _ B0).mono ?_); rintro e w1 ⟨rfl, g⟩; (clear d0 d1 d2 df); (replace q0 := (g.block _ (lt_of_block q0)).trans q0); (replace B0 := chain B0 g); (clear g); (obtain ⟨d0, d1, d2, df⟩ := block_cells3 q0)) | ((with_reducible refine (WI.out _).mono ?_); rintro e w2 ⟨rfl, g⟩))
    go_ret
    exact ⟨by simp, chain B0 g⟩
set_option maxHeartbeats 1000000 in
theorem voices_any (m : Ms) (v : Value) (seq tm : Int) (w : World) (h : RdM w m v) (hl : m.l.length ≤ 1000) : Calls Try.prog 8 #[mV m v, .int .i64 seq, .int .i64 tm] w (OwnM w (voiM m seq tm)) := by
  obtain ⟨i0, hi, hz0, hz1, hz2⟩ := info_parts stmt_info
  obtain ⟨ao, cap, rfl, hc, hm, hr⟩ := RdK.open h.l
  have hr : RdT w (.slice ao m.l.length cap) m.l := hr
  obtain ⟨M, hM⟩ : ∃ M, M = mayM m := ⟨_, rfl⟩
  have MY0 := fun w' (g : Below w.heap.size w w') => may_any m _ w' (h.below g (Nat.le_refl _))
  rw [← hM] at MY0
  have HV0 : voiM m seq tm = if M = true then sayM m.l seq tm else [] := by rw [hM]; rfl
  obtain ⟨V, hV⟩ : ∃ V, V = voiM m seq tm := ⟨_, rfl⟩
  rw [← hV] at HV0 ⊢
  obtain ⟨Z, hZ⟩ : ∃ Z, Z = OwnM w V := ⟨_, rfl⟩
  rw [← hZ]
  have HZ := Lib.hid hZ
  have HV := Lib.hid HV0
  clear HV0 hV hZ hM
  obtain ⟨low, root, l⟩ := m
  unfold mV at MY0 ⊢
  simp only at MY0 HV hl hr hc ⊢
  have q0 := heap_alloc_new w (.cells #[.int .i64 low, .int .i64 root, .slice ao l.length cap] 24)
  have B0 := (Below.refl w.heap.size w).alloc (Nat.le_refl _) (.cells #[.int .i64 low, .int .i64 root, .slice ao l.length cap] 24)
  obtain ⟨d0, d1, d2, df⟩ := block_cells3 q0
  have MY := Lib.hid MY0
  clear MY0 h
  cases M with
  | false =>
    have HVN := Lib.hid (show V = [] by rw [HV.out, if_neg (by decide)])
    clear hr
    go_enter Try.func8, Try.ntmps8
    go_wp2_with (first | ((with_reducible refine (MY.out _ B0).mono ?_); rintro e w1 ⟨rfl, g⟩))
    show Z (.returned _) _
    rw [HZ.out, HVN.out]
    exact ⟨none, 0, rfl, World.ownsRow_nil _ _ _ _, chain B0 g⟩
  | true =>
    have HVN := Lib.hid (show V = sayM l seq tm by rw [HV.out, if_pos rfl])
    have HR := Lib.hid hr
    clear hr HV
    go_enter Try.func8, Try.ntmps8
    go_upto_region 5 with (first | ((with_reducible refine (MY.out _ B0).mono ?_); rintro e WM ⟨rfl, g⟩; (clear d0 d1 d2 df); (replace q0 := (g.block _ (lt_of_block q0)).trans q0); (replace B0 := chain B0 g); (clear g); (obtain ⟨d0, d1, d2, df⟩ := block_cells3 q0)))
    have HRM := Lib.hid (RdT.below HR.out B0 (Nat.le_refl _))
    clear d0 d1 d2 df q0 HR MY
    go_loopw [7, 16] (fun o' i wr => ∃ k : Nat, k ≤ l.length ∧ i = .int .i64 (k : Int) ∧ wr.ownsRow WM.heap.size 32 5 o' (sayM (l.take k) seq tm).length ((sayM (l.take k) seq tm).flatMap smC) ∧ Below WM.heap.size WM wr) (fun _ i _ => l.length - (intOf i).toNat)
    case atStart => exact ⟨0, Nat.zero_le _, rfl, World.ownsRow_nil _ _ _ _, Below.refl _ _⟩
    case round =>
      obtain ⟨k, hk, rfl, hown, BK⟩ := hrel
      by_cases hlt : k < l.length
      · obtain ⟨pb, po, rfl, hpb, C0, C1, C2⟩ := rdt_cells HRM.out k hlt
        have c0 := (BK.cell (p := ⟨pb, po + k * 3, none⟩) hpb).trans C0
        have c1 := (BK.cell (p := ⟨pb, po + k * 3 + 1, none⟩) hpb).trans C1
        have c2 := (BK.cell (p := ⟨pb, po + k * 3 + 2, none⟩) hpb).trans C2
        have HUP := say_up (seq := seq) (tm := tm) hlt
        have HLN := Lib.hid (show (sayM (l.take k) seq tm).length ≤ 1000 by have := say_len (l.take k) seq tm; rw [List.length_take] at this; omega)
        obtain ⟨x, hx⟩ : ∃ x, x = l[k] := ⟨_, rfl⟩
        rw [← hx] at c0 c1 c2 HUP
        obtain ⟨a, b, c⟩ := x
        simp only at c0 c1 c2 HUP
        unfold mat at HUP
        simp only at HUP
        go_upto_region 7 with fail
        obtain ⟨W8, hW8⟩ : ∃ W, W = wr.alloc (.cells #[.int .i64 a, .int .i64 b, .int .i64 c] 30) := ⟨_, rfl⟩
        rw [← hW8]
        have q8 : W8.heap[wr.heap.size]? = some (.cells #[.int .i64 a, .int .i64 b, .int .i64 c] 30 (0, 0)) := by rw [hW8]; exact heap_alloc_new _ _
        have B8 : Below WM.heap.size WM W8 := by rw [hW8]; exact BK.alloc BK.size _
        have hown8 := hown.alloc (.cells #[.int .i64 a, .int .i64 b, .int .i64 c] 30)
        rw [← hW8] at hown8
        obtain ⟨e0, e1, e2, ef⟩ := block_cells3 q8
        clear hx C0 C1 C2 c0 c1 c2 hW8 hown
        by_cases h1 : b = seq
        · have g1 : (b == seq) = true := by simpa using h1
          rw [decide_eq_true h1] at HUP
          by_cases h2 : c = tm
          · have g2 : (c == tm) = true := by simpa using h2
            rw [decide_eq_true h2] at HUP
            have HU := Lib.hid HUP
            have HOX := Lib.hid hown8
            clear h1 h2 HUP hown8
            go_wp2_with (at_builtin; refine wpList_app1k smC_len (by decide) WM rfl (.tmp 30) (.tmp 36) 26 rfl WM.heap.size 32 i0 (.agg #[.int .i64 0, .int .i64 0, .int .i64 0, .int .i64 0, .int .i64 0]) 40 Try.underlying26 hi hz0 hz1 hz2 rfl _ (sayM (l.take k) seq tm) rfl HOX.out _ ⟨a, 5, 0, seq, tm⟩ _ rfl rfl smC_one (by have := HLN.out; unfold maxLen; omega) (by have := HLN.out; omega) (Nat.le_refl _) B8 ?_; intro v2 w2 own2 bel2 hq2; clear hq2)
            exact ⟨⟨k + 1, by omega, by push_cast; rfl, by rw [HU.out]; exact own2, bel2⟩, by simp [intOf]; omega⟩
          · have g2 : (c == tm) = false := by simpa using h2
            rw [decide_eq_false h2] at HUP
            have HU := Lib.hid HUP
            clear h1 h2 HUP
            go_wp2_with fail
            exact ⟨⟨k + 1, by omega, by push_cast; rfl, by rw [HU.out]; exact hown8, B8⟩, by simp [intOf]; omega⟩
        · have g1 : (b == seq) = false := by simpa using h1
          rw [decide_eq_false h1] at HUP
          have HU := Lib.hid HUP
          clear h1 HUP
          go_wp2_with fail
          exact ⟨⟨k + 1, by omega, by push_cast; rfl, by rw [HU.out]; exact hown8, B8⟩, by simp [intOf]; omega⟩
      · obtain rfl : k = l.length := by omega
        rw [List.take_length] at hown
        have HO := Lib.hid (own_base hown B0.size)
        clear hown
        go_wp2_with fail
        show Z (.returned _) _
        rw [HZ.out, HVN.out]
        obtain ⟨a9, c9, e9⟩ := own_val HO.out
        have ho := HO.out
        rw [e9] at ho
        exact ⟨a9, c9, by rw [← e9]; rfl, ho, chain B0 BK⟩
def fewM (m : Ms) : Ms := ⟨m.low, m.root, m.l.take 260⟩
theorem marks_size : (Try.prog.info? 24).map (·.size) = some 3 := by kernel_rfl
/-- What comes back is marks that are read. -/
def GivesFM (w : World) (m : Ms) (e : Ending) (w' : World) : Prop := ∃ a n c, e = .returned (mV m (.slice a n c)) ∧ RdM w' m (.slice a n c) ∧ Below w.heap.size w w'
set_option maxHeartbeats 1000000 in
theorem few_any (m : Ms) (v : Value) (w : World) (h : RdM w m v) : Calls Try.prog 7 #[mV m v] w (GivesFM w (fewM m)) := by
  obtain ⟨ao, cap, rfl, hc, hm, hr⟩ := RdK.open h.l
  have hr : RdT w (.slice ao m.l.length cap) m.l := hr
  have HB := Lib.hid (show ∀ x ∈ m.l.take 260, x.vw ≤ 9223372036854775807 from fun x hx => h.b x (List.mem_of_mem_take hx))
  obtain ⟨Z, hZ⟩ : ∃ Z, Z = GivesFM w (fewM m) := ⟨_, rfl⟩
  rw [← hZ]
  unfold fewM at hZ
  have HZ := Lib.hid hZ
  obtain ⟨low, root, l⟩ := m
  unfold mV
  simp only at hr hc ⊢
  clear h hZ
  by_cases hp : 260 < l.length
  · have HRP := Lib.hid (RdK.short vtC_len hr 260 (by omega))
    clear hr
    go_enter Try.func7, Try.ntmps7
    go_wp2_with fail
    refine bodyPost_ret (results_cell_row rfl _ _ _ 24 #[.int .i64 low, .int .i64 root, .slice ao 260 cap] (0, 0) _ rfl ?_ Try.underlying24 rfl marks_size) rfl ?_
    rotate_left
    · show Z (.returned _) _
      rw [HZ.out]
      exact ⟨ao, 260, cap, rfl, ⟨RdK.below HRP.out (((Below.refl w.heap.size w).alloc (Nat.le_refl _) _).alloc (by simp) _) (Nat.le_refl _), HB.out⟩, (((Below.refl w.heap.size w).alloc (Nat.le_refl _) _).alloc (by simp) _)⟩
    · exact (two_allocs w _ _).2.1
  · have HRP := Lib.hid (show RdK 3 vtC w (.slice ao l.length cap) (l.take 260) by rw [List.take_of_length_le (by omega)]; exact hr)
    clear hr
    go_enter Try.func7, Try.ntmps7
    go_wp2_with fail
    refine bodyPost_ret (results_cell_row rfl _ _ _ 24 #[.int .i64 low, .int .i64 root, .slice ao l.length cap] (0, 0) _ rfl ?_ Try.underlying24 rfl marks_size) rfl ?_
    rotate_left
    · show Z (.returned _) _
      rw [HZ.out]
      exact ⟨ao, l.length, cap, rfl, ⟨RdK.below HRP.out (((Below.refl w.heap.size w).alloc (Nat.le_refl _) _).alloc (by simp) _) (Nat.le_refl _), HB.out⟩, (((Below.refl w.heap.size w).alloc (Nat.le_refl _) _).alloc (by simp) _)⟩
    · exact (two_allocs w _ _).2.1
end Go.Proofs.Ytgmblgpfgdfnaaa
