/- Leaves: the document's chunks of a leaf. Written by wip/tools/gen9z6.py. -/
import Derived.Test.YtcehgfganjdghaaDoorQLCC42
import Derived.Test.YtcehgfganjdghaaDoorQLCC35
namespace Go.Proofs.YtcehgfganjdghaaDoor
open Go Go.RowKit
set_option linter.unusedVariables false
set_option linter.unusedSimpArgs false
def sC (s : List UInt8) : List Value := [.string (str s)]
theorem sC_len (s : List UInt8) : (sC s).length = 1 := rfl
theorem sC_one (s : List UInt8) : ∀ u ∈ sC s, u.oneCell' = true := by
  intro u hu; simp only [sC, List.mem_singleton] at hu; subst hu; rfl
theorem sC_at (l : List (List UInt8)) (t : List UInt8) : ((l ++ [t]).flatMap sC)[l.length]? = some (.string (str t)) := by
  rw [List.flatMap_append, List.getElem?_append_right (by rw [flat_len sC_len]; omega), flat_len sC_len]; simp [sC]
theorem sC_set (l : List (List UInt8)) (t u : List UInt8) : ((l ++ [t]).flatMap sC).set l.length (.string (str u)) = (l ++ [u]).flatMap sC := by
  rw [List.flatMap_append, List.set_append_right _ _ (by rw [flat_len sC_len]; omega), flat_len sC_len, List.flatMap_append]; simp [sC]
theorem string_info9 : (Tryd.prog.info? 9).map (fun i => (i.zero, i.size, i.bytes)) = some (some (.string ⟨#[]⟩), 1, 16) := by kernel_rfl
/-- A chunk of which the first r items are there. -/
def partC (l : List It) (q r : Nat) : List UInt8 := UInt8.ofNat (min 8 (l.length - 8 * q)) :: ((l.drop (8 * q)).take r).flatMap bytesI
def preC (l : List It) (q : Nat) : List (List UInt8) := (List.range q).map fun k => partC l k 8
def lsOf (l : List It) (i : Nat) : List (List UInt8) := preC l (i / 8) ++ if i % 8 = 0 then [] else [partC l (i / 8) (i % 8)]
theorem lsOf_step (l : List It) (q r : Nat) (hr : r < 8) : lsOf l (8 * q + r + 1) = preC l q ++ [partC l q (r + 1)] := by
  unfold lsOf
  by_cases h : r = 7
  · subst h
    have h1 : (8 * q + 7 + 1) / 8 = q + 1 := by omega
    have h2 : (8 * q + 7 + 1) % 8 = 0 := by omega
    rw [h1, h2, if_pos rfl, List.append_nil]
    unfold preC
    rw [List.range_succ, List.map_append]; rfl
  · have h1 : (8 * q + r + 1) / 8 = q := by omega
    have h2 : (8 * q + r + 1) % 8 = r + 1 := by omega
    rw [h1, h2, if_neg (by omega)]
theorem lsOf_0 (l : List It) (q : Nat) : lsOf l (8 * q) = preC l q := by
  unfold lsOf
  rw [show 8 * q / 8 = q by omega, show 8 * q % 8 = 0 by omega, if_pos rfl, List.append_nil]
theorem lsOf_r (l : List It) (q r : Nat) (hr : r < 8) (h0 : 0 < r) : lsOf l (8 * q + r) = preC l q ++ [partC l q r] := by
  obtain ⟨s, rfl⟩ : ∃ s, r = s + 1 := ⟨r - 1, by omega⟩
  exact lsOf_step l q s (by omega)
theorem partC_succ {l : List It} {q r : Nat} (h : 8 * q + r < l.length) : partC l q (r + 1) = partC l q r ++ bytesI l[8 * q + r] := by
  unfold partC
  rw [List.take_succ_eq_append_getElem (by rw [List.length_drop]; omega), List.flatMap_append, List.cons_append]
  simp
theorem partC_0 (l : List It) (q : Nat) : partC l q 0 = [UInt8.ofNat (min 8 (l.length - 8 * q))] := by unfold partC; simp
theorem preC_len (l : List It) (q : Nat) : (preC l q).length = q := by unfold preC; simp
theorem part_full (l : List It) (q r : Nat) (h : min 8 (l.length - 8 * q) ≤ r) (h8 : r ≤ 8) : partC l q r = encC (chunkAt l (8 * q)) := by
  unfold partC encC chunkAt
  have e : (l.drop (8 * q)).take r = (l.drop (8 * q)).take 8 := by
    by_cases h9 : r = 8
    · rw [h9]
    · rw [List.take_of_length_le (by rw [List.length_drop]; omega), List.take_of_length_le (by rw [List.length_drop]; omega)]
  rw [e, List.length_take, List.length_drop]
theorem lsOf_end (l : List It) : lsOf l l.length = chunksL l := by
  unfold lsOf chunksL starts
  rw [List.map_map]
  by_cases h : l.length % 8 = 0
  · rw [if_pos h, List.append_nil, show (l.length + 7) / 8 = l.length / 8 by omega]
    unfold preC
    apply List.map_congr_left
    intro k hk
    exact part_full l k 8 (by omega) (Nat.le_refl _)
  · rw [if_neg h, show (l.length + 7) / 8 = l.length / 8 + 1 by omega, List.range_succ, List.map_append]
    unfold preC
    congr 1
    · apply List.map_congr_left
      intro k hk
      exact part_full l k 8 (by omega) (Nat.le_refl _)
    · simp only [List.map_cons, List.map_nil, Function.comp]
      rw [part_full l _ _ (by omega) (by omega)]
theorem bytesI_len {x : It} (h : mayI x = true) : (bytesI x).length ≤ 130 := by
  have h1 := may_key h
  have h2 := encL_max x.v
  have h3 := (putL_len x.ver.toNat).2
  have h4 := (putL_len x.key.length).2
  unfold bytesI textL
  rw [if_pos (by omega)]
  simp only [List.length_append]
  omega
theorem flat_bytes {l : List It} (h : ∀ x ∈ l, mayI x = true) : (l.flatMap bytesI).length ≤ l.length * 130 := by
  induction l with
  | nil => simp
  | cons x r ih =>
    rw [List.flatMap_cons, List.length_append, List.length_cons]
    have h1 := bytesI_len (h x (by simp))
    have h2 := ih (fun y hy => h y (by simp [hy]))
    omega
theorem partC_len {l : List It} (h : ∀ x ∈ l, mayI x = true) (q r : Nat) (hr : r ≤ 8) : (partC l q r).length ≤ 1100 := by
  unfold partC
  rw [List.length_cons]
  have := flat_bytes (l := (l.drop (8 * q)).take r) (fun x hx => h x (List.mem_of_mem_drop (List.mem_of_mem_take hx)))
  have h2 : ((l.drop (8 * q)).take r).length ≤ r := List.length_take_le _ _
  omega
def OwnS (w : World) (ls : List (List UInt8)) (e : Ending) (w' : World) : Prop := ∃ v', e = .returned v' ∧ w'.ownsRow w.heap.size 9 1 v' ls.length (ls.flatMap sC) ∧ Below w.heap.size w w'
set_option maxRecDepth 100000 in
set_option maxHeartbeats 2000000 in
theorem refChunks_any (v : Value) (l : List It) (w : World) (h : RdI w v l) (hl : isL l = true) (hwf : WfI l) :
    Calls Tryd.prog 30 #[v] w (OwnS w (chunksL l)) := by
  obtain ⟨ao, cap, rfl, hc, hm, hr⟩ := RdK.open h
  have h64 := isL_len hl
  have HM := Lib.hid (isL_may hl)
  have HW := Lib.hid hwf
  have HRD := Lib.hid (show RdI w (.slice ao l.length cap) l from hr)
  obtain ⟨R, hR⟩ : ∃ R, R = chunksL l := ⟨_, rfl⟩
  rw [← hR]
  have HR := Lib.hid hR
  obtain ⟨is, his, hs0, hs1, hs2⟩ := info_parts string_info9
  clear h hr hl hwf hR
  go_enter Tryd.func30, Tryd.ntmps30
  go_wp2_with fail
  go_loopw [3, 4] (fun o i wr => ∃ (j : Nat) (ls : List (List UInt8)), j ≤ l.length ∧ i = .int .i64 (j : Int) ∧ Hid (ls = lsOf l j) ∧ ls.length ≤ 64 ∧ wr.ownsRow w.heap.size 9 1 o ls.length (ls.flatMap sC) ∧ Below w.heap.size w wr) (fun _ i _ => 100 - (intOf i).toNat)
  case atStart => exact ⟨0, [], Nat.zero_le _, rfl, Lib.hid rfl, by simp, World.ownsRow_nil _ _ _ _, Below.refl _ _⟩
  case round =>
    obtain ⟨j, ls, hj, rfl, HL, hls, hown, bel⟩ := hrel
    by_cases hlt : j < l.length
    · obtain ⟨q, hq⟩ : ∃ q, q = j / 8 := ⟨_, rfl⟩
      obtain ⟨r, hr⟩ : ∃ r, r = j % 8 := ⟨_, rfl⟩
      have hjq : j = 8 * q + r := by omega
      have hr8 : r < 8 := by omega
      obtain ⟨x, hx⟩ : ∃ x, x = l[j] := ⟨_, rfl⟩
      have hmx : mayI x = true := by rw [hx]; exact HM.out _ (List.getElem_mem _)
      have BYH := Lib.hid (fun W => refBytes_any x W hmx (by rw [hx]; exact HW.out _ (List.getElem_mem _)))
      have hxl := bytesI_len hmx
      obtain ⟨LS, hLS⟩ : ∃ LS, LS = lsOf l (j + 1) := ⟨_, rfl⟩
      have hLS1 : LS = preC l q ++ [partC l q r ++ bytesI x] := by
        rw [hLS, hjq, lsOf_step l q r hr8, partC_succ (by omega), hx]; subst hjq; rfl
      have HLS := Lib.hid hLS
      have hpl := partC_len (l := l) HM.out q r (by omega)
      obtain ⟨P, hP⟩ : ∃ P, P = preC l q := ⟨_, rfl⟩
      obtain ⟨m0, hm0⟩ : ∃ m0, m0 = q := ⟨_, rfl⟩
      have hPl : P.length = m0 := by rw [hP, preC_len, hm0]
      have hmm : m0 ≤ 8 := by omega
      have HX := Lib.hid hx
      rw [← hP] at hLS1
      by_cases h0 : r = 0
      · have hls0 : ls = P := by rw [HL.out, hP, hjq, h0, Nat.add_zero, lsOf_0]
        subst hls0
        obtain ⟨t, ht⟩ : ∃ t, t = partC l q r := ⟨_, rfl⟩
        rw [← ht] at hLS1 hpl
        have HT := Lib.hid (show t = [UInt8.ofNat (min 8 (l.length - j))] by rw [ht, h0, partC_0]; congr 3; omega)
        rw [hPl] at hown
        have HT0 := Lib.hid (show ((ls ++ [t]).flatMap sC)[m0]? = some (.string (str t)) by rw [← hPl]; exact sC_at ls t)
        have HSET := Lib.hid (show ((ls ++ [t]).flatMap sC).set m0 (.string (str (t ++ bytesI x))) = (ls ++ [t ++ bytesI x]).flatMap sC by rw [← hPl]; exact sC_set ls t (t ++ bytesI x))
        have HLS2 := Lib.hid hLS1
        have HLN := Lib.hid (show LS.length ≤ 64 by rw [hLS1, List.length_append, hPl]; simp; omega)
        have HPL := Lib.hid hPl
        have cat := cat_at t (bytesI x) (by omega)
        have hz : (str t).size = t.length := str_size t
        have t0 : ((j : Int) % 8 == 0) = true := by rw [beq_iff_eq]; omega
        have t1 : ((j : Int).tmod 8 == 0) = true := by rw [Int.tmod_eq_emod_of_nonneg (by omega)]; exact t0
        obtain ⟨mn, hmn⟩ : ∃ mn, mn = min 8 (l.length - j) := ⟨_, rfl⟩
        rw [← hmn] at HT
        have hmn8 : mn ≤ 8 := by omega
        obtain ⟨W1, hW1⟩ : ∃ W1, W1 = wr.alloc (.cells #[.int .u8 (mn : Int)] 5) := ⟨_, rfl⟩
        have k1 : (convert 58 9 (.slice (some ⟨wr.heap.size, 0, none⟩) 1 1)).run Tryd.prog W1 = .ok (.string (str t)) W1 := by
          have q1 := heap_alloc_new wr (.cells #[.int .u8 (mn : Int)] 5)
          rw [← hW1] at q1
          rw [HT.out]
          exact conv_rd (P := Tryd.prog) (V7.rd_block (l := [UInt8.ofNat mn]) (by rw [show ([UInt8.ofNat mn].map bv) = [.int .u8 (mn : Int)] by rw [List.map_cons, bv_of mn (by omega)]; rfl]; exact q1) (by simp [maxLen])) 58 5 9 Tryd.underlying58 Tryd.underlying5 Tryd.underlying9
        have b1 : Below w.heap.size w W1 := by rw [hW1]; exact bel.alloc bel.size _
        have own1 : W1.ownsRow w.heap.size 9 1 u3 m0 (ls.flatMap sC) := by rw [hW1]; exact own_keep hown ((Below.refl _ _).alloc (Nat.le_refl _) _)
        have z1 : W1.heap.size = wr.heap.size + 1 := by rw [hW1, World.size_alloc]
        have hjm : (l.length : Int) - (j : Int) = ((l.length - j : Nat) : Int) := by omega
        by_cases h8 : 8 < l.length - j
        · have g8 : decide (8 < ((l.length - j : Nat) : Int)) = true := by rw [decide_eq_true_eq]; omega
          obtain rfl : mn = 8 := by omega
          clear hls hLS1 hLS hPl hP hm0 hq hr hjq ht HL hx hmx hr8 h0 hmn
          subst hW1
          have k2 : (convert 58 9 (.slice (some ⟨wr.heap.size, 0, none⟩) 1 1)).run Tryd.prog (wr.alloc (.cells #[.int .u8 8] 5)) = .ok (.string (str t)) (wr.alloc (.cells #[.int .u8 8] 5)) := k1
          go_wp2_with (at_builtin; refine wpList_app1k sC_len (by decide) w rfl (.tmp 21) (.tmp 26) 56 rfl w.heap.size 9 is (.string ⟨#[]⟩) 16 Tryd.underlying56 his hs0 hs1 hs2 rfl _ ls rfl (by rw [HPL.out]; exact own1) _ t _ rfl (by rw [World.size_alloc]; rfl) sC_one (by rw [HPL.out]; unfold maxLen; omega) (by rw [HPL.out]; omega) (Nat.le_refl _) b1 ?_; intro v9 wx hown8 bx hq9; clear hq9)
          have hlen : (ls ++ [t]).length = m0 + 1 := by rw [List.length_append, HPL.out]; rfl
          have hown9 := hown8
          rw [hlen] at hown9
          have HLE := Lib.hid (show LS.length = m0 + 1 by rw [HLS2.out, List.length_append, HPL.out]; rfl)
          have R1 := HRD.out.below bx (Nat.le_refl _)
          obtain ⟨b, off, rfl, hb, c0, c1, c2, c3, c4⟩ := rdi_cells R1 j hlt
          rw [← HX.out] at c0 c1 c2 c3 c4
          clear R1 hown8 hlen own1 b1 bel hown k1 z1
          obtain ⟨g, cap', rfl, hgc, hgm⟩ := slice_of_own hown9 (by omega)
          have hgl := (hown9.lt g rfl).2
          have hcell : wx.cell? ⟨g, m0, none⟩ = some (.string (str t)) := by rw [hown9.cellAt m0 (by omega)]; exact HT0.out
          have ownx := hown9
          have s2 : IntKind.i64.wrap (((m0 + 1 : Nat) : Int) - 1) = (m0 : Int) := by rw [IntKind.wrap_i64]; omega
          have s5 : (m0 : Int) < (m0 : Int) + 1 := by omega
          have s4 : IntKind.i64.wrap (m0 : Int) = (m0 : Int) := by rw [IntKind.wrap_i64]; omega
          have s3 : IntKind.i64.wrap ((m0 : Int) + 1 - 1) = (m0 : Int) := by rw [IntKind.wrap_i64]; omega
          unfold maxLen at hgm
          clear hown9 HT0
          refine t_start 13 (by kernel_rfl) ?_
          refine t_take (i := 0) (d := (some 28)) (v := ?_) rfl rfl (by kernel_rfl) (fun _ _ _ h => h) (by rfl) (fun w' hb' => ?_) ?_
          rotate_left
          · (try go_simp); (try with_reducible rfl)
          try simp only [Act.put, List.setIfInBounds_toArray, List.set_cons_zero, List.set_cons_succ]
          refine t_take (i := 1) (d := (some 29)) (v := ?_) rfl rfl (by kernel_rfl) (fun _ _ _ h => h) (by rfl) (fun w' hb' => ?_) ?_
          rotate_left
          · (try go_simp); (try with_reducible rfl)
          try simp only [Act.put, List.setIfInBounds_toArray, List.set_cons_zero, List.set_cons_succ]
          refine t_take (i := 2) (d := (some 30)) (v := ?_) rfl rfl (by kernel_rfl) (fun _ _ _ h => h) (by rfl) (fun w' hb' => ?_) ?_
          rotate_left
          · (try go_simp); (try with_reducible rfl)
          try simp only [Act.put, List.setIfInBounds_toArray, List.set_cons_zero, List.set_cons_succ]
          refine t_take (i := 3) (d := (some 31)) (v := ?_) rfl rfl (by kernel_rfl) (fun _ _ _ h => h) (by rfl) (fun w' hb' => ?_) ?_
          rotate_left
          · (try go_simp); (try with_reducible rfl)
          try simp only [Act.put, List.setIfInBounds_toArray, List.set_cons_zero, List.set_cons_succ]
          refine t_take (i := 4) (d := (some 32)) (v := ?_) rfl rfl (by kernel_rfl) (fun _ _ _ h => h) (by rfl) (fun w' hb' => ?_) ?_
          rotate_left
          · (try go_simp); (try with_reducible rfl)
          try simp only [Act.put, List.setIfInBounds_toArray, List.set_cons_zero, List.set_cons_succ]
          refine t_take (i := 5) (d := (some 33)) (v := ?_) rfl rfl (by kernel_rfl) (fun _ _ _ h => h) (by rfl) (fun w' hb' => ?_) ?_
          rotate_left
          · have zz := (hb'.cell (p := ⟨g, m0, none⟩) hgl).trans hcell; (try go_simp); (try with_reducible rfl)
          try simp only [Act.put, List.setIfInBounds_toArray, List.set_cons_zero, List.set_cons_succ]
          refine t_take (i := 6) (d := (some 34)) (v := ?_) rfl rfl (by kernel_rfl) (fun _ _ _ h => h) (by rfl) (fun w' hb' => ?_) ?_
          rotate_left
          · (try go_simp); (try with_reducible rfl)
          try simp only [Act.put, List.setIfInBounds_toArray, List.set_cons_zero, List.set_cons_succ]
          refine t_take (i := 7) (d := (some 35)) (v := ?_) rfl rfl (by kernel_rfl) (fun _ _ _ h => h) (by rfl) (fun w' hb' => ?_) ?_
          rotate_left
          · (try go_simp); (try with_reducible rfl)
          try simp only [Act.put, List.setIfInBounds_toArray, List.set_cons_zero, List.set_cons_succ]
          refine t_take (i := 8) (d := (some 36)) (v := ?_) rfl rfl (by kernel_rfl) (fun _ _ _ h => h) (by rfl) (fun w' hb' => ?_) ?_
          rotate_left
          · (try go_simp); (try with_reducible rfl)
          try simp only [Act.put, List.setIfInBounds_toArray, List.set_cons_zero, List.set_cons_succ]
          refine t_take (i := 9) (d := (some 37)) (v := ?_) rfl rfl (by kernel_rfl) (fun _ _ _ h => h) (by rfl) (fun w' hb' => ?_) ?_
          rotate_left
          · have zc0 := (hb'.cell (p := ⟨b, off + j * 5, none⟩) hb).trans c0; have zc1 := (hb'.cell (p := ⟨b, off + j * 5 + 1, none⟩) hb).trans c1; have zc2 := (hb'.cell (p := ⟨b, off + j * 5 + 2, none⟩) hb).trans c2; have zc3 := (hb'.cell (p := ⟨b, off + j * 5 + 3, none⟩) hb).trans c3; have zc4 := (hb'.cell (p := ⟨b, off + j * 5 + 4, none⟩) hb).trans c4; (try go_simp); (try with_reducible rfl)
          try simp only [Act.put, List.setIfInBounds_toArray, List.set_cons_zero, List.set_cons_succ]
          refine t_run (i := 10) rfl (by kernel_rfl) (by kernel_rfl) (by rfl) (fun K hK => ?_)
          go_simp; refine (BYH.out _).mono ?_; rintro e w10 ⟨rfl, gg⟩; have hcell10 := ((Below.trans (Below.drew (Below.refl _ _)) gg).cell (p := ⟨g, m0, none⟩) hgl).trans hcell; have own10 := own_keep ownx (Below.trans (Below.drew (Below.refl _ _)) gg); have b10 := chain bx (Below.trans (Below.drew (Below.refl _ _)) gg); refine hK _ _ ⟨gg, ?_⟩; clear hK K gg
          try simp only [Act.put, List.setIfInBounds_toArray, List.set_cons_zero, List.set_cons_succ]
          refine t_take (i := 11) (d := (some 39)) (v := ?_) rfl rfl (by kernel_rfl) (fun _ _ _ h => h) (by rfl) (fun w' hb' => ?_) ?_
          rotate_left
          · (try go_simp); (try with_reducible rfl)
          try simp only [Act.put, List.setIfInBounds_toArray, List.set_cons_zero, List.set_cons_succ]
          refine t_take (i := 12) (d := (some 40)) (v := ?_) rfl rfl (by kernel_rfl) (fun _ _ _ h => h) (by rfl) (fun w' hb' => ?_) ?_
          rotate_left
          · (try go_simp); (try with_reducible rfl)
          try simp only [Act.put, List.setIfInBounds_toArray, List.set_cons_zero, List.set_cons_succ]
          refine t_last (i := 13) rfl (by kernel_rfl) (by kernel_rfl) (by kernel_rfl) (by rfl) (fun K hK => ?_)
          have fz := own10.frozenAt m0; have hg10 := (own10.lt g rfl); go_simp; refine hK _ _ ?_; clear hK K fz hcell10 hcell
          obtain ⟨own11, gr11⟩ := own10.stored m0 (.string (str (t ++ bytesI x)))
          have hg := own10.lt g rfl
          have b11 := Below.setCell (p := ⟨g, m0, none⟩) b10 hg.1 (.string (str (t ++ bytesI x)))
          clear own10 gr11 b10 hg ownx
          go_wp2_with fail
          refine ⟨⟨j + 1, LS, by omega, by push_cast; rfl, HLS, HLN.out, ?_, b11⟩, by simp [intOf]; omega⟩
          have hset := own11
          rw [HSET.out] at hset
          have hn := HLE.out
          rw [hn, HLS2.out]
          exact hset
        · have g8 : decide (8 < ((l.length - j : Nat) : Int)) = false := by rw [decide_eq_false_iff_not]; omega
          have hmn2 : mn = l.length - j := by omega
          have cv : IntKind.u8.wrap ((l.length - j : Nat) : Int) = (mn : Int) := by rw [IntKind.wrap_u8]; omega
          clear hls hLS1 hLS hPl hP hm0 hq hr hjq ht HL hx hmx hr8 h0 hmn hmn2
          subst hW1
          go_wp2_with (at_builtin; refine wpList_app1k sC_len (by decide) w rfl (.tmp 21) (.tmp 26) 56 rfl w.heap.size 9 is (.string ⟨#[]⟩) 16 Tryd.underlying56 his hs0 hs1 hs2 rfl _ ls rfl (by rw [HPL.out]; exact own1) _ t _ rfl (by rw [World.size_alloc]; rfl) sC_one (by rw [HPL.out]; unfold maxLen; omega) (by rw [HPL.out]; omega) (Nat.le_refl _) b1 ?_; intro v9 wx hown8 bx hq9; clear hq9)
          have hlen : (ls ++ [t]).length = m0 + 1 := by rw [List.length_append, HPL.out]; rfl
          have hown9 := hown8
          rw [hlen] at hown9
          have HLE := Lib.hid (show LS.length = m0 + 1 by rw [HLS2.out, List.length_append, HPL.out]; rfl)
          have R1 := HRD.out.below bx (Nat.le_refl _)
          obtain ⟨b, off, rfl, hb, c0, c1, c2, c3, c4⟩ := rdi_cells R1 j hlt
          rw [← HX.out] at c0 c1 c2 c3 c4
          clear R1 hown8 hlen own1 b1 bel hown k1 z1
          obtain ⟨g, cap', rfl, hgc, hgm⟩ := slice_of_own hown9 (by omega)
          have hgl := (hown9.lt g rfl).2
          have hcell : wx.cell? ⟨g, m0, none⟩ = some (.string (str t)) := by rw [hown9.cellAt m0 (by omega)]; exact HT0.out
          have ownx := hown9
          have s2 : IntKind.i64.wrap (((m0 + 1 : Nat) : Int) - 1) = (m0 : Int) := by rw [IntKind.wrap_i64]; omega
          have s5 : (m0 : Int) < (m0 : Int) + 1 := by omega
          have s4 : IntKind.i64.wrap (m0 : Int) = (m0 : Int) := by rw [IntKind.wrap_i64]; omega
          have s3 : IntKind.i64.wrap ((m0 : Int) + 1 - 1) = (m0 : Int) := by rw [IntKind.wrap_i64]; omega
          unfold maxLen at hgm
          clear hown9 HT0
          refine t_start 13 (by kernel_rfl) ?_
          refine t_take (i := 0) (d := (some 28)) (v := ?_) rfl rfl (by kernel_rfl) (fun _ _ _ h => h) (by rfl) (fun w' hb' => ?_) ?_
          rotate_left
          · (try go_simp); (try with_reducible rfl)
          try simp only [Act.put, List.setIfInBounds_toArray, List.set_cons_zero, List.set_cons_succ]
          refine t_take (i := 1) (d := (some 29)) (v := ?_) rfl rfl (by kernel_rfl) (fun _ _ _ h => h) (by rfl) (fun w' hb' => ?_) ?_
          rotate_left
          · (try go_simp); (try with_reducible rfl)
          try simp only [Act.put, List.setIfInBounds_toArray, List.set_cons_zero, List.set_cons_succ]
          refine t_take (i := 2) (d := (some 30)) (v := ?_) rfl rfl (by kernel_rfl) (fun _ _ _ h => h) (by rfl) (fun w' hb' => ?_) ?_
          rotate_left
          · (try go_simp); (try with_reducible rfl)
          try simp only [Act.put, List.setIfInBounds_toArray, List.set_cons_zero, List.set_cons_succ]
          refine t_take (i := 3) (d := (some 31)) (v := ?_) rfl rfl (by kernel_rfl) (fun _ _ _ h => h) (by rfl) (fun w' hb' => ?_) ?_
          rotate_left
          · (try go_simp); (try with_reducible rfl)
          try simp only [Act.put, List.setIfInBounds_toArray, List.set_cons_zero, List.set_cons_succ]
          refine t_take (i := 4) (d := (some 32)) (v := ?_) rfl rfl (by kernel_rfl) (fun _ _ _ h => h) (by rfl) (fun w' hb' => ?_) ?_
          rotate_left
          · (try go_simp); (try with_reducible rfl)
          try simp only [Act.put, List.setIfInBounds_toArray, List.set_cons_zero, List.set_cons_succ]
          refine t_take (i := 5) (d := (some 33)) (v := ?_) rfl rfl (by kernel_rfl) (fun _ _ _ h => h) (by rfl) (fun w' hb' => ?_) ?_
          rotate_left
          · have zz := (hb'.cell (p := ⟨g, m0, none⟩) hgl).trans hcell; (try go_simp); (try with_reducible rfl)
          try simp only [Act.put, List.setIfInBounds_toArray, List.set_cons_zero, List.set_cons_succ]
          refine t_take (i := 6) (d := (some 34)) (v := ?_) rfl rfl (by kernel_rfl) (fun _ _ _ h => h) (by rfl) (fun w' hb' => ?_) ?_
          rotate_left
          · (try go_simp); (try with_reducible rfl)
          try simp only [Act.put, List.setIfInBounds_toArray, List.set_cons_zero, List.set_cons_succ]
          refine t_take (i := 7) (d := (some 35)) (v := ?_) rfl rfl (by kernel_rfl) (fun _ _ _ h => h) (by rfl) (fun w' hb' => ?_) ?_
          rotate_left
          · (try go_simp); (try with_reducible rfl)
          try simp only [Act.put, List.setIfInBounds_toArray, List.set_cons_zero, List.set_cons_succ]
          refine t_take (i := 8) (d := (some 36)) (v := ?_) rfl rfl (by kernel_rfl) (fun _ _ _ h => h) (by rfl) (fun w' hb' => ?_) ?_
          rotate_left
          · (try go_simp); (try with_reducible rfl)
          try simp only [Act.put, List.setIfInBounds_toArray, List.set_cons_zero, List.set_cons_succ]
          refine t_take (i := 9) (d := (some 37)) (v := ?_) rfl rfl (by kernel_rfl) (fun _ _ _ h => h) (by rfl) (fun w' hb' => ?_) ?_
          rotate_left
          · have zc0 := (hb'.cell (p := ⟨b, off + j * 5, none⟩) hb).trans c0; have zc1 := (hb'.cell (p := ⟨b, off + j * 5 + 1, none⟩) hb).trans c1; have zc2 := (hb'.cell (p := ⟨b, off + j * 5 + 2, none⟩) hb).trans c2; have zc3 := (hb'.cell (p := ⟨b, off + j * 5 + 3, none⟩) hb).trans c3; have zc4 := (hb'.cell (p := ⟨b, off + j * 5 + 4, none⟩) hb).trans c4; (try go_simp); (try with_reducible rfl)
          try simp only [Act.put, List.setIfInBounds_toArray, List.set_cons_zero, List.set_cons_succ]
          refine t_run (i := 10) rfl (by kernel_rfl) (by kernel_rfl) (by rfl) (fun K hK => ?_)
          go_simp; refine (BYH.out _).mono ?_; rintro e w10 ⟨rfl, gg⟩; have hcell10 := ((Below.trans (Below.drew (Below.refl _ _)) gg).cell (p := ⟨g, m0, none⟩) hgl).trans hcell; have own10 := own_keep ownx (Below.trans (Below.drew (Below.refl _ _)) gg); have b10 := chain bx (Below.trans (Below.drew (Below.refl _ _)) gg); refine hK _ _ ⟨gg, ?_⟩; clear hK K gg
          try simp only [Act.put, List.setIfInBounds_toArray, List.set_cons_zero, List.set_cons_succ]
          refine t_take (i := 11) (d := (some 39)) (v := ?_) rfl rfl (by kernel_rfl) (fun _ _ _ h => h) (by rfl) (fun w' hb' => ?_) ?_
          rotate_left
          · (try go_simp); (try with_reducible rfl)
          try simp only [Act.put, List.setIfInBounds_toArray, List.set_cons_zero, List.set_cons_succ]
          refine t_take (i := 12) (d := (some 40)) (v := ?_) rfl rfl (by kernel_rfl) (fun _ _ _ h => h) (by rfl) (fun w' hb' => ?_) ?_
          rotate_left
          · (try go_simp); (try with_reducible rfl)
          try simp only [Act.put, List.setIfInBounds_toArray, List.set_cons_zero, List.set_cons_succ]
          refine t_last (i := 13) rfl (by kernel_rfl) (by kernel_rfl) (by kernel_rfl) (by rfl) (fun K hK => ?_)
          have fz := own10.frozenAt m0; have hg10 := (own10.lt g rfl); go_simp; refine hK _ _ ?_; clear hK K fz hcell10 hcell
          obtain ⟨own11, gr11⟩ := own10.stored m0 (.string (str (t ++ bytesI x)))
          have hg := own10.lt g rfl
          have b11 := Below.setCell (p := ⟨g, m0, none⟩) b10 hg.1 (.string (str (t ++ bytesI x)))
          clear own10 gr11 b10 hg ownx
          go_wp2_with fail
          refine ⟨⟨j + 1, LS, by omega, by push_cast; rfl, HLS, HLN.out, ?_, b11⟩, by simp [intOf]; omega⟩
          have hset := own11
          rw [HSET.out] at hset
          have hn := HLE.out
          rw [hn, HLS2.out]
          exact hset
      · have h0r : 0 < r := by omega
        obtain ⟨t, ht⟩ : ∃ t, t = partC l q r := ⟨_, rfl⟩
        have hls0 : ls = P ++ [t] := by rw [HL.out, hP, ht, hjq, lsOf_r l q r hr8 h0r]
        rw [← ht] at hLS1 hpl
        rw [hls0] at hown
        have hlen : (P ++ [t]).length = m0 + 1 := by rw [List.length_append, hPl]; rfl
        rw [hlen] at hown
        have HT0 := Lib.hid (show ((P ++ [t]).flatMap sC)[m0]? = some (.string (str t)) by rw [← hPl]; exact sC_at P t)
        have HSET := Lib.hid (show ((P ++ [t]).flatMap sC).set m0 (.string (str (t ++ bytesI x))) = (P ++ [t ++ bytesI x]).flatMap sC by rw [← hPl]; exact sC_set P t (t ++ bytesI x))
        have HLS2 := Lib.hid hLS1
        have HLN := Lib.hid (show LS.length ≤ 64 by rw [hLS1, List.length_append, hPl]; simp; omega)
        have HLE := Lib.hid (show LS.length = m0 + 1 by rw [hLS1, List.length_append, hPl]; rfl)
        have cat := cat_at t (bytesI x) (by omega)
        have hz : (str t).size = t.length := str_size t
        have t0 : ((j : Int) % 8 == 0) = false := by rw [beq_eq_false_iff_ne]; omega
        have t1 : ((j : Int).tmod 8 == 0) = false := by rw [Int.tmod_eq_emod_of_nonneg (by omega)]; exact t0
        have R1 := HRD.out.below bel (Nat.le_refl _)
        obtain ⟨b, off, rfl, hb, c0, c1, c2, c3, c4⟩ := rdi_cells R1 j hlt
        rw [← HX.out] at c0 c1 c2 c3 c4
        obtain ⟨wx, rfl⟩ : ∃ wx, wx = wr := ⟨_, rfl⟩
        have hown9 := hown
        have bx := bel
        clear R1 hls0 hlen hLS1 hLS hPl hP hm0 hq hr hjq ht HL hx hmx hown bel hr8 h0 h0r
        go_wp2_with fail
        obtain ⟨g, cap', rfl, hgc, hgm⟩ := slice_of_own hown9 (by omega)
        have hgl := (hown9.lt g rfl).2
        have hcell : wx.cell? ⟨g, m0, none⟩ = some (.string (str t)) := by rw [hown9.cellAt m0 (by omega)]; exact HT0.out
        have ownx := hown9
        have s2 : IntKind.i64.wrap (((m0 + 1 : Nat) : Int) - 1) = (m0 : Int) := by rw [IntKind.wrap_i64]; omega
        have s5 : (m0 : Int) < (m0 : Int) + 1 := by omega
        have s4 : IntKind.i64.wrap (m0 : Int) = (m0 : Int) := by rw [IntKind.wrap_i64]; omega
        have s3 : IntKind.i64.wrap ((m0 : Int) + 1 - 1) = (m0 : Int) := by rw [IntKind.wrap_i64]; omega
        unfold maxLen at hgm
        clear hown9 HT0
        refine t_start 13 (by kernel_rfl) ?_
        refine t_take (i := 0) (d := (some 28)) (v := ?_) rfl rfl (by kernel_rfl) (fun _ _ _ h => h) (by rfl) (fun w' hb' => ?_) ?_
        rotate_left
        · (try go_simp); (try with_reducible rfl)
        try simp only [Act.put, List.setIfInBounds_toArray, List.set_cons_zero, List.set_cons_succ]
        refine t_take (i := 1) (d := (some 29)) (v := ?_) rfl rfl (by kernel_rfl) (fun _ _ _ h => h) (by rfl) (fun w' hb' => ?_) ?_
        rotate_left
        · (try go_simp); (try with_reducible rfl)
        try simp only [Act.put, List.setIfInBounds_toArray, List.set_cons_zero, List.set_cons_succ]
        refine t_take (i := 2) (d := (some 30)) (v := ?_) rfl rfl (by kernel_rfl) (fun _ _ _ h => h) (by rfl) (fun w' hb' => ?_) ?_
        rotate_left
        · (try go_simp); (try with_reducible rfl)
        try simp only [Act.put, List.setIfInBounds_toArray, List.set_cons_zero, List.set_cons_succ]
        refine t_take (i := 3) (d := (some 31)) (v := ?_) rfl rfl (by kernel_rfl) (fun _ _ _ h => h) (by rfl) (fun w' hb' => ?_) ?_
        rotate_left
        · (try go_simp); (try with_reducible rfl)
        try simp only [Act.put, List.setIfInBounds_toArray, List.set_cons_zero, List.set_cons_succ]
        refine t_take (i := 4) (d := (some 32)) (v := ?_) rfl rfl (by kernel_rfl) (fun _ _ _ h => h) (by rfl) (fun w' hb' => ?_) ?_
        rotate_left
        · (try go_simp); (try with_reducible rfl)
        try simp only [Act.put, List.setIfInBounds_toArray, List.set_cons_zero, List.set_cons_succ]
        refine t_take (i := 5) (d := (some 33)) (v := ?_) rfl rfl (by kernel_rfl) (fun _ _ _ h => h) (by rfl) (fun w' hb' => ?_) ?_
        rotate_left
        · have zz := (hb'.cell (p := ⟨g, m0, none⟩) hgl).trans hcell; (try go_simp); (try with_reducible rfl)
        try simp only [Act.put, List.setIfInBounds_toArray, List.set_cons_zero, List.set_cons_succ]
        refine t_take (i := 6) (d := (some 34)) (v := ?_) rfl rfl (by kernel_rfl) (fun _ _ _ h => h) (by rfl) (fun w' hb' => ?_) ?_
        rotate_left
        · (try go_simp); (try with_reducible rfl)
        try simp only [Act.put, List.setIfInBounds_toArray, List.set_cons_zero, List.set_cons_succ]
        refine t_take (i := 7) (d := (some 35)) (v := ?_) rfl rfl (by kernel_rfl) (fun _ _ _ h => h) (by rfl) (fun w' hb' => ?_) ?_
        rotate_left
        · (try go_simp); (try with_reducible rfl)
        try simp only [Act.put, List.setIfInBounds_toArray, List.set_cons_zero, List.set_cons_succ]
        refine t_take (i := 8) (d := (some 36)) (v := ?_) rfl rfl (by kernel_rfl) (fun _ _ _ h => h) (by rfl) (fun w' hb' => ?_) ?_
        rotate_left
        · (try go_simp); (try with_reducible rfl)
        try simp only [Act.put, List.setIfInBounds_toArray, List.set_cons_zero, List.set_cons_succ]
        refine t_take (i := 9) (d := (some 37)) (v := ?_) rfl rfl (by kernel_rfl) (fun _ _ _ h => h) (by rfl) (fun w' hb' => ?_) ?_
        rotate_left
        · have zc0 := (hb'.cell (p := ⟨b, off + j * 5, none⟩) hb).trans c0; have zc1 := (hb'.cell (p := ⟨b, off + j * 5 + 1, none⟩) hb).trans c1; have zc2 := (hb'.cell (p := ⟨b, off + j * 5 + 2, none⟩) hb).trans c2; have zc3 := (hb'.cell (p := ⟨b, off + j * 5 + 3, none⟩) hb).trans c3; have zc4 := (hb'.cell (p := ⟨b, off + j * 5 + 4, none⟩) hb).trans c4; (try go_simp); (try with_reducible rfl)
        try simp only [Act.put, List.setIfInBounds_toArray, List.set_cons_zero, List.set_cons_succ]
        refine t_run (i := 10) rfl (by kernel_rfl) (by kernel_rfl) (by rfl) (fun K hK => ?_)
        go_simp; refine (BYH.out _).mono ?_; rintro e w10 ⟨rfl, gg⟩; have hcell10 := ((Below.trans (Below.drew (Below.refl _ _)) gg).cell (p := ⟨g, m0, none⟩) hgl).trans hcell; have own10 := own_keep ownx (Below.trans (Below.drew (Below.refl _ _)) gg); have b10 := chain bx (Below.trans (Below.drew (Below.refl _ _)) gg); refine hK _ _ ⟨gg, ?_⟩; clear hK K gg
        try simp only [Act.put, List.setIfInBounds_toArray, List.set_cons_zero, List.set_cons_succ]
        refine t_take (i := 11) (d := (some 39)) (v := ?_) rfl rfl (by kernel_rfl) (fun _ _ _ h => h) (by rfl) (fun w' hb' => ?_) ?_
        rotate_left
        · (try go_simp); (try with_reducible rfl)
        try simp only [Act.put, List.setIfInBounds_toArray, List.set_cons_zero, List.set_cons_succ]
        refine t_take (i := 12) (d := (some 40)) (v := ?_) rfl rfl (by kernel_rfl) (fun _ _ _ h => h) (by rfl) (fun w' hb' => ?_) ?_
        rotate_left
        · (try go_simp); (try with_reducible rfl)
        try simp only [Act.put, List.setIfInBounds_toArray, List.set_cons_zero, List.set_cons_succ]
        refine t_last (i := 13) rfl (by kernel_rfl) (by kernel_rfl) (by kernel_rfl) (by rfl) (fun K hK => ?_)
        have fz := own10.frozenAt m0; have hg10 := (own10.lt g rfl); go_simp; refine hK _ _ ?_; clear hK K fz hcell10 hcell
        obtain ⟨own11, gr11⟩ := own10.stored m0 (.string (str (t ++ bytesI x)))
        have hg := own10.lt g rfl
        have b11 := Below.setCell (p := ⟨g, m0, none⟩) b10 hg.1 (.string (str (t ++ bytesI x)))
        clear own10 gr11 b10 hg ownx
        go_wp2_with fail
        refine ⟨⟨j + 1, LS, by omega, by push_cast; rfl, HLS, HLN.out, ?_, b11⟩, by simp [intOf]; omega⟩
        have hset := own11
        rw [HSET.out] at hset
        have hn := HLE.out
        rw [hn, HLS2.out]
        exact hset
    · obtain rfl : j = l.length := by omega
      have E := Lib.hid (show R = ls by rw [HR.out, HL.out, lsOf_end])
      go_wp2_with fail
      go_ret
      rw [E.out]
      exact ⟨_, rfl, hown, bel⟩
end Go.Proofs.YtcehgfganjdghaaDoor
