/- Leaves: what a chunk's bytes are read as, by the document. Written by wip/tools/gen9z4.py. -/
import Derived.Test.YtoagdmglchccnaaGreatDoorQRR28
import Derived.Test.YtoagdmglchccnaaGreatDoorQRR22
namespace Go.Proofs.YtoagdmglchccnaaGreatDoor
open Go Go.RowKit
set_option linter.unusedVariables false
set_option linter.unusedSimpArgs false
def vfR (x : Nat) : Int := if x ≤ 2147483647 then (x : Int) else -1
theorem srt_0 {l : List It} (h1 : mayK l l.length = true) (h2 : ordK l l.length = true) : 0 = srtL l := by unfold srtL; rw [if_neg (by simp [h1]), if_neg (by simp [h2])]
theorem srt_3 {l : List It} (h1 : mayK l l.length = true) (h2 : ordK l l.length = false) : 3 = srtL l := by unfold srtL; rw [if_neg (by simp [h1]), if_pos h2]
set_option maxRecDepth 100000 in
set_option maxHeartbeats 2000000 in
theorem refCut9_any (l : List UInt8) (w : World) (tab : TabAt w) (h2000 : l.length ≤ 2000) :
    Calls Tryz.prog 97 #[.string (str l)] w (OwnIE w (chunkL vfR l).1 (chunkL vfR l).2) := by
  obtain ⟨R, hR⟩ : ∃ R, R = chunkL vfR l := ⟨_, rfl⟩
  rw [← hR]
  cases l with
  | nil =>
    have HR := Lib.hid hR
    have hz : (str []).toList.isEmpty = true := by rw [str_tl]; rfl
    clear hR
    go_enter Tryz.func97, Tryz.ntmps97
    go_wp2_with fail
    go_ret2
    exact end9_no (l := []) (E := 2) HR.out rfl (Below.refl _ _)
  | cons c r =>
    have hb0 := V7.byte0 c r
    have hne := V7.str_ne c r
    obtain ⟨l, hll⟩ : ∃ l, l = c :: r := ⟨_, rfl⟩
    have HRl := Lib.hid (show R = endC l (cutsL vfR c.toNat l 1 []) by rw [hR, hll]; rfl)
    obtain ⟨C, hC⟩ : ∃ C, C = c.toNat := ⟨_, rfl⟩
    have hC255 : C ≤ 255 := by have := c.toNat_lt; omega
    rw [← hC] at hb0 HRl
    have hpos : 0 < l.length := by rw [hll]; simp
    rw [← hll] at hb0 hne h2000
    have hsz : (str l).size = l.length := str_size l
    rw [← hll]
    obtain ⟨i0, hi, hz0, hz1, hz2⟩ := info_parts item_info
    clear hR hll hC
    go_enter Tryz.func97, Tryz.ntmps97
    go_wp2_with fail
    go_loopw [4, 5, 6] (fun o a i wr => ∃ (j p : Nat) (acc : List It), j ≤ C ∧ i = .int .i64 (j : Int) ∧ a = .int .i64 (p : Int) ∧ p ≤ l.length ∧ acc.length ≤ j ∧ Hid (cutsL vfR (C - j) l p acc = cutsL vfR C l 1 []) ∧ Hid (SzI acc) ∧ wr.ownsRow w.heap.size 154 5 o acc.length (acc.flatMap itC) ∧ Below w.heap.size w wr) (fun _ _ i _ => 300 - (intOf i).toNat)
    case atStart => exact ⟨0, 1, [], Nat.zero_le _, rfl, rfl, hpos, Nat.le_refl _, Lib.hid rfl, Lib.hid (fun x hx => by simp at hx), World.ownsRow_nil _ _ _ _, Below.refl _ _⟩
    case round =>
      obtain ⟨j, p, acc, hj, rfl, rfl, hp, hacc, HC, HS, hown, bel⟩ := hrel
      by_cases hlt : j < C
      · obtain ⟨D, hD⟩ : ∃ D, C - j = D + 1 := ⟨C - j - 1, by omega⟩
        have ex1 : (str l).extract p l.length = str (l.drop p) := by rw [str_extract, List.take_of_length_le (by rw [List.length_drop]; exact Nat.le_refl _)]
        obtain ⟨k, n, e, h1⟩ : ∃ k n e, cutTextL (l.drop p) = (k, n, e) := ⟨_, _, _, rfl⟩
        obtain ⟨x0, n0, c0, hc0⟩ : ∃ x n c, cutL (l.drop p) = (x, n, c) := ⟨_, _, _, rfl⟩
        have f1 := V7.cutTextL_len h1
        rw [List.length_drop] at f1
        have CT0 := fun W => refCutText_at (l.drop p) x0 n0 c0 hc0 (by rw [List.length_drop]; omega) W
        rw [h1] at CT0
        have CT := Lib.hid CT0
        clear CT0 hc0
        by_cases he : e = 0
        · subst he
          have ex2 : (str l).extract (p + n) l.length = str (l.drop (p + n)) := by rw [str_extract, List.take_of_length_le (by rw [List.length_drop]; exact Nat.le_refl _)]
          obtain ⟨a, b, s, m, e, h2⟩ : ∃ a b s m e, V7.cutVL ((l.drop p).drop n) = ((a, b, s), m, e) := ⟨_, _, _, _, _, rfl⟩
          have f2 := cutVL_len h2
          rw [List.length_drop, List.length_drop] at f2
          have CV0 := fun W => V7.refCutV_any ((l.drop p).drop n) (by rw [List.length_drop, List.length_drop]; omega) W
          rw [h2] at CV0
          unfold V7.cutT at CV0
          rw [List.drop_drop] at CV0
          have CV := Lib.hid CV0
          have s1 : IntKind.i64.wrap ((p : Int) + (n : Int)) = ((p + n : Nat) : Int) := by rw [IntKind.wrap_i64]; omega
          clear CV0
          by_cases he : e = 0
          · subst he
            have ex3 : (str l).extract (p + n + m) l.length = str (l.drop (p + n + m)) := by rw [str_extract, List.take_of_length_le (by rw [List.length_drop]; exact Nat.le_refl _)]
            obtain ⟨x, o, e, h3⟩ : ∃ x o e, cutL ((l.drop p).drop (n + m)) = (x, o, e) := ⟨_, _, _, rfl⟩
            have f3 := cutL_facts h3
            rw [List.length_drop, List.length_drop] at f3
            have CN0 := fun W => refCut_at ((l.drop p).drop (n + m)) x o e h3 (by rw [List.length_drop, List.length_drop]; unfold maxLen; omega) W
            rw [List.drop_drop, ← Nat.add_assoc] at CN0
            have CN := Lib.hid CN0
            clear CN0
            have s2 : IntKind.i64.wrap (((p + n : Nat) : Int) + (m : Int)) = ((p + n + m : Nat) : Int) := by rw [IntKind.wrap_i64]; omega
            by_cases he : e = 0
            · subst he
              have hce := cutIL_4 (vf := vfR) h1 h2 h3
              have HC2x := Lib.hid (show cutsL vfR (C - (j + 1)) l (p + n + m + o) (acc ++ [⟨k, ⟨a, b, s⟩, vfR x⟩]) = cutsL vfR C l 1 [] by rw [← HC.out, hD, cutsL_ok hce]; congr 1; omega; omega)
              have HSx := Lib.hid (show ∀ ver, SzI (acc ++ [⟨k, ⟨a, b, s⟩, ver⟩]) by
                intro ver y hy
                rcases List.mem_append.1 hy with h | h
                · exact HS.out y h
                · rw [List.mem_singleton] at h; subst h; unfold maxLen; exact ⟨(show k.length ≤ _ by omega), (show s.length ≤ _ by omega)⟩)
              have s3 : IntKind.i64.wrap (((p + n + m : Nat) : Int) + (o : Int)) = ((p + n + m + o : Nat) : Int) := by rw [IntKind.wrap_i64]; omega
              have hx64 := f3.1
              have fo : o ≤ 10 := f3.2.2.1
              have fo2 : o ≤ l.length - p - (n + m) := f3.2.1
              obtain ⟨f11, f12, f13, f14⟩ := f1
              obtain ⟨f21, f22, f23, f24⟩ := f2
              have hcv : IntKind.i64.wrap (x : Int) = wrap64 (x : Int) := wrap64_of_u64 x
              clear hce hD HC HS h1 h2 h3 f3 f24
              by_cases hx : x ≤ 2147483647
              · have HS2 := Lib.hid (HSx.out (x : Int))
                have HC2 := Lib.hid (show cutsL vfR (C - (j + 1)) l (p + n + m + o) (acc ++ [⟨k, ⟨a, b, s⟩, (x : Int)⟩]) = cutsL vfR C l 1 [] by have h := HC2x.out; rw [show vfR x = (x : Int) from if_pos hx] at h; exact h)
                clear HSx HC2x hcv hx64
                skip
                go_wp2_with fail
                refine (CT.out _).mono ?_
                rintro e1 w1 ⟨rfl, rfl⟩
                go_wp2_with fail
                refine (CV.out _).mono ?_
                rintro e2 w2 ⟨rfl, g2⟩
                have b2 := chain bel g2
                have own2 := own_keep hown g2
                have b3 := b2.alloc b2.size (.cells #[.int .i64 a, .int .i64 b, .string (str s)] 145)
                have own3 := own_keep own2 ((Below.refl w2.heap.size w2).alloc (Nat.le_refl _) (.cells #[.int .i64 a, .int .i64 b, .string (str s)] 145))
                have b4 := b3.alloc b3.size (.cells #[.string (str k), .int .i64 a, .int .i64 b, .string (str s), .int .i64 (x : Int)] 154)
                have own4 := own_keep own3 ((Below.refl _ (w2.alloc (.cells #[.int .i64 a, .int .i64 b, .string (str s)] 145))).alloc (Nat.le_refl _) (.cells #[.string (str k), .int .i64 a, .int .i64 b, .string (str s), .int .i64 (x : Int)] 154))
                clear g2 own2 hown bel b2 own3 b3
                go_wp2_with fail
                refine (CN.out _).mono ?_
                rintro e3 w3 ⟨rfl, rfl⟩
                go_wp2_with (at_builtin; refine wpList_app1k itC_len (by decide) w rfl (.tmp 74) (.tmp 76) 23 rfl w.heap.size 154 i0 (.agg #[.string ⟨#[]⟩, .int .i64 0, .int .i64 0, .string ⟨#[]⟩, .int .i64 0]) 56 Tryz.underlying23 hi hz0 hz1 hz2 rfl _ _ rfl own4 _ ⟨k, ⟨a, b, s⟩, (x : Int)⟩ _ rfl (by rw [World.size_alloc, World.size_alloc]; rfl) itC_one (by unfold maxLen; omega) (by omega) (Nat.le_refl _) b4 ?_; intro v9 w9 own9 b9 hq9; clear hq9)
                exact ⟨⟨j + 1, p + n + m + o, acc ++ [⟨k, ⟨a, b, s⟩, (x : Int)⟩], by omega, by push_cast; rfl, by push_cast; rfl, by omega, by simp; omega, HC2, HS2, own9, b9⟩, by simp [intOf]; omega⟩
              · have HS2 := Lib.hid (HSx.out (-1))
                have HC2 := Lib.hid (show cutsL vfR (C - (j + 1)) l (p + n + m + o) (acc ++ [⟨k, ⟨a, b, s⟩, -1⟩]) = cutsL vfR C l 1 [] by have h := HC2x.out; rw [show vfR x = -1 from if_neg hx] at h; exact h)
                have HX64 := Lib.hid hx64
                clear HSx HC2x hcv hx64
                skip
                go_wp2_with fail
                refine (CT.out _).mono ?_
                rintro e1 w1 ⟨rfl, rfl⟩
                go_wp2_with fail
                refine (CV.out _).mono ?_
                rintro e2 w2 ⟨rfl, g2⟩
                have b2 := chain bel g2
                have own2 := own_keep hown g2
                have b3 := b2.alloc b2.size (.cells #[.int .i64 a, .int .i64 b, .string (str s)] 145)
                have own3 := own_keep own2 ((Below.refl w2.heap.size w2).alloc (Nat.le_refl _) (.cells #[.int .i64 a, .int .i64 b, .string (str s)] 145))
                have b4 := b3.alloc b3.size (.cells #[.string (str k), .int .i64 a, .int .i64 b, .string (str s), .int .i64 (-1)] 154)
                have own4 := own_keep own3 ((Below.refl _ (w2.alloc (.cells #[.int .i64 a, .int .i64 b, .string (str s)] 145))).alloc (Nat.le_refl _) (.cells #[.string (str k), .int .i64 a, .int .i64 b, .string (str s), .int .i64 (-1)] 154))
                clear g2 own2 hown bel b2 own3 b3
                go_wp2_with fail
                refine (CN.out _).mono ?_
                rintro e3 w3 ⟨rfl, rfl⟩
                go_wp2_with (at_builtin; refine wpList_app1k itC_len (by decide) w rfl (.tmp 74) (.tmp 76) 23 rfl w.heap.size 154 i0 (.agg #[.string ⟨#[]⟩, .int .i64 0, .int .i64 0, .string ⟨#[]⟩, .int .i64 0]) 56 Tryz.underlying23 hi hz0 hz1 hz2 rfl _ _ rfl own4 _ ⟨k, ⟨a, b, s⟩, (-1)⟩ _ rfl (by rw [World.size_alloc, World.size_alloc]; rfl) itC_one (by unfold maxLen; omega) (by omega) (Nat.le_refl _) b4 ?_; intro v9 w9 own9 b9 hq9; clear hq9)
                exact ⟨⟨j + 1, p + n + m + o, acc ++ [⟨k, ⟨a, b, s⟩, (-1)⟩], by omega, by push_cast; rfl, by push_cast; rfl, by omega, by simp; omega, HC2, HS2, own9, b9⟩, by simp [intOf]; omega⟩
            · have hce := cutIL_3 (vf := vfR) h1 h2 h3 he
              have HN := Lib.hid (show R = ([], e) by rw [HRl.out, ← HC.out, hD, cutsL_err hce he]; simp [endC, he])
              have hen := (V7.bne_int he).1
              obtain ⟨f11, f12, f13, f14⟩ := f1
              obtain ⟨f21, f22, f23, f24⟩ := f2
              clear hce hD HC HS h1 h2 h3 f3 f24 he
              go_wp2_with fail
              refine (CT.out _).mono ?_
              rintro e1 w1 ⟨rfl, rfl⟩
              go_wp2_with fail
              refine (CV.out _).mono ?_
              rintro e2 w2 ⟨rfl, g2⟩
              have b2 := chain bel g2
              have b3 := b2.alloc b2.size (.cells #[.int .i64 a, .int .i64 b, .string (str s)] 145)
              clear g2 b2
              go_wp2_with fail
              refine (CN.out _).mono ?_
              rintro e3 w3 ⟨rfl, rfl⟩
              go_wp2_with fail
              go_ret2
              exact end9_no (l := l) HN.out rfl b3
          · have hce := cutIL_2 (vf := vfR) h1 h2 he
            have HN := Lib.hid (show R = ([], e) by rw [HRl.out, ← HC.out, hD, cutsL_err hce he]; simp [endC, he])
            have hen := (V7.bne_int he).1
            obtain ⟨f11, f12, f13, f14⟩ := f1
            obtain ⟨f21, f22, f23, f24⟩ := f2
            clear hce hD HC HS h1 h2 f24 he
            go_wp2_with fail
            refine (CT.out _).mono ?_
            rintro e1 w1 ⟨rfl, rfl⟩
            go_wp2_with fail
            refine (CV.out _).mono ?_
            rintro e2 w2 ⟨rfl, g2⟩
            have b2 := chain bel g2
            have b3 := b2.alloc b2.size (.cells #[.int .i64 a, .int .i64 b, .string (str s)] 145)
            clear g2 b2
            go_wp2_with fail
            go_ret2
            exact end9_no (l := l) HN.out rfl b3
        · have hce := cutIL_1 (vf := vfR) h1 he
          have HN := Lib.hid (show R = ([], e) by rw [HRl.out, ← HC.out, hD, cutsL_err hce he]; simp [endC, he])
          have hen := (V7.bne_int he).1
          obtain ⟨f11, f12, f13, f14⟩ := f1
          clear hce hD HC HS h1 he
          go_wp2_with fail
          refine (CT.out _).mono ?_
          rintro e1 w1 ⟨rfl, rfl⟩
          go_wp2_with fail
          go_ret2
          exact end9_no (l := l) HN.out rfl bel
      · obtain rfl : j = C := by omega
        obtain ⟨w1, rfl⟩ : ∃ w1, w1 = wr := ⟨_, rfl⟩
        have HE := Lib.hid (show R = endC l (acc, p, 0) by rw [HRl.out, ← HC.out]; simp [cutsL])
        have hrd := OwnI.rd (w := w) hown
        obtain ⟨ao, cp, rfl, k1, k2⟩ := slice_of_rd hrd
        have RA := Lib.hid hrd
        have BW := Lib.hid (Below.refl w1.heap.size w1)
        have TW := Lib.hid (tab.below bel)
        have OW := Lib.hid hown
        have BE := Lib.hid bel
        clear hrd hown bel tab HC HRl hlt
        go_wp2_with fail
        go_loopw [13] (fun i wq => ∃ q : Nat, q ≤ acc.length ∧ i = .int .i64 (q : Int) ∧ Hid (mayK acc q = true) ∧ Below w1.heap.size w1 wq) (fun i _ => 300 - (intOf i).toNat)
        case atStart => exact ⟨0, Nat.zero_le _, rfl, Lib.hid (mayK_0 acc), BW.out⟩
        case round =>
          obtain ⟨q, hq, rfl, HM, bel⟩ := hrel
          by_cases hlq : q < acc.length
          · have R1 := RA.out.below bel (Nat.le_refl _)
            obtain ⟨b, off, rfl, hb, c0, c1, c2, c3, c4⟩ := rdi_cells R1 q hlq
            obtain ⟨x, hx⟩ : ∃ x, x = acc[q] := ⟨_, rfl⟩
            rw [← hx] at c0 c1 c2 c3 c4
            have hxs := HS.out _ (List.getElem_mem hlq)
            rw [← hx] at hxs
            have M1 := (refLeafMay_any x hxs.1 hxs.2).at _ (TW.out.below bel)
            unfold itV at M1
            have HX := Lib.hid hx
            clear R1 hx hxs
            cases hm : mayI x with
            | false =>
              rw [hm] at M1
              have HN := Lib.hid (show R = ([], 1) from endC_no HE.out (fin_s (srtL_may hlq (by rw [← HX.out]; exact hm)).symm (by omega)) (by omega))
              clear hm
              go_wp2_with fail
              refine M1.mono ?_
              rintro e2 w2 ⟨rfl, g2⟩
              have b2 := chain BE.out (chain bel g2)
              clear g2 M1
              go_wp2_with fail
              go_ret2
              exact end9_no (l := l) HN.out rfl b2
            | true =>
              rw [hm] at M1
              have HM2 := Lib.hid (show mayK acc (q + 1) = true by rw [mayK_succ hlq, HM.out, ← HX.out, hm]; rfl)
              clear hm
              go_wp2_with fail
              refine M1.mono ?_
              rintro e2 w2 ⟨rfl, g2⟩
              have b2 := chain bel g2
              clear g2 M1 bel
              go_wp2_with fail
              exact ⟨⟨q + 1, by omega, by push_cast; rfl, HM2, b2⟩, by simp [intOf]; omega⟩
          · obtain rfl : q = acc.length := by omega
            have BU := Lib.hid bel
            go_wp2_with fail
            go_loopw [14] (fun i wz => ∃ t : Nat, 1 ≤ t ∧ t ≤ acc.length + 1 ∧ (2 ≤ t → t ≤ acc.length) ∧ i = .int .i64 (t : Int) ∧ Hid (ordK acc t = true) ∧ Below w1.heap.size w1 wz) (fun i _ => 300 - (intOf i).toNat)
            case atStart => exact ⟨1, by omega, by omega, by omega, rfl, Lib.hid (ordK_1 acc), BU.out⟩
            case round =>
              clear bel
              obtain ⟨t, ht0, ht, ht2, rfl, HO, bel⟩ := hrel
              by_cases hlt : t < acc.length
              · obtain ⟨u, hu⟩ : ∃ u, t = u + 1 := ⟨t - 1, by omega⟩
                have hul : u < acc.length := by omega
                have R1 := RA.out.below bel (Nat.le_refl _)
                obtain ⟨b, off, rfl, hb, c0, c1, c2, c3, c4⟩ := rdi_cells R1 t hlt
                obtain ⟨b', off', hbo, -, e0, -⟩ := rdi_cells R1 u hul
                cases hbo
                obtain ⟨x, hx⟩ : ∃ x, x = acc[t] := ⟨_, rfl⟩
                obtain ⟨y, hy⟩ : ∃ y, y = acc[u] := ⟨_, rfl⟩
                rw [← hx] at c0 c1 c2 c3 c4
                rw [← hy] at e0
                have hxk : x.key.length ≤ maxLen := by rw [hx]; exact (HS.out _ (List.getElem_mem _)).1
                have hyk : y.key.length ≤ maxLen := by rw [hy]; exact (HS.out _ (List.getElem_mem _)).1
                have s1 : IntKind.i64.wrap ((t : Int) - 1) = (u : Int) := by rw [IntKind.wrap_i64]; omega
                have s2 : (t : Int) - 1 = (u : Int) := by omega
                have AQ0 := fun W => ahead_q y.key x.key W hyk hxk
                have KY := Lib.hid (show keyAt acc u = y.key by rw [keyAt_of hul, hy])
                have KX := Lib.hid (show keyAt acc (u + 1) = x.key by subst hu; rw [keyAt_of hlt, hx])
                have HX := Lib.hid (show ∀ h : u + 1 < acc.length, acc[u + 1] = x by subst hu; exact fun _ => hx.symm)
                have HY := Lib.hid hy
                have HU := Lib.hid hu
                clear hx hy hu R1
                cases ho : ltB y.key x.key with
                | false =>
                  have HN := Lib.hid (show R = ([], 3) from endC_no HE.out (fin_s (srt_3 HM.out (ordK_no (j := u) (by have := HU.out; omega) (by rw [HX.out (by have := HU.out; omega), ← HY.out]; exact ho))) (by omega)) (by omega))
                  simp only [ho] at AQ0
                  have AQH := Lib.hid AQ0
                  clear ho AQ0
                  go_wp2_with fail
                  go_quiet ((go_at_call 87; exact Calls.quiet_of (AQH.out _)))
                  have B3 := chain BE.out (below_drewN (k := nq) bel)
                  go_wp2_with fail
                  go_ret2
                  exact end9_no (l := l) HN.out rfl B3
                | true =>
                  have HO2 := Lib.hid (show ordK acc (t + 1) = true by have hu := HU.out; subst hu; rw [ordK_succ, HO.out, KY.out, KX.out, ho]; rfl)
                  simp only [ho] at AQ0
                  have AQH := Lib.hid AQ0
                  clear ho AQ0
                  go_wp2_with fail
                  go_quiet ((go_at_call 87; exact Calls.quiet_of (AQH.out _)))
                  have B3 := below_drewN (k := nq) bel
                  go_wp2_with fail
                  exact ⟨⟨t + 1, by omega, by omega, by omega, by push_cast; rfl, HO2, B3⟩, by simp [intOf]; omega⟩
              · have hO : ordK acc acc.length = true := by
                  by_cases h : acc.length = 0
                  · rw [h]; rfl
                  · have : t = acc.length := by omega
                    rw [← this]; exact HO.out
                have S0 := Lib.hid (srt_0 HM.out hO)
                clear hO
                have bq := chain BE.out bel
                by_cases h1 : acc.length < 1
                · have HN := Lib.hid (show R = ([], 4) from endC_no HE.out (fin_4 S0.out (by omega)) (by omega))
                  have t1 : decide ((acc.length : Int) < 1) = true := by simp; omega
                  go_wp2_with fail
                  go_ret2
                  exact end9_no (l := l) HN.out rfl bq
                · have t1 : decide ((acc.length : Int) < 1) = false := by simp; omega
                  by_cases h8 : 8 < acc.length
                  · have HN := Lib.hid (show R = ([], 4) from endC_no HE.out (fin_4 S0.out (by omega)) (by omega))
                    have t2 : decide (8 < (acc.length : Int)) = true := by simp; omega
                    go_wp2_with fail
                    go_ret2
                    exact end9_no (l := l) HN.out rfl bq
                  · have t2 : decide (8 < (acc.length : Int)) = false := by simp; omega
                    by_cases h7 : p < l.length
                    · have HN := Lib.hid (show R = ([], 7) from endC_no HE.out (fin_7 S0.out (by omega) h7) (by omega))
                      go_wp2_with fail
                      go_ret2
                      exact end9_no (l := l) HN.out rfl bq
                    · have HN := Lib.hid (show finL acc p l.length = 0 from fin_0 S0.out (by omega) h7)
                      have own2 := own_keep OW.out bel
                      go_wp2_with fail
                      go_ret2
                      exact end9 HE.out HN.out own2 bq
end Go.Proofs.YtoagdmglchccnaaGreatDoor
