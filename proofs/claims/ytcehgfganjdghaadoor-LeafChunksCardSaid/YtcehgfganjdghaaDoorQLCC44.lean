/- Leaves: what chunks are read as, by the document. Written by wip/tools/gen9z7.py. -/
import Derived.Test.YtcehgfganjdghaaDoorQLCC41
import Derived.Test.YtcehgfganjdghaaDoorQLCC43
namespace Go.Proofs.YtcehgfganjdghaaDoor
open Go Go.RowKit
set_option linter.unusedVariables false
set_option linter.unusedSimpArgs false
def headB (c : List UInt8) : Nat := (c.getD 0 0).toNat
theorem cutsL_len {vf : Nat → Int} : ∀ (n : Nat) (l : List UInt8) (a : Nat) (acc its : List It) (p : Nat), cutsL vf n l a acc = (its, p, 0) → its.length = acc.length + n
  | 0, _, _, _, _, _, h => by cases h; rfl
  | n + 1, l, a, acc, its, p, h => by
    obtain ⟨x, m, e, hc⟩ : ∃ x m e, cutIL vf (l.drop a) = (x, m, e) := ⟨_, _, _, rfl⟩
    by_cases he : e = 0
    · subst he
      rw [cutsL_ok hc] at h
      have := cutsL_len n l _ _ _ _ h
      rw [List.length_append] at this
      simp at this
      omega
    · rw [cutsL_err hc he] at h
      cases h
      exact absurd rfl he
theorem chunkL_head {vf : Nat → Int} {c : List UInt8} {its : List It} (h : chunkL vf c = (its, 0)) : its.length = headB c ∧ 0 < c.length := by
  cases c with
  | nil => cases h
  | cons d r =>
    have h2 : (endC (d :: r) (cutsL vf d.toNat (d :: r) 1 [])).2 = 0 := by have := congrArg Prod.snd h; exact this
    have h1 : (endC (d :: r) (cutsL vf d.toNat (d :: r) 1 [])).1 = its := by have := congrArg Prod.fst h; exact this
    obtain ⟨h3, h4, h5⟩ := endC_zero h2
    obtain ⟨a, b, e, hc⟩ : ∃ a b e, cutsL vf d.toNat (d :: r) 1 [] = (a, b, e) := ⟨_, _, _, rfl⟩
    rw [hc] at h3 h5 h1
    simp only at h3
    subst h3
    have := cutsL_len _ _ _ _ _ _ hc
    rw [h5] at h1
    simp only at h1
    subst h1
    exact ⟨by rw [this]; simp [headB], by simp⟩
/-- Which chunk is the first that is not full, of the first j. -/
def OddI (ls : List (List UInt8)) (j : Nat) (odd : Int) : Prop :=
  (odd = -1 ∧ ∀ i, i < j → headB (ls.getD i []) = 8) ∨ (∃ k : Nat, odd = (k : Int) ∧ k < j ∧ headB (ls.getD k []) ≠ 8 ∧ ∀ i, i < k → headB (ls.getD i []) = 8)
theorem oddI_step {ls : List (List UInt8)} {j : Nat} {odd : Int} {n : Nat} (h : OddI ls j odd) (hn : n = headB (ls.getD j [])) : OddI ls (j + 1) (if odd < 0 ∧ n ≠ 8 then (j : Int) else odd) := by
  rcases h with ⟨rfl, h⟩ | ⟨k, rfl, h1, h2, h3⟩
  · by_cases h8 : n = 8
    · rw [if_neg (by omega)]
      refine .inl ⟨rfl, fun i hi => ?_⟩
      by_cases hij : i = j
      · subst hij; omega
      · exact h i (by omega)
    · rw [if_pos ⟨by omega, h8⟩]
      exact .inr ⟨j, rfl, by omega, by omega, h⟩
  · rw [if_neg (by omega)]
    exact .inr ⟨k, rfl, by omega, h2, h3⟩
theorem oddI_at {ls : List (List UInt8)} {n i : Nat} {odd : Int} (h : OddI ls n odd) (hi : i < n) (h1 : ∀ k, k < i → headB (ls.getD k []) = 8) (h2 : headB (ls.getD i []) ≠ 8) : odd = (i : Int) := by
  rcases h with ⟨rfl, h⟩ | ⟨k, rfl, h3, h4, h5⟩
  · exact absurd (h i hi) h2
  · rcases Nat.lt_trichotomy k i with hk | hk | hk
    · exact absurd (h1 k hk) h4
    · rw [hk]
    · exact absurd (h5 i hk) h2
theorem oddI_end {ls : List (List UInt8)} {n : Nat} {odd : Int} (h : OddI ls n odd) (h1 : ∀ k, k + 1 < n → headB (ls.getD k []) = 8) : ¬ (0 ≤ odd ∧ odd + 1 < (n : Int)) := by
  rcases h with ⟨rfl, h⟩ | ⟨k, rfl, h3, h4, h5⟩
  · omega
  · intro hh
    exact h4 (h1 k (by omega))
theorem rdk_sC {w : World} {ao : Option Addr} {n cap : Nat} {l : List (List UInt8)} (h : RdK 1 sC w (.slice ao n cap) l) (j : Nat) (hj : j < l.length) : ∃ b off, ao = some ⟨b, off, none⟩ ∧ b < w.heap.size ∧ w.cell? ⟨b, off + j, none⟩ = some (.string (str (l.getD j []))) := by
  obtain ⟨b, off, h1, h2, h3⟩ := RdK.cell sC_len h j hj
  refine ⟨b, off, h1, h2, ?_⟩
  have := h3 0 (by omega)
  rw [Nat.mul_one, Nat.add_zero] at this
  rw [this]
  simp [sC, List.getD, hj]
set_option maxRecDepth 100000 in
set_option maxHeartbeats 1000000 in
theorem refOf9_any (v : Value) (ls : List (List UInt8)) (w : World) (tab : TabAt w) (h : RdK 1 sC w v ls) (hn : ls.length ≤ 100) (h2000 : ∀ c ∈ ls, c.length ≤ 2000) :
    Calls Tryd.prog 34 #[v] w (Own3 w (ofL vfR ls).1 (ofL vfR ls).2.1 (ofL vfR ls).2.2) := by
  obtain ⟨R, hR⟩ : ∃ R, R = ofL vfR ls := ⟨_, rfl⟩
  rw [← hR]
  obtain ⟨ao, cap, rfl, hl, hm, hrk⟩ := RdK.open h
  have HRl := Lib.hid (show R = ofE ls.length (ofGo vfR ls 0 [] (-1)) from hR)
  have HRD := Lib.hid hrk
  have H2 := Lib.hid (show ∀ j, (ls.getD j []).length ≤ 2000 by
    intro j
    by_cases hj : j < ls.length
    · have : ls.getD j [] = ls[j] := by simp [List.getD, hj]
      rw [this]; exact h2000 _ (List.getElem_mem _)
    · have : ls.getD j [] = [] := by simp [List.getD, Nat.not_lt.1 hj]
      rw [this]; simp)
  obtain ⟨i0, hi, hz0, hz1, hz2⟩ := info_parts item_info
  clear hR h hrk h2000
  go_enter Tryd.func34, Tryd.ntmps34
  go_wp2_with fail
  go_loopw [5, 6] (fun o i wr => ∃ (j : Nat) (acc : List It) (odd : Int), j ≤ ls.length ∧ i = .int .i64 (j : Int) ∧ acc.length ≤ 8 * j ∧ Hid (OddI ls j odd) ∧ Hid (ofGo vfR (ls.drop j) j acc odd = ofGo vfR ls 0 [] (-1)) ∧ Hid (∀ k, k < j → 0 < (ls.getD k []).length) ∧ Hid (SzI acc) ∧ wr.ownsRow w.heap.size 32 5 o acc.length (acc.flatMap itC) ∧ Below w.heap.size w wr) (fun _ i _ => 200 - (intOf i).toNat)
  case atStart => exact ⟨0, [], -1, Nat.zero_le _, rfl, Nat.le_refl _, Lib.hid (.inl ⟨rfl, fun i hi => by omega⟩), Lib.hid rfl, Lib.hid (fun k hk => by omega), Lib.hid (fun x hx => by simp at hx), World.ownsRow_nil _ _ _ _, Below.refl _ _⟩
  case round =>
    obtain ⟨j, acc, odd, hj, rfl, hacc, HO, HC, HP, HS, hown, bel⟩ := hrel
    by_cases hlt : j < ls.length
    · obtain ⟨b, off, rfl, hb, hc⟩ := rdk_sC (HRD.out.below bel (Nat.le_refl _)) j hlt
      obtain ⟨c, hcc⟩ : ∃ c, c = ls.getD j [] := ⟨_, rfl⟩
      rw [← hcc] at hc
      have hc2 : c.length ≤ 2000 := by rw [hcc]; exact H2.out j
      obtain ⟨its, e, hce⟩ : ∃ its e, chunkL vfR c = (its, e) := ⟨_, _, rfl⟩
      have CU := refCut9_any c wr (tab.below bel) hc2
      rw [hce] at CU
      have hdr := drop_step hlt
      rw [← hcc] at hdr
      by_cases he : e = 0
      · subst he
        obtain ⟨k1, k8, ksz, _⟩ := chunkL_facts hce
        have hhd := chunkL_head hce
        have HO2 := Lib.hid (oddI_step HO.out (show its.length = headB (ls.getD j []) by rw [← hcc]; exact hhd.1))
        have HP2 := Lib.hid (show ∀ k, k < j + 1 → 0 < (ls.getD k []).length by
          intro k hk
          by_cases h : k = j
          · subst h; rw [← hcc]; exact hhd.2
          · exact HP.out k (by omega))
        have HS2 := Lib.hid (show SzI (acc ++ its) from fun y hy => (List.mem_append.1 hy).elim (HS.out y) (ksz y))
        have HK := Lib.hid (show ofGo vfR (ls.drop (j + 1)) (j + 1) (acc ++ its) (if odd < 0 ∧ its.length ≠ 8 then (j : Int) else odd) = ofGo vfR ls 0 [] (-1) by rw [← HC.out, hdr, ofGo_ok hce])
        obtain ⟨odd2, hodd2⟩ : ∃ o, o = (if odd < 0 ∧ its.length ≠ 8 then (j : Int) else odd) := ⟨_, rfl⟩
        rw [← hodd2] at HO2 HK
        clear hce hdr HC HS ksz hodd2 HO HP hhd hcc
        go_wp2_with fail
        refine CU.mono ?_
        rintro e2 w2 ⟨v2, rfl, own2, g2⟩
        have hr2 := OwnI.rd (w := w) own2
        obtain ⟨a2, c2, rfl, z1, z2⟩ := slice_of_rd hr2
        have b2 := chain bel g2
        have own3 := own_keep hown g2
        clear own2 CU g2 hown bel
        go_wp2_with (at_builtin; refine wpList_app_rdk itC_len (by decide) w rfl (.tmp 30) (.tmp 31) 22 rfl w.heap.size 32 i0 (.agg #[.string ⟨#[]⟩, .int .i64 0, .int .i64 0, .string ⟨#[]⟩, .int .i64 0]) 56 Tryd.underlying22 hi hz0 hz1 hz2 rfl _ acc rfl own3 _ its rfl hr2 itC_one (by unfold maxLen; omega) (by omega) (Nat.le_refl _) b2 ?_; intro v9 w9 own9 b9 hq9; clear hq9)
        exact ⟨⟨j + 1, acc ++ its, odd2, by omega, by push_cast; rfl, by simp; omega, HO2, HK, HP2, HS2, own9, b9⟩, by simp [intOf]; omega⟩
      · have HN := Lib.hid (show R = ([], e, (j : Int)) by rw [HRl.out, ← HC.out, hdr, ofGo_err hce he]; simp [ofE, he])
        have hen := (V7.bne_int he).1
        clear hce hdr HC HS he hcc HO HP
        go_wp2_with fail
        refine CU.mono ?_
        rintro e2 w2 ⟨v2, rfl, own2, g2⟩
        have b2 := chain bel g2
        clear g2 own2 CU
        go_wp2_with fail
        go_ret3
        exact end3_no HN.out rfl rfl b2
    · obtain rfl : j = ls.length := by omega
      obtain ⟨w1, rfl⟩ : ∃ w1, w1 = wr := ⟨_, rfl⟩
      have HE := Lib.hid (show R = ofE ls.length (acc, odd, 0, ls.length) by rw [HRl.out, ← HC.out, List.drop_length]; rfl)
      have hrd := OwnI.rd (w := w) hown
      obtain ⟨a2, c2, rfl, k1, k2⟩ := slice_of_rd hrd
      have CK0 := fun W t h => check_any (.slice a2 acc.length c2) acc W t h HS.out
      obtain ⟨S, hS⟩ : ∃ S, S = (chkL acc).1 := ⟨_, rfl⟩
      obtain ⟨S2, hS2⟩ : ∃ S, S = (chkL acc).2 := ⟨_, rfl⟩
      have RC0 := fun W t h => refCheck_any (.slice a2 acc.length c2) acc W t h HS.out
      rw [← hS, ← hS2] at RC0
      have RC := Lib.hid RC0
      have HSS := Lib.hid hS
      have RA := Lib.hid hrd
      have OW := Lib.hid hown
      have BE := Lib.hid bel
      have TW := Lib.hid (tab.below bel)
      have BW := Lib.hid (Below.refl w1.heap.size w1)
      clear CK0 RC0 hS hS2 hrd hown bel tab HC HRl hlt
      go_wp2_with fail
      go_loopw [9] (fun i wq => ∃ q : Nat, q ≤ ls.length ∧ i = .int .i64 (q : Int) ∧ Hid (∀ k, k < q → headB (ls.getD k []) = 8) ∧ Hid (wq = w1)) (fun i _ => 200 - (intOf i).toNat)
      case atStart => exact ⟨0, Nat.zero_le _, rfl, Lib.hid (fun k hk => by omega), Lib.hid rfl⟩
      case round =>
        obtain ⟨q, hq, rfl, HQ, HWQ⟩ := hrel
        have hwq := HWQ.out
        subst hwq
        by_cases hlq : q + 1 < ls.length
        · obtain ⟨b, off, rfl, hb, hc⟩ := rdk_sC (HRD.out.below BE.out (Nat.le_refl _)) q (by omega)
          obtain ⟨c, hcc⟩ : ∃ c, c = ls.getD q [] := ⟨_, rfl⟩
          rw [← hcc] at hc
          have hpos : 0 < c.length := by rw [hcc]; exact HP.out q (by omega)
          have hz : (str c).size = c.length := str_size c
          obtain ⟨H, hH⟩ : ∃ H, H = headB c := ⟨_, rfl⟩
          have hb0 : ∀ h : 0 < (str c).size, ((str c)[0]'h).toNat = H := fun h => by rw [str_byte, hH]; rfl
          have hq1 : decide ((q : Int) + 1 < (ls.length : Int)) = true := by rw [decide_eq_true_eq]; omega
          have HH := Lib.hid (show H = headB (ls.getD q []) by rw [hH, hcc])
          clear hH hcc
          by_cases h8 : H = 8
          · subst h8
            have HQ2 := Lib.hid (show ∀ k, k < q + 1 → headB (ls.getD k []) = 8 by
              intro k hk
              by_cases h : k = q
              · subst h; exact HH.out.symm
              · exact HQ.out k (by omega))
            go_wp2_with fail
            exact ⟨⟨q + 1, by omega, by push_cast; rfl, HQ2, by first | exact HWQ | exact Lib.hid trivial⟩, by simp [intOf]; omega⟩
          · have HN := Lib.hid (show R = ([], 3, (q : Int)) by
              have ho := oddI_at HO.out (show q < ls.length by omega) HQ.out (by rw [← HH.out]; exact h8)
              rw [HE.out, ho]; unfold ofE; simp only [ne_eq, not_true_eq_false, if_false]; rw [if_pos ⟨by omega, by omega⟩])
            have g8 : ((H : Int) != 8) = true := by rw [bne_iff_ne]; omega
            have H8 := Lib.hid h8
            clear h8
            go_wp2_with fail
            go_ret3
            exact end3_no (E := 3) HN.out rfl rfl BE.out
        · have HB := Lib.hid (show ¬ (0 ≤ odd ∧ odd + 1 < (ls.length : Int)) from oddI_end HO.out (fun k hk => HQ.out k (by omega)))
          have hq1 : decide ((q : Int) + 1 < (ls.length : Int)) = false := by rw [decide_eq_false_iff_not]; omega
          have CK := RC.out _ TW.out RA.out
          by_cases hS0 : S = 0
          · subst hS0
            go_wp2_with fail
            refine CK.mono ?_
            rintro e2 w2 ⟨rfl, g2⟩
            have FIN := Lib.hid (end3 HE.out HB.out HSS.out.symm (own_keep OW.out g2) (chain BE.out g2))
            clear CK g2
            go_wp2_with fail
            go_ret3
            exact FIN.out
          · have HN := Lib.hid (show R = ([], S, (ls.length : Int)) by rw [HE.out]; unfold ofE; simp only [ne_eq, not_true_eq_false, if_false, if_neg HB.out, ← HSS.out, if_pos hS0])
            have hen := (V7.bne_int hS0).1
            clear hS0
            go_wp2_with fail
            refine CK.mono ?_
            rintro e2 w2 ⟨rfl, g2⟩
            have b2 := chain BE.out g2
            clear CK g2
            go_wp2_with fail
            go_ret3
            exact end3_no HN.out rfl rfl b2
end Go.Proofs.YtcehgfganjdghaaDoor
