/- Leaves: what chunks are read as, by the program. Written by wip/tools/gen9z3.py. -/
import Derived.Test.YtoagdmglchccnaaGreatDoorQRR27
namespace Go.Proofs.YtoagdmglchccnaaGreatDoor
open Go Go.RowKit
set_option linter.unusedVariables false
set_option linter.unusedSimpArgs false
/-- What is read: a slice of slices of bytes. -/
def RdP (w : World) (v : Value) (ls : List (List UInt8)) : Prop :=
  ∃ ao cap, v = .slice ao ls.length cap ∧ ls.length ≤ cap ∧ cap ≤ maxLen ∧ (ao = none → cap = 0) ∧
    (0 < ls.length → ∃ b off, ao = some ⟨b, off, none⟩ ∧ b < w.heap.size ∧ ∀ i, i < ls.length → ∃ vi, w.cell? ⟨b, off + i, none⟩ = some vi ∧ Rd w vi (ls.getD i []))
theorem RdP.below {w w' : World} {v : Value} {ls : List (List UInt8)} (h : RdP w v ls) (g : Below w.heap.size w w') : RdP w' v ls := by
  obtain ⟨ao, cap, h1, h2, h3, hn, h4⟩ := h
  refine ⟨ao, cap, h1, h2, h3, hn, fun hl => ?_⟩
  obtain ⟨b, off, h5, h6, h7⟩ := h4 hl
  refine ⟨b, off, h5, Nat.lt_of_lt_of_le h6 g.size, fun i hi => ?_⟩
  obtain ⟨vi, h8, h9⟩ := h7 i hi
  exact ⟨vi, (g.cell (p := ⟨b, off + i, none⟩) h6).trans h8, h9.below g (Nat.le_refl _)⟩
theorem RdP.at {w : World} {ao : Option Addr} {n cap : Nat} {ls : List (List UInt8)} (h : RdP w (.slice ao n cap) ls) (i : Nat) (hi : i < ls.length) : ∃ b off vi, ao = some ⟨b, off, none⟩ ∧ b < w.heap.size ∧ w.cell? ⟨b, off + i, none⟩ = some vi ∧ Rd w vi (ls.getD i []) := by
  obtain ⟨ao', cap', h1, h2, h3, hn, h4⟩ := h
  cases h1
  obtain ⟨b, off, h5, h6, h7⟩ := h4 (by omega)
  obtain ⟨vi, h8, h9⟩ := h7 i hi
  exact ⟨b, off, vi, h5, h6, h8, h9⟩
theorem endC_eq (l : List UInt8) (its : List It) (a e : Nat) : endC l (its, a, e) = if e ≠ 0 then ([], e) else if finL its a l.length ≠ 0 then ([], finL its a l.length) else (its, 0) := rfl
theorem endC_zero {l : List UInt8} {t : List It × Nat × Nat} (h : (endC l t).2 = 0) : t.2.2 = 0 ∧ finL t.1 t.2.1 l.length = 0 ∧ (endC l t).1 = t.1 := by
  obtain ⟨its, a, e⟩ := t
  rw [endC_eq] at h ⊢
  by_cases he : e = 0
  · subst he
    rw [if_neg (by simp)] at h ⊢
    by_cases hf : finL its a l.length = 0
    · rw [if_neg (by simp [hf])] at h ⊢
      exact ⟨rfl, hf, rfl⟩
    · rw [if_pos hf] at h
      exact absurd h hf
  · rw [if_pos he] at h
    exact absurd h he
theorem fin_zero {its : List It} {a n : Nat} (h : finL its a n = 0) : srtL its = 0 ∧ 1 ≤ its.length ∧ its.length ≤ 8 ∧ n ≤ a := by
  unfold finL at h
  split at h
  · rename_i h1; exact absurd h h1
  · rename_i h1
    split at h
    · cases h
    · rename_i h2
      split at h
      · cases h
      · exact ⟨by omega, by omega, by omega, by omega⟩
theorem srt_may {its : List It} (h : srtL its = 0) : ∀ x ∈ its, mayI x = true := by
  unfold srtL at h
  split at h
  · cases h
  · rename_i h1
    have : mayK its its.length = true := by simpa using h1
    unfold mayK at this
    rw [List.take_length, List.all_eq_true] at this
    exact this
theorem may_sz {x : It} (h : mayI x = true) : x.key.length ≤ 24 ∧ x.v.s.length ≤ 64 := by
  refine ⟨may_key h, ?_⟩
  have h1 := may_v h
  simp only [V7.mayB, decide_eq_true_eq] at h1
  rcases h1 with ⟨_, _, h⟩ | ⟨_, _, h⟩ | ⟨_, h⟩ | ⟨_, _, h⟩
  · rw [h]; simp
  · rw [h]; simp
  · rw [h]; simp
  · exact h
theorem chunkL_facts {vf : Nat → Int} {c : List UInt8} {its : List It} (h : chunkL vf c = (its, 0)) : 1 ≤ its.length ∧ its.length ≤ 8 ∧ SzI its ∧ srtL its = 0 := by
  cases c with
  | nil => cases h
  | cons d r =>
    have h2 : (endC (d :: r) (cutsL vf d.toNat (d :: r) 1 [])).2 = 0 := by have := congrArg Prod.snd h; exact this
    have h1 : (endC (d :: r) (cutsL vf d.toNat (d :: r) 1 [])).1 = its := by have := congrArg Prod.fst h; exact this
    obtain ⟨_, h4, h5⟩ := endC_zero h2
    rw [h5] at h1
    rw [h1] at h4
    obtain ⟨f1, f2, f3, _⟩ := fin_zero h4
    refine ⟨f2, f3, fun x hx => ?_, f1⟩
    have := may_sz (srt_may f1 x hx)
    unfold maxLen
    exact ⟨by omega, by omega⟩
def ofGo (vf : Nat → Int) : List (List UInt8) → Nat → List It → Int → List It × Int × Nat × Nat
  | [], i, acc, odd => (acc, odd, 0, i)
  | c :: r, i, acc, odd => match chunkL vf c with
    | (its, e) => if e ≠ 0 then ([], 0, e, i) else ofGo vf r (i + 1) (acc ++ its) (if odd < 0 ∧ its.length ≠ 8 then (i : Int) else odd)
def ofE (n : Nat) : List It × Int × Nat × Nat → List It × Nat × Int
  | (all, odd, e, i) => if e ≠ 0 then ([], e, (i : Int)) else if 0 ≤ odd ∧ odd + 1 < (n : Int) then ([], 3, odd) else if (chkL all).1 ≠ 0 then ([], (chkL all).1, (n : Int)) else (all, 0, 0)
/-- What chunks are read as: the items, an error's number, where. -/
def ofL (vf : Nat → Int) (ls : List (List UInt8)) : List It × Nat × Int := ofE ls.length (ofGo vf ls 0 [] (-1))
theorem ofGo_err {vf : Nat → Int} {c : List UInt8} {r : List (List UInt8)} {i : Nat} {acc its : List It} {odd : Int} {e : Nat} (h : chunkL vf c = (its, e)) (he : e ≠ 0) : ofGo vf (c :: r) i acc odd = ([], 0, e, i) := by
  rw [ofGo, h]; simp [he]
theorem ofGo_ok {vf : Nat → Int} {c : List UInt8} {r : List (List UInt8)} {i : Nat} {acc its : List It} {odd : Int} (h : chunkL vf c = (its, 0)) : ofGo vf (c :: r) i acc odd = ofGo vf r (i + 1) (acc ++ its) (if odd < 0 ∧ its.length ≠ 8 then (i : Int) else odd) := by
  rw [ofGo, h]; simp
theorem drop_step {ls : List (List UInt8)} {i : Nat} (h : i < ls.length) : ls.drop i = ls.getD i [] :: ls.drop (i + 1) := by
  rw [List.drop_eq_getElem_cons h]; simp [List.getD, h]
def Own3 (w : World) (l : List It) (c : Nat) (p : Int) (e : Ending) (w' : World) : Prop := ∃ v', e = .returned (.tuple #[v', .int .i64 (c : Int), .int .i64 p]) ∧ w'.ownsRow w.heap.size 154 5 v' l.length (l.flatMap itC) ∧ Below w.heap.size w w'
theorem end3 {w w' : World} {v : Value} {R : List It × Nat × Int} {its : List It} {n : Nat} {odd : Int} {i : Nat} (hR : R = ofE n (its, odd, 0, i)) (ho : ¬ (0 ≤ odd ∧ odd + 1 < (n : Int))) (hc : (chkL its).1 = 0) (h : w'.ownsRow w.heap.size 154 5 v its.length (its.flatMap itC)) (b : Below w.heap.size w w') :
    Own3 w R.1 R.2.1 R.2.2 (.returned (.tuple #[v, .int .i64 0, .int .i64 0])) w' := by
  have : R = (its, 0, 0) := by rw [hR]; unfold ofE; simp only [ne_eq, not_true_eq_false, if_false, if_neg ho, hc]
  rw [this]
  exact ⟨v, rfl, h, b⟩
theorem end3_no {w w' : World} {R : List It × Nat × Int} {E : Nat} {e q p : Int} (hR : R = ([], E, p)) (he : e = (E : Int)) (hq : q = p) (b : Below w.heap.size w w') :
    Own3 w R.1 R.2.1 R.2.2 (.returned (.tuple #[.slice none 0 0, .int .i64 e, .int .i64 q])) w' := by
  rw [hR, he, hq]
  exact ⟨_, rfl, World.ownsRow_nil _ _ _ _, b⟩
theorem bytes_of_rd {w : World} {v : Value} {l : List UInt8} (h : Rd w v l) : ∃ ao cap, v = .slice ao l.length cap := by
  obtain ⟨ao, cap, h1, _⟩ := h; exact ⟨ao, cap, h1⟩
set_option maxRecDepth 100000 in
set_option maxHeartbeats 1000000 in
theorem of9_any (v : Value) (ls : List (List UInt8)) (w : World) (tab : TabAt w) (h : RdP w v ls) (hn : ls.length ≤ 1048576) :
    Calls Tryz.prog 64 #[v] w (Own3 w (ofL vfP ls).1 (ofL vfP ls).2.1 (ofL vfP ls).2.2) := by
  obtain ⟨R, hR⟩ : ∃ R, R = ofL vfP ls := ⟨_, rfl⟩
  rw [← hR]
  obtain ⟨ao, cap, rfl, hl, hm⟩ : ∃ ao cap, v = .slice ao ls.length cap ∧ ls.length ≤ cap ∧ cap ≤ maxLen := by obtain ⟨ao, cap, h1, h2, h3, _⟩ := h; exact ⟨ao, cap, h1, h2, h3⟩
  have HRl := Lib.hid (show R = ofE ls.length (ofGo vfP ls 0 [] (-1)) from hR)
  have HRD := Lib.hid h
  unfold maxLen at hm
  obtain ⟨i0, hi, hz0, hz1, hz2⟩ := info_parts item_info
  clear hR h
  go_enter Tryz.func64, Tryz.ntmps64
  go_wp2_with fail
  go_loopw [5, 6, 15] (fun o d i wr => ∃ (j : Nat) (acc : List It) (odd : Int), j ≤ ls.length ∧ i = .int .i64 (j : Int) ∧ d = .int .i64 odd ∧ -1 ≤ odd ∧ odd < j ∧ acc.length ≤ 8 * j ∧ Hid (ofGo vfP (ls.drop j) j acc odd = ofGo vfP ls 0 [] (-1)) ∧ Hid (SzI acc) ∧ wr.ownsRow w.heap.size 154 5 o acc.length (acc.flatMap itC) ∧ Below w.heap.size w wr) (fun _ _ i _ => 1100000 - (intOf i).toNat)
  case atStart => exact ⟨0, [], -1, Nat.zero_le _, rfl, rfl, by omega, by omega, Nat.le_refl _, Lib.hid rfl, Lib.hid (fun x hx => by simp at hx), World.ownsRow_nil _ _ _ _, Below.refl _ _⟩
  case round =>
    obtain ⟨j, acc, odd, hj, rfl, rfl, ho1, ho2, hacc, HC, HS, hown, bel⟩ := hrel
    by_cases hlt : j < ls.length
    · obtain ⟨b, off, vi, rfl, hb, hc, hrd⟩ := (HRD.out.below bel).at j hlt
      obtain ⟨aj, cj, rfl⟩ := bytes_of_rd hrd
      obtain ⟨c, hcc⟩ : ∃ c, c = ls.getD j [] := ⟨_, rfl⟩
      rw [← hcc] at hc hrd
      obtain ⟨its, e, hce⟩ : ∃ its e, chunkL vfP c = (its, e) := ⟨_, _, rfl⟩
      have CU := cut9_any (.slice aj c.length cj) c wr (tab.below bel) hrd
      rw [hce] at CU
      have hdr := drop_step hlt
      rw [← hcc] at hdr
      clear hrd hcc
      by_cases he : e = 0
      · subst he
        obtain ⟨k1, k8, ksz, _⟩ := chunkL_facts hce
        have HS2 := Lib.hid (show SzI (acc ++ its) from fun y hy => (List.mem_append.1 hy).elim (HS.out y) (ksz y))
        have HK := Lib.hid (show ofGo vfP (ls.drop (j + 1)) (j + 1) (acc ++ its) (if odd < 0 ∧ its.length ≠ 8 then (j : Int) else odd) = ofGo vfP ls 0 [] (-1) by rw [← HC.out, hdr, ofGo_ok hce])
        clear hce hdr HC HS ksz
        go_wp2_with fail
        refine CU.mono ?_
        rintro e2 w2 ⟨v2, rfl, own2, g2⟩
        have hr2 := OwnI.rd (w := w) own2
        obtain ⟨a2, c2, rfl, z1, z2⟩ := slice_of_rd hr2
        have b2 := chain bel g2
        have own3 := own_keep hown g2
        clear own2 CU g2 hown bel
        by_cases h1 : odd < 0
        · by_cases h2 : its.length = 8
          · have HK2 := Lib.hid (show ofGo vfP (ls.drop (j + 1)) (j + 1) (acc ++ its) odd = ofGo vfP ls 0 [] (-1) by rw [← HK.out, if_neg (by omega)])
            have t1 : decide (odd < 0) = true := by simpa using h1
            have t2 : ((its.length : Int) != 8) = false := by rw [bne_eq_false_iff_eq]; omega
            clear HK
            have H2 := Lib.hid h2
            clear h2
            go_wp2_with (at_builtin; refine wpList_app_rdk itC_len (by decide) w rfl (.tmp 37) (.tmp 38) 23 rfl w.heap.size 154 i0 (.agg #[.string ⟨#[]⟩, .int .i64 0, .int .i64 0, .string ⟨#[]⟩, .int .i64 0]) 56 Tryz.underlying23 hi hz0 hz1 hz2 rfl _ acc rfl own3 _ its rfl hr2 itC_one (by unfold maxLen; omega) (by omega) (Nat.le_refl _) b2 ?_; intro v9 w9 own9 b9 hq9; clear hq9)
            exact ⟨⟨j + 1, acc ++ its, odd, by omega, by push_cast; rfl, rfl, ho1, by omega, by simp; omega, HK2, HS2, own9, b9⟩, by simp [intOf]; omega⟩
          · have HK2 := Lib.hid (show ofGo vfP (ls.drop (j + 1)) (j + 1) (acc ++ its) (j : Int) = ofGo vfP ls 0 [] (-1) by rw [← HK.out, if_pos ⟨h1, h2⟩])
            have t1 : decide (odd < 0) = true := by simpa using h1
            have t2 : ((its.length : Int) != 8) = true := by rw [bne_iff_ne]; omega
            clear HK
            go_wp2_with (at_builtin; refine wpList_app_rdk itC_len (by decide) w rfl (.tmp 37) (.tmp 38) 23 rfl w.heap.size 154 i0 (.agg #[.string ⟨#[]⟩, .int .i64 0, .int .i64 0, .string ⟨#[]⟩, .int .i64 0]) 56 Tryz.underlying23 hi hz0 hz1 hz2 rfl _ acc rfl own3 _ its rfl hr2 itC_one (by unfold maxLen; omega) (by omega) (Nat.le_refl _) b2 ?_; intro v9 w9 own9 b9 hq9; clear hq9)
            exact ⟨⟨j + 1, acc ++ its, (j : Int), by omega, by push_cast; rfl, rfl, by omega, by omega, by simp; omega, HK2, HS2, own9, b9⟩, by simp [intOf]; omega⟩
        · have HK2 := Lib.hid (show ofGo vfP (ls.drop (j + 1)) (j + 1) (acc ++ its) odd = ofGo vfP ls 0 [] (-1) by rw [← HK.out, if_neg (by omega)])
          have t1 : decide (odd < 0) = false := by simpa using h1
          clear HK
          go_wp2_with (at_builtin; refine wpList_app_rdk itC_len (by decide) w rfl (.tmp 37) (.tmp 38) 23 rfl w.heap.size 154 i0 (.agg #[.string ⟨#[]⟩, .int .i64 0, .int .i64 0, .string ⟨#[]⟩, .int .i64 0]) 56 Tryz.underlying23 hi hz0 hz1 hz2 rfl _ acc rfl own3 _ its rfl hr2 itC_one (by unfold maxLen; omega) (by omega) (Nat.le_refl _) b2 ?_; intro v9 w9 own9 b9 hq9; clear hq9)
          exact ⟨⟨j + 1, acc ++ its, odd, by omega, by push_cast; rfl, rfl, ho1, by omega, by simp; omega, HK2, HS2, own9, b9⟩, by simp [intOf]; omega⟩
      · have HN := Lib.hid (show R = ([], e, (j : Int)) by rw [HRl.out, ← HC.out, hdr, ofGo_err hce he]; simp [ofE, he])
        have hen := (V7.bne_int he).1
        clear hce hdr HC HS he
        go_wp2_with fail
        refine CU.mono ?_
        rintro e2 w2 ⟨v2, rfl, own2, g2⟩
        have b2 := chain bel g2
        clear g2 own2 CU
        go_wp2_with fail
        go_ret3
        exact end3_no HN.out rfl rfl b2
    · obtain rfl : j = ls.length := by omega
      have HE := Lib.hid (show R = ofE ls.length (acc, odd, 0, ls.length) by rw [HRl.out, ← HC.out, List.drop_length]; rfl)
      have hrd := OwnI.rd (w := w) hown
      obtain ⟨a2, c2, rfl, k1, k2⟩ := slice_of_rd hrd
      have CK := check_any _ acc wr (tab.below bel) hrd HS.out
      obtain ⟨S, hS⟩ : ∃ S, S = (chkL acc).1 := ⟨_, rfl⟩
      obtain ⟨S2, hS2⟩ : ∃ S, S = (chkL acc).2 := ⟨_, rfl⟩
      rw [← hS, ← hS2] at CK
      have s1 : IntKind.i64.wrap ((ls.length : Int) - 1) = (ls.length : Int) - 1 := by rw [IntKind.wrap_i64]; omega
      by_cases hbad : 0 ≤ odd ∧ odd + 1 < (ls.length : Int)
      · have HN := Lib.hid (show R = ([], 3, odd) by rw [HE.out]; unfold ofE; simp only [ne_eq, not_true_eq_false, if_false, if_pos hbad])
        obtain ⟨h1, h2⟩ := hbad
        have t1 : decide (0 ≤ odd) = true := by simpa using h1
        have t2 : decide (odd < (ls.length : Int) - 1) = true := by simp; omega
        clear hrd CK hS hS2
        go_wp2_with fail
        go_ret3
        exact end3_no (E := 3) HN.out rfl rfl bel
      · by_cases hS0 : S = 0
        · subst hS0
          have t0 : True := trivial
          have fin : ∀ w' : World, Below wr.heap.size wr w' → Own3 w R.1 R.2.1 R.2.2 (.returned (.tuple #[.slice a2 acc.length c2, .int .i64 0, .int .i64 0])) w' := fun w' g => end3 HE.out hbad hS.symm (own_keep hown g) (chain bel g)
          have FIN := Lib.hid fin
          clear hrd hS hS2 fin HE
          by_cases h1 : 0 ≤ odd
          · have t1 : decide (0 ≤ odd) = true := by simpa using h1
            have t2 : decide (odd < (ls.length : Int) - 1) = false := by simp; omega
            clear hbad
            go_wp2_with fail
            refine CK.mono ?_
            rintro e2 w2 ⟨rfl, g2⟩
            clear CK
            go_wp2_with fail
            go_ret3
            exact FIN.out _ g2
          · have t1 : decide (0 ≤ odd) = false := by simpa using h1
            clear hbad
            go_wp2_with fail
            refine CK.mono ?_
            rintro e2 w2 ⟨rfl, g2⟩
            clear CK
            go_wp2_with fail
            go_ret3
            exact FIN.out _ g2
        · have HN := Lib.hid (show R = ([], S, (ls.length : Int)) by rw [HE.out]; unfold ofE; simp only [ne_eq, not_true_eq_false, if_false, if_neg hbad, ← hS, if_pos hS0])
          have hen := (V7.bne_int hS0).1
          clear hrd hS hS2 hS0 HE
          by_cases h1 : 0 ≤ odd
          · have t1 : decide (0 ≤ odd) = true := by simpa using h1
            have t2 : decide (odd < (ls.length : Int) - 1) = false := by simp; omega
            clear hbad
            go_wp2_with fail
            refine CK.mono ?_
            rintro e2 w2 ⟨rfl, g2⟩
            have b2 := chain bel g2
            clear CK
            go_wp2_with fail
            go_ret3
            exact end3_no HN.out rfl rfl b2
          · have t1 : decide (0 ≤ odd) = false := by simpa using h1
            clear hbad
            go_wp2_with fail
            refine CK.mono ?_
            rintro e2 w2 ⟨rfl, g2⟩
            have b2 := chain bel g2
            clear CK
            go_wp2_with fail
            go_ret3
            exact end3_no HN.out rfl rfl b2
end Go.Proofs.YtoagdmglchccnaaGreatDoor
