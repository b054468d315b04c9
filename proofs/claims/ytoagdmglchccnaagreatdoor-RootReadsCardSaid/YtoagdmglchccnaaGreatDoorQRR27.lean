/- Leaves: the chapter's examples. Written by wip/tools/gen9k.py. -/
/- Leaves: what a chunk's bytes are read as, by the program. Written by wip/tools/gen9z2.py. -/
import Derived.Test.YtoagdmglchccnaaGreatDoorQRR26
import Derived.Test.YtoagdmglchccnaaGreatDoorQRR22
import Derived.Test.YtoagdmglchccnaaGreatDoorQRR24
namespace Go.Proofs.YtoagdmglchccnaaGreatDoor
open Go Go.RowKit
set_option linter.unusedVariables false
set_option linter.unusedSimpArgs false
def exI : It := ⟨[97], ⟨2, 1, []⟩, 5⟩
theorem slice_of_rd {w : World} {v : Value} {l : List It} (h : RdI w v l) : ∃ ao cap, v = .slice ao l.length cap ∧ l.length ≤ cap ∧ cap ≤ 9223372036854775807 := by
  obtain ⟨ao, cap, h1, h2, h3, h4⟩ := RdK.open h
  exact ⟨ao, cap, h1, h2, h3⟩
end Go.Proofs.YtoagdmglchccnaaGreatDoor
namespace Go.Proofs.YtoagdmglchccnaaGreatDoor
open Go Go.RowKit
set_option linter.unusedVariables false
set_option linter.unusedSimpArgs false
def cutsL (vf : Nat → Int) : Nat → List UInt8 → Nat → List It → List It × Nat × Nat
  | 0, _, a, acc => (acc, a, 0)
  | c + 1, l, a, acc => match cutIL vf (l.drop a) with
    | (x, n, e) => if e ≠ 0 then ([], 0, e) else cutsL vf c l (a + n) (acc ++ [x])
def finL (its : List It) (a n : Nat) : Nat := if srtL its ≠ 0 then srtL its else if its.length < 1 ∨ 8 < its.length then 4 else if a < n then 7 else 0
def endC (l : List UInt8) : List It × Nat × Nat → List It × Nat
  | (its, a, e) => if e ≠ 0 then ([], e) else if finL its a l.length ≠ 0 then ([], finL its a l.length) else (its, 0)
/-- What a chunk's bytes are read as: the items, an error's number. -/
def chunkL (vf : Nat → Int) : List UInt8 → List It × Nat
  | [] => ([], 2)
  | c :: r => endC (c :: r) (cutsL vf c.toNat (c :: r) 1 [])
theorem cutIL_len {vf : Nat → Int} {l : List UInt8} {x : It} {n e : Nat} (h : cutIL vf l = (x, n, e)) : n ≤ l.length ∧ n ≤ 700 ∧ x.key.length ≤ 255 ∧ x.v.s.length ≤ 64 ∧ I64 x.v.i ∧ (e ≠ 0 → x = ⟨[], ⟨0, 0, []⟩, 0⟩ ∧ n = 0) := by
  obtain ⟨k, n1, e1, h1⟩ : ∃ k n e, cutTextL l = (k, n, e) := ⟨_, _, _, rfl⟩
  have f1 := V7.cutTextL_len h1
  have z : I64 0 := ⟨by decide, by decide⟩
  by_cases he1 : e1 = 0
  · subst he1
    obtain ⟨a, b, s, m, e2, h2⟩ : ∃ a b s m e, V7.cutVL (l.drop n1) = ((a, b, s), m, e) := ⟨_, _, _, _, _, rfl⟩
    have f2 := cutVL_len h2
    rw [List.length_drop] at f2
    by_cases he2 : e2 = 0
    · subst he2
      obtain ⟨y, o, e3, h3⟩ : ∃ x o e, cutL (l.drop (n1 + m)) = (x, o, e) := ⟨_, _, _, rfl⟩
      have f3 := cutL_facts h3
      rw [List.length_drop] at f3
      by_cases he3 : e3 = 0
      · subst he3
        rw [cutIL_4 h1 h2 h3] at h
        cases h
        exact ⟨by omega, by omega, (show k.length ≤ 255 by omega), (show s.length ≤ 64 by omega), f2.2.2.2, fun h => absurd rfl h⟩
      · rw [cutIL_3 h1 h2 h3 he3] at h
        cases h
        exact ⟨by omega, by omega, by simp, by simp, z, fun _ => ⟨rfl, rfl⟩⟩
    · rw [cutIL_2 h1 h2 he2] at h
      cases h
      exact ⟨by omega, by omega, by simp, by simp, z, fun _ => ⟨rfl, rfl⟩⟩
  · rw [cutIL_1 h1 he1] at h
    cases h
    exact ⟨by omega, by omega, by simp, by simp, z, fun _ => ⟨rfl, rfl⟩⟩
theorem cutsL_err {vf : Nat → Int} {c : Nat} {l : List UInt8} {a : Nat} {acc : List It} {x : It} {n e : Nat} (h : cutIL vf (l.drop a) = (x, n, e)) (he : e ≠ 0) : cutsL vf (c + 1) l a acc = ([], 0, e) := by
  unfold cutsL; rw [h]; simp [he]
theorem cutsL_ok {vf : Nat → Int} {c : Nat} {l : List UInt8} {a : Nat} {acc : List It} {x : It} {n : Nat} (h : cutIL vf (l.drop a) = (x, n, 0)) : cutsL vf (c + 1) l a acc = cutsL vf c l (a + n) (acc ++ [x]) := by
  rw [cutsL]; rw [h]; simp
theorem srtL_cases (l : List It) : srtL l = 0 ∨ srtL l = 1 ∨ srtL l = 3 := by
  unfold srtL; split
  · simp
  · split <;> simp
theorem fin_s {its : List It} {a n S : Nat} (h : S = srtL its) (h0 : S ≠ 0) : finL its a n = S := by subst h; unfold finL; rw [if_pos h0]
theorem fin_4 {its : List It} {a n : Nat} (h : 0 = srtL its) (h1 : its.length < 1 ∨ 8 < its.length) : finL its a n = 4 := by unfold finL; rw [if_neg (by omega), if_pos h1]
theorem fin_7 {its : List It} {a n : Nat} (h : 0 = srtL its) (h1 : ¬ (its.length < 1 ∨ 8 < its.length)) (h2 : a < n) : finL its a n = 7 := by unfold finL; rw [if_neg (by omega), if_neg h1, if_pos h2]
theorem fin_0 {its : List It} {a n : Nat} (h : 0 = srtL its) (h1 : ¬ (its.length < 1 ∨ 8 < its.length)) (h2 : ¬ a < n) : finL its a n = 0 := by unfold finL; rw [if_neg (by omega), if_neg h1, if_neg h2]
theorem endC_no {l : List UInt8} {its : List It} {a e : Nat} {R : List It × Nat} (hR : R = endC l (its, a, 0)) (h : finL its a l.length = e) (h0 : e ≠ 0) : R = ([], e) := by rw [hR]; simp [endC, h, h0]
def vfP (x : Nat) : Int := wrap64 (x : Int)
theorem end9 {w w' : World} {v : Value} {l : List UInt8} {its : List It} {a : Nat} {R : List It × Nat} (hR : R = endC l (its, a, 0)) (hf : finL its a l.length = 0) (h : w'.ownsRow w.heap.size 154 5 v its.length (its.flatMap itC)) (b : Below w.heap.size w w') :
    OwnIE w R.1 R.2 (.returned (.tuple #[v, .int .i64 0])) w' := by
  have : R = (its, 0) := by rw [hR]; simp [endC, hf]
  rw [this]
  exact ⟨v, rfl, h, b⟩
theorem end9_no {w w' : World} {l : List UInt8} {R : List It × Nat} {e : Int} {E : Nat} (hR : R = ([], E)) (he : e = (E : Int)) (b : Below w.heap.size w w') :
    OwnIE w R.1 R.2 (.returned (.tuple #[.slice none 0 0, .int .i64 e])) w' := by
  rw [hR, he]
  exact ⟨_, rfl, World.ownsRow_nil _ _ _ _, b⟩
set_option maxRecDepth 100000 in
set_option maxHeartbeats 1000000 in
theorem cut9_any (v : Value) (l : List UInt8) (w : World) (tab : TabAt w) (h : Rd w v l) :
    Calls Tryz.prog 96 #[v] w (OwnIE w (chunkL vfP l).1 (chunkL vfP l).2) := by
  obtain ⟨R, hR⟩ : ∃ R, R = chunkL vfP l := ⟨_, rfl⟩
  rw [← hR]
  cases l with
  | nil =>
    obtain ⟨ao, cap, rfl, h1, h2, _⟩ := h
    have HR := Lib.hid hR
    unfold maxLen at h2
    clear hR
    go_enter Tryz.func96, Tryz.ntmps96
    go_wp2_with fail
    go_ret2
    exact end9_no (l := []) (E := 2) HR.out rfl (Below.refl _ _)
  | cons c r =>
    obtain ⟨b, off, cap, rfl, hl, hm, hb, h0⟩ := V7.rd_cons h
    obtain ⟨l, hll⟩ : ∃ l, l = c :: r := ⟨_, rfl⟩
    have hlen : r.length + 1 = l.length := by rw [hll]; rfl
    have HRl := Lib.hid (show R = endC l (cutsL vfP c.toNat l 1 []) by rw [hR, hll]; rfl)
    rw [← hll, hlen] at h
    rw [hlen] at hl
    have hpos : 0 < l.length := by omega
    obtain ⟨C, hC⟩ : ∃ C, C = c.toNat := ⟨_, rfl⟩
    have hC255 : C ≤ 255 := by have := c.toNat_lt; omega
    rw [← hC] at h0 HRl
    have HRD := Lib.hid h
    rw [hlen]
    unfold maxLen at hm
    obtain ⟨i8, hi8, hy0, hy1, hy2⟩ := info_parts u8info
    obtain ⟨i0, hi, hz0, hz1, hz2⟩ := info_parts item_info
    have z0 : ((l.length : Int) == 0) = false := by rw [beq_eq_false_iff_ne]; omega
    clear hR hll h hlen hC
    go_enter Tryz.func96, Tryz.ntmps96
    go_wp2_with fail
    go_loopw [4, 5, 16] (fun o a i wr => ∃ (j p : Nat) (acc : List It), j ≤ C ∧ i = .int .u8 (j : Int) ∧ a = .int .i64 (p : Int) ∧ p ≤ l.length ∧ acc.length ≤ j ∧ Hid (cutsL vfP (C - j) l p acc = cutsL vfP C l 1 []) ∧ Hid (SzI acc) ∧ wr.ownsRow w.heap.size 154 5 o acc.length (acc.flatMap itC) ∧ Below w.heap.size w wr) (fun _ _ i _ => 300 - (intOf i).toNat)
    case atStart => exact ⟨0, 1, [], Nat.zero_le _, rfl, rfl, hpos, Nat.le_refl _, Lib.hid rfl, Lib.hid (fun x hx => by simp at hx), World.ownsRow_nil _ _ _ _, Below.refl _ _⟩
    case round =>
      obtain ⟨j, p, acc, hj, rfl, rfl, hp, hacc, HC, HS, hown, bel⟩ := hrel
      by_cases hlt : j < C
      · obtain ⟨x, n, e, hce⟩ : ∃ x n e, cutIL vfP (l.drop p) = (x, n, e) := ⟨_, _, _, rfl⟩
        have hf := cutIL_len hce
        rw [List.length_drop] at hf
        have CI := fun v W h => cutI_any v (l.drop p) W h
        simp only [show (fun x : Nat => wrap64 (x : Int)) = vfP from rfl, hce] at CI
        unfold itV at CI
        have CIH := Lib.hid CI
        have R1 := Lib.hid (HRD.out.below bel (Nat.le_refl _))
        obtain ⟨D, hD⟩ : ∃ D, C - j = D + 1 := ⟨C - j - 1, by omega⟩
        by_cases he : e = 0
        · subst he
          have HC2 := Lib.hid (show cutsL vfP (C - (j + 1)) l (p + n) (acc ++ [x]) = cutsL vfP C l 1 [] by rw [← HC.out, hD, cutsL_ok hce]; congr 1; omega)
          have HS2 := Lib.hid (show SzI (acc ++ [x]) by
            intro y hy
            rcases List.mem_append.1 hy with h | h
            · exact HS.out y h
            · rw [List.mem_singleton] at h; subst h; unfold maxLen; omega)
          obtain ⟨hn1, hn2, _⟩ := hf
          have s1 : IntKind.i64.wrap ((p : Int) + (n : Int)) = ((p + n : Nat) : Int) := by rw [IntKind.wrap_i64]; omega
          have s2 : IntKind.u8.wrap ((j : Int) + 1) = ((j + 1 : Nat) : Int) := by rw [IntKind.wrap_u8]; omega
          clear CI hce hD HC HS
          go_wp2_with (with_reducible refine V7.wpList_slice_from rfl 115 5 _ _ rfl i8 Tryz.underlying115 hi8 hy1 _ _ _ l rfl R1.out _ _ rfl p rfl (by omega) ?_; intro ao2 cap2 hr2)
          refine (CIH.out _ _ hr2).mono ?_
          rintro e2 w2 ⟨rfl, g2⟩
          have b2 := chain bel g2
          have own2 := own_keep hown g2
          have b3 := b2.alloc b2.size (.cells #[.string (str x.key), .int .i64 x.v.k, .int .i64 x.v.i, .string (str x.v.s), .int .i64 x.ver] 154)
          have a3 := (Below.refl w2.heap.size w2).alloc (Nat.le_refl _) (.cells #[.string (str x.key), .int .i64 x.v.k, .int .i64 x.v.i, .string (str x.v.s), .int .i64 x.ver] 154)
          have own3 := own_keep own2 a3
          clear g2 b2 own2 hown bel hr2 a3
          go_wp2_with (at_builtin; refine wpList_app1k itC_len (by decide) w rfl (.tmp 29) (.tmp 31) 23 rfl w.heap.size 154 i0 (.agg #[.string ⟨#[]⟩, .int .i64 0, .int .i64 0, .string ⟨#[]⟩, .int .i64 0]) 56 Tryz.underlying23 hi hz0 hz1 hz2 rfl _ _ rfl own3 _ x _ rfl (by rw [World.size_alloc]; rfl) itC_one (by unfold maxLen; omega) (by omega) (Nat.le_refl _) b3 ?_; intro v' w9 hown9 hb9 hq9; clear hq9)
          exact ⟨⟨j + 1, p + n, acc ++ [x], by omega, by push_cast; rfl, by push_cast; rfl, by omega, by simp; omega, HC2, HS2, hown9, hb9⟩, by simp [intOf]; omega⟩
        · have HN := Lib.hid (show R = ([], e) by rw [HRl.out, ← HC.out, hD, cutsL_err hce he]; simp [endC, he])
          have hen := (V7.bne_int he).1
          obtain ⟨hn1, hn2, _⟩ := hf
          clear CI hce hD HC HS he
          go_wp2_with (with_reducible refine V7.wpList_slice_from rfl 115 5 _ _ rfl i8 Tryz.underlying115 hi8 hy1 _ _ _ l rfl R1.out _ _ rfl p rfl (by omega) ?_; intro ao2 cap2 hr2)
          refine (CIH.out _ _ hr2).mono ?_
          rintro e2 w2 ⟨rfl, g2⟩
          have b2 := chain bel g2
          have b3 := b2.alloc b2.size (.cells #[.string (str x.key), .int .i64 x.v.k, .int .i64 x.v.i, .string (str x.v.s), .int .i64 x.ver] 154)
          clear g2 hr2
          go_wp2_with fail
          go_ret2
          exact end9_no (l := l) HN.out rfl b3
      · obtain rfl : j = C := by omega
        have HE := Lib.hid (show R = endC l (acc, p, 0) by rw [HRl.out, ← HC.out]; simp [cutsL])
        have hrd := OwnI.rd (w := w) hown
        obtain ⟨ao, cp, rfl, k1, k2⟩ := slice_of_rd hrd
        have ST := sorted_any _ acc wr (tab.below bel) hrd HS.out (by omega)
        obtain ⟨S, hS⟩ : ∃ S, S = srtL acc := ⟨_, rfl⟩
        rw [← hS] at ST
        have hs3 : S = 0 ∨ S = 1 ∨ S = 3 := by rw [hS]; exact srtL_cases acc
        have HSS := Lib.hid hS
        clear hS hrd
        rcases hs3 with rfl | hs3
        · by_cases h1 : acc.length = 0
          · have HN := Lib.hid (show R = ([], 4) from endC_no HE.out (fin_4 HSS.out (by omega)) (by omega))
            have t1 : ((acc.length : Int) == 0) = true := by rw [beq_iff_eq]; omega
            have H1 := Lib.hid h1
            clear h1
            go_wp2_with fail
            refine ST.mono ?_
            rintro e2 w2 ⟨rfl, g2⟩
            have b2 := chain bel g2
            clear g2 ST
            go_wp2_with fail
            go_ret2
            exact end9_no (l := l) HN.out rfl b2
          · have t1 : ((acc.length : Int) == 0) = false := by rw [beq_eq_false_iff_ne]; omega
            by_cases h8 : 8 < acc.length
            · have HN := Lib.hid (show R = ([], 4) from endC_no HE.out (fin_4 HSS.out (by omega)) (by omega))
              have t2 : decide (8 < (acc.length : Int)) = true := by simp; omega
              go_wp2_with fail
              refine ST.mono ?_
              rintro e2 w2 ⟨rfl, g2⟩
              have b2 := chain bel g2
              clear g2 ST
              go_wp2_with fail
              go_ret2
              exact end9_no (l := l) HN.out rfl b2
            · have t2 : decide (8 < (acc.length : Int)) = false := by simp; omega
              by_cases h7 : p < l.length
              · have HN := Lib.hid (show R = ([], 7) from endC_no HE.out (fin_7 HSS.out (by omega) h7) (by omega))
                go_wp2_with fail
                refine ST.mono ?_
                rintro e2 w2 ⟨rfl, g2⟩
                have b2 := chain bel g2
                clear g2 ST
                go_wp2_with fail
                go_ret2
                exact end9_no (l := l) HN.out rfl b2
              · have HN := Lib.hid (show finL acc p l.length = 0 from fin_0 HSS.out (by omega) h7)
                go_wp2_with fail
                refine ST.mono ?_
                rintro e2 w2 ⟨rfl, g2⟩
                have b2 := chain bel g2
                have own2 := own_keep hown g2
                clear g2 ST
                go_wp2_with fail
                go_ret2
                exact end9 HE.out HN.out own2 b2
        · have hS0 : S ≠ 0 := by omega
          have HN := Lib.hid (show R = ([], S) from endC_no HE.out (fin_s HSS.out hS0) hS0)
          have hen := (V7.bne_int hS0).1
          clear hs3 hS0
          go_wp2_with fail
          refine ST.mono ?_
          rintro e2 w2 ⟨rfl, g2⟩
          have b2 := chain bel g2
          clear g2 ST
          go_wp2_with fail
          go_ret2
          exact end9_no (l := l) HN.out rfl b2
end Go.Proofs.YtoagdmglchccnaaGreatDoor
