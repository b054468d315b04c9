/- The document's list of a text. -/
/- What the document reads of a number: the terms of a root's leaves. -/
import Derived.Test.YtoagdmglchccnaaGreatDoorQRR43
import Derived.Test.YtoagdmglchccnaaGreatDoorQRR38
namespace Go.Proofs.YtoagdmglchccnaaGreatDoor
open Go Go.RowKit
set_option linter.unusedVariables false
set_option linter.unusedSimpArgs false
def ListP (w : World) (s : T2.Txt) (e : Ending) (w' : World) : Prop :=
  Below w.heap.size w w' ∧ ((∃ xs v, IsDig s xs ∧ e = .returned (.tuple #[v, .bool true]) ∧ w'.ownsRow w.heap.size 3 1 v xs.length (xs.map T2.iv)) ∨ (∀ xs, ¬ IsDig s xs) ∧ ∃ a n c, e = .returned (.tuple #[.slice a n c, .bool false]))
theorem take_more12 {s : T2.Txt} {f p : Nat} (hf : f ≤ p) (hp : p < s.length) : (s.drop f).take (p + 1 - f) = (s.drop f).take (p - f) ++ [s.getD p 0] := by
  have e : p + 1 - f = (p - f) + 1 := by omega
  rw [e, List.take_add_one]
  congr 1
  rw [List.getElem?_drop, show f + (p - f) = p by omega, List.getElem?_eq_getElem hp]
  simp [List.getD, hp]
theorem drop_cut {s : T2.Txt} {f p : Nat} (hf : f ≤ p) (hp : p < s.length) : s.drop f = (s.drop f).take (p - f) ++ s.getD p 0 :: s.drop (p + 1) := by
  have h := (List.take_append_drop (p - f) (s.drop f)).symm
  rw [List.drop_drop, show f + (p - f) = p by omega, List.drop_eq_getElem_cons hp] at h
  have e : s.getD p 0 = s[p] := by simp [List.getD, hp]
  rw [e]
  exact h
set_option maxRecDepth 100000 in
set_option maxHeartbeats 2000000 in
theorem list12_any (s : T2.Txt) (hs : s.length ≤ 4000) (w : World) : Calls Tryz.prog 63 #[.string (str s)] w (ListP w s) := by
  obtain ⟨Z, hZ⟩ : ∃ Z, Z = ListP w s := ⟨_, rfl⟩
  rw [← hZ]
  have HZ := Lib.hid hZ
  have hsz := str_size s
  clear hZ
  go_enter Tryz.func63, Tryz.ntmps63
  go_wp2_with fail
  go_loopw [4, 5, 6] (fun lst fr i wr => ∃ (f p : Nat) (nums : List Int), fr = .int .i64 (f : Int) ∧ i = .int .i64 (p : Int) ∧ f ≤ p ∧ p ≤ s.length ∧ Hid (s.take f = T2.digN nums) ∧ Hid (¬ (44 : UInt8) ∈ (s.drop f).take (p - f)) ∧ Hid (∀ x ∈ nums, T2.fitsI x) ∧ Hid (Below w.heap.size w wr) ∧ wr.ownsRow w.heap.size 3 1 lst nums.length (nums.map T2.iv)) (fun _ _ i _ => s.length + 1 - (intOf i).toNat)
  case atStart => exact ⟨0, 0, [], rfl, rfl, Nat.le_refl _, Nat.zero_le _, Lib.hid rfl, Lib.hid (by simp), Lib.hid (fun x hx => by cases hx), Lib.hid (Below.refl _ _), World.ownsRow_nil _ _ _ _⟩
  case round =>
    obtain ⟨f, p, nums, rfl, rfl, hfp, hpl, HT, HN, HF, HG, own⟩ := hrel
    have HO := Lib.hid own
    have hnl : nums.length ≤ 4000 := by
      have h1 := digN_ge nums
      rw [← HT.out, List.length_take] at h1
      omega
    have HNL := Lib.hid hnl
    clear hnl
    by_cases hlt : p < s.length
    · have hcc : ∀ h : p < (str s).size, ((str s)[p]'h).toNat = (s.getD p 0).toNat := fun h => by rw [str_byte]
      have TM := Lib.hid (take_more12 hfp hlt)
      have DC := Lib.hid (drop_cut hfp hlt)
      obtain ⟨d, hd⟩ : ∃ d, d = s.getD p 0 := ⟨_, rfl⟩
      rw [← hd] at TM DC hcc
      obtain ⟨c, hc⟩ : ∃ c, c = d.toNat := ⟨_, rfl⟩
      rw [← hc] at hcc
      have HC := Lib.hid hc
      clear hd hc
      by_cases h44 : c = 44
      · have hd44 : d = 44 := UInt8.toNat_inj.1 (by rw [← HC.out, h44]; rfl)
        rw [hd44] at DC
        obtain ⟨a, ha⟩ : ∃ a, a = (s.drop f).take (p - f) := ⟨_, rfl⟩
        rw [← ha] at DC HN
        have e6 : (str s).extract f p = str a := by rw [str_extract, ha]
        have NM := Lib.hid (fun W => number12_any a (by rw [ha, List.length_take, List.length_drop]; unfold maxLen; omega) W)
        have HE : s = T2.digN nums ++ s.drop f := by rw [← HT.out, List.take_append_drop]
        have HEX := Lib.hid HE
        subst h44
        obtain ⟨al, cl, rfl⟩ := own_slice_n own
        clear own TM ha HE hd44
        have hfi : (f : Int) ≤ (p : Int) := by omega
        have hpi : (p : Int) ≤ (s.length : Int) := by omega
        go_wp2_with fail
        refine (NM.out _).mono ?_
        rintro e w1 ⟨⟨n, hn, han, rfl⟩ | ⟨hno, m, rfl⟩, g1⟩
        · have G1 := Lib.hid (HG.out.trans (g1.mono HG.out.size))
          have own1 := T2.own_on HO.out g1 (Nat.le_refl _)
          have HN1 := Lib.hid hn
          have HAN := Lib.hid han
          clear g1 hn han NM
          go_wp2_with (at_builtin; refine wpList_app_int rfl (.tmp 29) (.tmp 31) rfl w.heap.size _ nums.length nums rfl rfl own1 _ n rfl HNL.out G1.out.size ?_; intro v6 w6 own6 g6 hq6)
          refine ⟨⟨p + 1, p + 1, nums ++ [n], by push_cast; rfl, by push_cast; rfl, Nat.le_refl _, by omega, Lib.hid ?_, Lib.hid (by simp), Lib.hid ?_, Lib.hid (G1.out.grown g6 G1.out.size (fun q hq => (T2.own_lt own1 q hq).1)), by rw [List.length_append]; exact own6⟩, by simp [intOf]; omega⟩
          · rw [T2.digN_snoc, ← HAN.out]
            have h1 := HEX.out
            rw [DC.out] at h1
            have h2 : s = (T2.digN nums ++ (a ++ [44])) ++ s.drop (p + 1) := by rw [List.append_assoc, List.append_assoc]; exact h1
            have h3 := List.take_append_drop (p + 1) s
            have h4 : (T2.digN nums ++ (a ++ [44])).length = (s.take (p + 1)).length := by
              have := congrArg List.length h2
              have h5 := congrArg List.length h3
              rw [List.length_append] at this h5
              omega
            exact (List.append_inj (h3.trans h2) h4.symm).1
          · intro x hx
            rcases List.mem_append.1 hx with hx | hx
            · exact HF.out x hx
            · rw [List.mem_singleton.1 hx]; exact HN1.out
        · have G1 := Lib.hid (HG.out.trans (g1.mono HG.out.size))
          have ND := Lib.hid (no_dig HEX.out (by rw [DC.out]; simp) (fun y rest hy e => hno y hy (T2.cut_inj HN.out (T2.itoa_ne44 y) (DC.out.symm.trans e)).1))
          clear g1 hno NM
          go_wp2_with fail
          show Z _ _
          rw [HZ.out]
          exact ⟨G1.out, .inr ⟨ND.out, _, _, _, rfl⟩⟩
      · have h44i : ¬ (c : Int) = 44 := by omega
        obtain ⟨al, cl, rfl⟩ := own_slice_n own
        clear own
        go_wp2_with fail
        refine ⟨⟨f, p + 1, nums, rfl, by push_cast; rfl, by omega, by omega, HT, Lib.hid ?_, HF, HG, HO.out⟩, by simp [intOf]; omega⟩
        rw [TM.out]
        intro hm
        rcases List.mem_append.1 hm with hm | hm
        · exact HN.out hm
        · exact h44 (by rw [HC.out, ← List.mem_singleton.1 hm]; rfl)
    · obtain rfl : p = s.length := by omega
      obtain ⟨al, cl, rfl⟩ := own_slice_n own
      clear own
      by_cases hfl : f = s.length
      · subst hfl
        have HD := Lib.hid (show IsDig s nums from ⟨by have := HT.out; rwa [List.take_length] at this, HF.out⟩)
        go_wp2_with fail
        show Z _ _
        rw [HZ.out]
        exact ⟨HG.out, .inl ⟨nums, _, HD.out, rfl, HO.out⟩⟩
      · have hfli : ((f : Int) == (s.length : Int)) = false := by rw [beq_eq_false_iff_ne]; omega
        have HN2 := HN.out
        rw [List.take_of_length_le (by rw [List.length_drop]; exact Nat.le_refl _)] at HN2
        have ND := Lib.hid (no_dig (show s = T2.digN nums ++ s.drop f by rw [← HT.out, List.take_append_drop]) (fun e => by have := congrArg List.length e; rw [List.length_drop] at this; simp at this; omega) (fun y rest _ e => HN2 (by rw [e]; simp)))
        clear HN2
        go_wp2_with fail
        show Z _ _
        rw [HZ.out]
        exact ⟨HG.out, .inr ⟨ND.out, _, _, _, rfl⟩⟩
end Go.Proofs.YtoagdmglchccnaaGreatDoor
namespace Go.Proofs.YtoagdmglchccnaaGreatDoor
open Go Go.RowKit
set_option linter.unusedVariables false
set_option linter.unusedSimpArgs false
theorem rtext12_any (v : Value) (L : TxL) (n : Int) (w : World) (h : RdV w v (L.map T2.sv)) :
    Calls Tryz.prog 62 #[v, .int .i64 n] w fun e w' => w = w' ∧ (textO L n = none ∧ e = .returned (.tuple #[.string (str []), .bool false]) ∨ ∃ s, s ∈ L ∧ textO L n = some s ∧ e = .returned (.tuple #[.string (str s), .bool true])) := by
  obtain ⟨ao, cap, rfl, hle, hcu⟩ := T2.rdt_open h
  have hmax : L.length ≤ 9223372036854775807 := by
    obtain ⟨_, _, e, h2, h3, _⟩ := h
    rw [List.length_map] at h2
    unfold maxLen at h3
    omega
  obtain ⟨Z, hZ⟩ : ∃ Z : Ending → World → Prop, Z = fun e w' => w = w' ∧ (textO L n = none ∧ e = .returned (.tuple #[.string (str []), .bool false]) ∨ ∃ s, s ∈ L ∧ textO L n = some s ∧ e = .returned (.tuple #[.string (str s), .bool true])) := ⟨_, rfl⟩
  rw [← hZ]
  have HZ := Lib.hid hZ
  clear hZ h hle
  by_cases hn : 1 ≤ n ∧ n ≤ L.length
  · obtain ⟨k, hk, rfl, e⟩ := textO_some hn
    obtain ⟨b, off, rfl, hb, hc0⟩ := hcu.out (by omega)
    have hc := hc0 k hk
    obtain ⟨s, hs⟩ : ∃ s, s = L[k] := ⟨_, rfl⟩
    rw [← hs] at hc e
    unfold T2.sv at hc
    have HM := Lib.hid (show s ∈ L by rw [hs]; exact List.getElem_mem _)
    have E := Lib.hid e
    have h1 : ¬ (k : Int) + 1 < 1 := by omega
    have h2 : ¬ (L.length : Int) < (k : Int) + 1 := by omega
    have h3 : (k : Int) + 1 - 1 = (k : Int) := by omega
    clear hs hc0 hcu hn e
    go_enter Tryz.func62, Tryz.ntmps62
    go_wp2_with fail
    show Z _ _
    rw [HZ.out]
    exact ⟨rfl, .inr ⟨s, HM.out, E.out, rfl⟩⟩
  · have E := Lib.hid (textO_none hn)
    by_cases h1 : n < 1
    · go_enter Tryz.func62, Tryz.ntmps62
      go_wp2_with fail
      show Z _ _
      rw [HZ.out]
      exact ⟨rfl, .inl ⟨E.out, rfl⟩⟩
    · have h2 : (L.length : Int) < n := by omega
      clear hn
      go_enter Tryz.func62, Tryz.ntmps62
      go_wp2_with fail
      show Z _ _
      rw [HZ.out]
      exact ⟨rfl, .inl ⟨E.out, rfl⟩⟩
set_option maxRecDepth 100000 in
set_option maxHeartbeats 1000000 in
theorem refLeaves12_any (v : Value) (L : TxL) (n : Int) (w : World) (h : RdV w v (L.map T2.sv)) (hL : ∀ s ∈ L, s.length ≤ 4000) :
    Calls Tryz.prog 21 #[v, .int .i64 n] w (Own2 w (leavesO L n)) := by
  obtain ⟨Z, hZ⟩ : ∃ Z, Z = Own2 w (leavesO L n) := ⟨_, rfl⟩
  rw [← hZ]
  have HZ := Lib.hid hZ
  have TX := Lib.hid (rtext12_any v L n w h)
  have LI := Lib.hid (fun s (hs : s ∈ L) => list12_any s (hL s hs) w)
  clear hZ h hL
  go_enter Tryz.func21, Tryz.ntmps21
  go_wp2_with fail
  refine TX.out.mono ?_
  rintro e w' ⟨rfl, ⟨h1, rfl⟩ | ⟨s, hs, h1, rfl⟩⟩
  · go_wp2_with fail
    show Z _ _
    rw [HZ.out]
    unfold leavesO
    rw [h1]
    exact own2_no (Below.refl _ _)
  · go_wp2_with fail
    refine (LI.out s hs).mono ?_
    rintro e w1 ⟨g, ⟨xs, u, hx, rfl, own⟩ | ⟨hx, a, n5, c5, rfl⟩⟩
    · have hx2 := splO_some hx
      have OW := Lib.hid own
      have GX := Lib.hid g
      by_cases h16 : xs.length = 16
      · rw [h16] at own
        obtain ⟨gq, cq, rfl, -, -⟩ := slice_of_own own (by omega)
        have HCELL := Lib.hid (show ∀ j (hj : j < xs.length), w1.cell? ⟨gq, j, none⟩ = some (.int .i64 xs[j]) from fun j hj => by
          have := own.cellAt j (by rw [h16] at hj; simpa using hj)
          rw [List.getElem?_map, List.getElem?_eq_getElem hj] at this
          simpa [T2.iv] using this)
        have HOK := Lib.hid (fun hp => leavesO_some h1 hx2 h16 hp)
        have HBAD := Lib.hid (fun hp => leavesO_pos h1 hx2 hp)
        have OW16 := Lib.hid own
        have H16 := Lib.hid h16
        clear own hx hx2 h1 g h16 OW LI TX
        go_wp2_with fail
        go_loopw [10] (fun i wr => ∃ j : Nat, j ≤ 16 ∧ i = .int .i64 (j : Int) ∧ wr = w1 ∧ Hid (pos12 (xs.take j) = true)) (fun i _ => 20 - (intOf i).toNat)
        case atStart => exact ⟨0, Nat.zero_le _, rfl, rfl, Lib.hid rfl⟩
        case round =>
          obtain ⟨j, hj, rfl, rfl, HP⟩ := hrel
          by_cases hlt : j < 16
          · have hlti : (j : Int) < 16 := by omega
            have hj2 : j < xs.length := by rw [H16.out]; exact hlt
            have hc := HCELL.out j hj2
            have PT := pos12_take hj2
            have PN := fun hx => pos12_no hj2 hx
            obtain ⟨x, hx⟩ : ∃ x, x = xs[j] := ⟨_, rfl⟩
            rw [← hx] at hc PT PN
            have PT := Lib.hid PT
            have PN := Lib.hid PN
            clear hx
            by_cases hx0 : x ≤ 0
            · go_wp2_with fail
              show Z _ _
              rw [HZ.out, HBAD.out (PN.out (by omega))]
              exact own2_no GX.out
            · go_wp2_with fail
              exact ⟨⟨j + 1, by omega, by push_cast; rfl, (by first | trivial | rfl), Lib.hid (by rw [PT.out, HP.out]; simp; omega)⟩, by simp [intOf]; omega⟩
          · obtain rfl : j = 16 := by omega
            go_wp2_with fail
            show Z _ _
            have hp := HP.out
            rw [List.take_of_length_le (by rw [H16.out]; exact Nat.le_refl _)] at hp
            rw [HZ.out, HOK.out hp]
            refine ⟨_, rfl, ?_, GX.out⟩
            show _
            simp only [H16.out]
            exact OW16.out
      · have h16i : ¬ ((xs.length : Nat) : Int) = 16 := by omega
        have HR := Lib.hid (leavesO_len h1 hx2 h16)
        obtain ⟨au, cu, rfl⟩ := own_slice_n own
        clear own hx2 hx h1 g
        go_wp2_with fail
        show Z _ _
        rw [HZ.out, HR.out]
        exact own2_no GX.out
    · have HR := Lib.hid (leavesO_bad h1 (splO_none hx))
      have GX := Lib.hid g
      clear hx h1 g
      go_wp2_with fail
      show Z _ _
      rw [HZ.out, HR.out]
      exact own2_no GX.out
end Go.Proofs.YtoagdmglchccnaaGreatDoor
