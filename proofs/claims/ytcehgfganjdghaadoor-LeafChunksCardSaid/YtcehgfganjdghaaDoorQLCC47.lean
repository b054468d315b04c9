/- The law LeafChunks. Written by wip/tools/gen9z9.py. -/
import Derived.Test.YtcehgfganjdghaaDoorQLCC40
import Derived.Test.YtcehgfganjdghaaDoorQLCC45
import Derived.Test.YtcehgfganjdghaaDoorQLCC46
import Derived.Deep.DeepCutAuto
namespace Go.Proofs.YtcehgfganjdghaaDoor
open Go Go.RowKit
set_option linter.unusedVariables false
set_option linter.unusedSimpArgs false
def gotL (l : List It) : List (List UInt8) := if isL l = true then chunksL l else []
theorem gotL_yes {l : List It} (h : isL l = true) : gotL l = chunksL l := if_pos h
theorem gotL_no {l : List It} (h : isL l = false) : gotL l = [] := if_neg (by simp [h])
theorem gotL_len {l : List It} : (gotL l).length ≤ 8 := by
  unfold gotL
  split
  · rename_i h
    have := isL_len h
    unfold chunksL starts
    simp
    omega
  · simp
theorem chunksB_any (ao : Option Addr) (cap : Nat) (l : List It) (w : World) (tab : TabAt w) (h : RdI w (.slice ao l.length cap) l) (hsz : SzI l) (hwf : WfI l) :
    Calls Tryd.prog 29 #[.slice ao l.length cap] w (ChR w (gotL l)) := by
  cases hl : isL l with
  | true => rw [gotL_yes hl]; exact chunks_yes ao cap l w tab h hl hsz hwf
  | false =>
    rw [gotL_no hl]
    refine (chunks_no _ l w tab h hsz hl).mono ?_
    rintro e w' ⟨rfl, g⟩
    exact ⟨_, [], rfl, World.ownsRow_nil _ _ _ _, rowB_nil _ _, g⟩
def t9 (c : List UInt8) : List UInt8 := c.take 900
def mix (C : List (List UInt8)) (j : Nat) : List (List UInt8) := (C.take j).map t9 ++ C.drop j
theorem mix_len (C : List (List UInt8)) (j : Nat) : (mix C j).length = C.length := by unfold mix; simp; omega
theorem mix_at {C : List (List UInt8)} {j : Nat} (h : j < C.length) : (mix C j)[j]'(by rw [mix_len]; exact h) = C[j] := by
  unfold mix
  rw [List.getElem_append_right (by simp; omega)]
  simp [Nat.min_eq_left (Nat.le_of_lt h)]
theorem mix_step {C : List (List UInt8)} {j : Nat} (h : j < C.length) : mix C (j + 1) = (mix C j).set j (t9 C[j]) := by
  unfold mix
  have hl : ((C.take j).map t9).length = j := by simp; omega
  rw [List.set_append_right _ _ (by omega), hl, Nat.sub_self, List.drop_eq_getElem_cons h, List.set_cons_zero, List.take_succ_eq_append_getElem h, List.map_append, List.append_assoc]
  rfl
theorem mix_end (C : List (List UInt8)) : mix C C.length = C.map t9 := by unfold mix; simp
theorem rdu_set {w : World} {us : List Value} {ls : List (List UInt8)} {u : Value} {y : List UInt8} (h : RdU w us ls) (j : Nat) (hu : Rd w u y) : RdU w (us.set j u) (ls.set j y) := by
  refine ⟨by rw [List.length_set, List.length_set, h.1], fun i v hi => ?_⟩
  rw [List.getElem?_set] at hi
  by_cases hij : j = i
  · subst hij
    rw [if_pos rfl] at hi
    split at hi
    · rename_i hlt
      cases hi
      exact ⟨y, by rw [List.getElem?_set, if_pos rfl, if_pos (by rw [← h.1]; exact hlt)], hu⟩
    · cases hi
  · rw [if_neg hij] at hi
    obtain ⟨l, h1, h2⟩ := h.2 i v hi
    exact ⟨l, by rw [List.getElem?_set, if_neg hij]; exact h1, h2⟩
theorem set_parts {us : List Value} {j : Nat} (h : j < us.length) (u : Value) : us.take j ++ [u] ++ us.drop (j + 1) = us.set j u := by
  rw [List.set_eq_take_append_cons_drop, if_pos h, List.append_assoc]; rfl
theorem sl900 {aj aS : Option Addr} {nj cj : Nat} (hsl : V7.slV aj 900 cj = .slice aS 900 cj) (op : Oper) (a : Act) (s y : Operand) (ho : op.op = .slice 58 s none (some y) none) (hs : a.eval s = .slice aj nj cj) (hy : a.eval y = .int .i64 ((900 : Nat) : Int)) (hj : 900 ≤ nj) (hc : nj ≤ cj) (hm : cj ≤ maxLen) (w : World) : (execOp a.eval op).run Tryd.prog w = .ok (.value (.slice aS 900 cj)) w := by
  rw [← hsl]; exact V7.slV_op op a s y aj nj cj 900 ho hs hy hj hc hm w
theorem bb_info : (Tryd.prog.info? 58).map (fun i => (i.zero, i.size, i.bytes)) = some (some (.slice none 0 0), 1, 24) := bytes_info
theorem ofL_len {vf : Nat → Int} {ls : List (List UInt8)} : (ofL vf ls).1.length ≤ 64 := by
  obtain ⟨all, odd, e, i, h⟩ : ∃ a b c d, ofGo vf ls 0 [] (-1) = (a, b, c, d) := ⟨_, _, _, _, rfl⟩
  unfold ofL
  rw [h]
  unfold ofE
  simp only
  by_cases h1 : e = 0
  · rw [if_neg (by simp [h1])]
    by_cases h2 : 0 ≤ odd ∧ odd + 1 < (ls.length : Int)
    · rw [if_pos h2]; simp
    · rw [if_neg h2]
      by_cases h3 : (chkL all).1 = 0
      · rw [if_neg (by simp [h3])]
        exact isL_len (l := all) (by unfold isL; rw [h3]; rfl)
      · rw [if_pos h3]; simp
  · rw [if_pos h1]; simp
theorem sC_cell {W : World} {base : Nat} {g cap n : Nat} {ls : List (List UInt8)} (h : W.ownsRow base 9 1 (.slice (some ⟨g, 0, none⟩) n cap) n (ls.flatMap sC)) (j : Nat) (hj : j < n) (hn : ls.length = n) : W.cell? ⟨g, j, none⟩ = some (.string (str (ls[j]'(by omega)))) := by
  rw [h.cellAt j (by omega)]
  have := flat_get sC_len ls j 0 (by omega) (by omega)
  rw [Nat.mul_one, Nat.add_zero] at this
  rw [this]; rfl
set_option maxRecDepth 100000 in
set_option maxHeartbeats 8000000 in
theorem chunks_row (v : Value) (l : List It) (u : Value) (chs : List (List UInt8)) (w : World) (h : RdI w v l) (hsz : SzI l) (hwf : WfI l) (hp : RdP w u chs) (tab : TabAt w) :
    Calls Tryd.prog 6 #[v, u] w fun e w' => e = .returned (.bool true) ∧ Below w.heap.size w w' := by
  obtain ⟨us0, hk0, hu0⟩ := rdk_of_rdp hp
  obtain ⟨ao0, cap0, rfl, hc0, hm0, hk0⟩ := hk0.open
  have FW := few9_any v l w h hsz
  obtain ⟨L, hL⟩ : ∃ L, L = fewL l := ⟨_, rfl⟩
  have HS := Lib.hid (show SzI L by rw [hL]; exact fewL_sz hsz)
  have HW := Lib.hid (show WfI L by rw [hL]; exact fewL_wf hwf)
  rw [← hL] at FW
  have HK0 := Lib.hid hk0
  have HU0 := Lib.hid hu0
  have T0 := Lib.hid tab
  obtain ⟨ib, hib, hbz, hb1, hb2⟩ := info_parts bb_info
  obtain ⟨is, his, hs0, hs1, hs2⟩ := info_parts string_info9
  obtain ⟨C, hC⟩ : ∃ C, C = chs.take 12 := ⟨_, rfl⟩
  have hC12 : C.length ≤ 12 := by rw [hC]; simp; omega
  have HC := Lib.hid hC
  clear hL h hsz hwf hp tab hk0 hu0 hC
  go_enter Tryd.func6, Tryd.ntmps6
  go_wp2_with fail
  refine FW.mono ?_
  rintro e w1 ⟨v1, rfl, own1, b1⟩
  have hr1 := OwnI.rd (w := w) own1
  obtain ⟨ao, cap, rfl, k1, k2⟩ := slice_of_rd hr1
  have RDL := Lib.hid hr1
  have T1 := Lib.hid (T0.out.below b1)
  have B1 := Lib.hid b1
  have HK1 := Lib.hid (HK0.out.below b1 (Nat.le_refl _))
  have HU1 := Lib.hid (HU0.out.below b1 (Nat.le_refl _))
  clear FW own1 hr1 b1
  go_upto_if 24 with fail
  go_cut [1] (fun s1 wx => ∃ us, RdK 1 vC wx s1 us ∧ RdU wx us C ∧ wx = w1)
  case first =>
    by_cases h12 : 12 < us0.length
    · go_wp2_with (with_reducible refine wpList_slice_rdk vC_len rfl 54 58 (.tmp 25) none (some (.const (.int .i64 12))) rfl ib Tryd.underlying54 hib hb1 ao0 cap0 us0 rfl HK1.out 0 12 (.inl ⟨rfl, rfl⟩) (.inr ⟨_, .i64, rfl, rfl⟩) (by omega) (by omega) ?_; intro aoS capS hS; have HSS := Lib.hid hS; clear hS)
      go_meet
      case rel =>
        refine ⟨us0.take 12, HSS.out, ⟨?_, ?_⟩, rfl⟩
        · rw [HC.out, List.length_take, List.length_take, HU1.out.1]
        · intro j u hj
          rw [List.getElem?_take] at hj
          split at hj
          · rename_i hlt
            obtain ⟨l, h1, h2⟩ := HU1.out.2 j u hj
            exact ⟨l, by rw [HC.out, List.getElem?_take, if_pos hlt]; exact h1, h2⟩
          · cases hj
    · go_wp2_with fail
      go_meet
      case rel =>
        refine ⟨us0, HK1.out, ?_, rfl⟩
        have : chs.length = us0.length := HU1.out.1.symm
        rw [HC.out, List.take_of_length_le (by omega)]
        exact HU1.out
  case rest =>
    obtain ⟨us1, hk1, hu1, rfl⟩ := hcut
    obtain ⟨N, hN⟩ : ∃ N, N = C.length := ⟨_, rfl⟩
    obtain ⟨aoC, capC, rfl, hcC, hmC, hkC⟩ := hk1.openN (N := N) (by rw [hu1.1, hN])
    have HKC := Lib.hid hkC
    have HUC := Lib.hid hu1
    have HN := Lib.hid hN
    have hN12 : N ≤ 12 := by omega
    have CHB := chunksB_any ao cap L wc T1.out RDL.out HS.out HW.out
    clear hk1 hu1 hkC hN HK1 HU1 HK0 HU0
    go_wp2_with fail
    refine CHB.mono ?_
    rintro e w2 ⟨v2, vs2, rfl, own2, row2, g2⟩
    obtain ⟨rk2, ru2⟩ := chR_rd own2 row2
    obtain ⟨G, hG⟩ : ∃ G, G = (gotL L).length := ⟨_, rfl⟩
    have hG8 : G ≤ 8 := by rw [hG]; exact gotL_len
    obtain ⟨a2, c2, rfl, hc2, hm2, rk2⟩ := rk2.openN (N := G) (by rw [ru2.1, hG])
    have RK2 := Lib.hid rk2
    have RU2 := Lib.hid ru2
    have HG := Lib.hid hG
    have IS := refIs9_any _ L w2 (T1.out.below g2) (RDL.out.below g2 (Nat.le_refl _)) HS.out
    have B2 := Lib.hid g2
    clear own2 row2 rk2 ru2 CHB hG g2
    go_wp2_with fail
    refine IS.mono ?_
    rintro e w3 ⟨rfl, g3⟩
    have B3 := Lib.hid g3
    clear IS g3
    go_upto_if 30 with fail
    go_cut [6] (fun s6 wx => RdK 1 sC wx s6 (gotL L) ∧ Below w2.heap.size w2 wx)
    case first =>
      cases hl : isL L with
      | false =>
        have HG0 := Lib.hid (gotL_no hl)
        go_wp2_with fail
        go_meet
        case rel => exact ⟨by rw [HG0.out]; exact rdk_nil _, B3.out⟩
      | true =>
        have HG0 := Lib.hid (gotL_yes hl)
        have RC := refChunks_any (.slice ao L.length cap) L w3 (RDL.out.below (chain B2.out B3.out) (Nat.le_refl _)) hl HW.out
        have RCH := Lib.hid RC
        clear RC
        go_wp2_with fail
        refine RCH.out.mono ?_
        rintro e w4 ⟨v4, rfl, own4, g4⟩
        have hk4 := Lib.hid (own_rdk sC_len own4)
        have B4 := Lib.hid (chain B3.out g4)
        clear own4 g4
        go_wp2_with fail
        go_meet
        case rel => exact ⟨by rw [HG0.out]; exact hk4.out, B4.out⟩
    case rest =>
      obtain ⟨hW, bW⟩ := hcut
      obtain ⟨w5, rfl⟩ : ∃ w5, w5 = wc := ⟨_, rfl⟩
      obtain ⟨aoW, capW, rfl, hcW, hmW, hW⟩ := hW.openN (N := G) HG.out.symm
      have HWW := Lib.hid hW
      have BW := Lib.hid bW
      clear hW bW
      go_wp2_with fail
      go_loopw [7] (fun i wr => ∃ j : Nat, j ≤ G ∧ i = .int .i64 (j : Int) ∧ Below w5.heap.size w5 wr) (fun i _ => 20 - (intOf i).toNat)
      case atStart => exact ⟨0, Nat.zero_le _, rfl, Below.refl _ _⟩
      case round =>
        obtain ⟨j, hj, rfl, bel⟩ := hrel
        by_cases hlt : j < G
        · obtain ⟨b, off, rfl, hb, hc⟩ := RdK.cell vC_len ((RK2.out.below BW.out (Nat.le_refl _)).below bel (Nat.le_refl _)) j (by rw [RU2.out.1, ← HG.out]; exact hlt)
          obtain ⟨b2, off2, rfl, hb2, hc2⟩ := RdK.cell sC_len (HWW.out.below bel (Nat.le_refl _)) j (by rw [← HG.out]; exact hlt)
          obtain ⟨hju, hr⟩ := ((RU2.out.below BW.out (Nat.le_refl _)).below bel (Nat.le_refl _)).at j (by rw [← HG.out]; exact hlt)
          have hc := hc 0 (by omega)
          have hc2 := hc2 0 (by omega)
          rw [Nat.mul_one, Nat.add_zero] at hc hc2
          simp only [vC, sC, List.getElem?_cons_zero] at hc hc2
          generalize vs2[j] = uj at hc hr
          generalize (gotL L)[j]'(by rw [← HG.out]; exact hlt) = lj at hc2 hr
          have hgG : (j : Int) < (G : Int) := by omega
          go_wp2_with fail
          refine g_start (by kernel_rfl) ?_
          refine g_take (i := 0) (d := (some 44)) (v := ?_) rfl rfl (by kernel_rfl) (fun _ _ _ h => h) (by rfl) (fun w' hb' => ?_) ?_
          rotate_left
          · (try go_simp); (try with_reducible rfl)
          try simp only [Act.put, List.setIfInBounds_toArray, List.set_cons_zero, List.set_cons_succ]
          refine g_take (i := 1) (d := (some 45)) (v := ?_) rfl rfl (by kernel_rfl) (fun _ _ _ h => h) (by rfl) (fun w' hb' => ?_) ?_
          rotate_left
          · (try go_simp); (try with_reducible rfl)
          try simp only [Act.put, List.setIfInBounds_toArray, List.set_cons_zero, List.set_cons_succ]
          refine g_take (i := 2) (d := (some 46)) (v := ?_) rfl rfl (by kernel_rfl) (fun _ _ _ h => h) (by rfl) (fun w' hb' => ?_) ?_
          rotate_left
          · (try go_simp); (try with_reducible rfl)
          try simp only [Act.put, List.setIfInBounds_toArray, List.set_cons_zero, List.set_cons_succ]
          refine g_take (i := 3) (d := (some 47)) (v := ?_) rfl rfl (by kernel_rfl) (fun _ _ _ h => h) (by rfl) (fun w' hb' => ?_) ?_
          rotate_left
          · have zz := (hb'.cell (p := ⟨b, off + j, none⟩) hb).trans hc; (try go_simp); (try with_reducible rfl)
          try simp only [Act.put, List.setIfInBounds_toArray, List.set_cons_zero, List.set_cons_succ]
          refine g_take (i := 4) (d := (some 48)) (v := ?_) rfl rfl (by kernel_rfl) (fun _ _ _ h => h) (by rfl) (fun w' hb' => ?_) ?_
          rotate_left
          · have k1 := conv_rd (P := Tryd.prog) ((hr.below (B := wr.heap.size) (Below.drew (Below.refl _ _)) (Nat.le_refl _)).below hb' (Nat.le_refl _)) 58 5 9 Tryd.underlying58 Tryd.underlying5 Tryd.underlying9; (try go_simp); (try with_reducible rfl)
          try simp only [Act.put, List.setIfInBounds_toArray, List.set_cons_zero, List.set_cons_succ]
          refine g_take (i := 5) (d := (some 49)) (v := ?_) rfl rfl (by kernel_rfl) (fun _ _ _ h => h) (by rfl) (fun w' hb' => ?_) ?_
          rotate_left
          · (try go_simp); (try with_reducible rfl)
          try simp only [Act.put, List.setIfInBounds_toArray, List.set_cons_zero, List.set_cons_succ]
          refine g_take (i := 6) (d := (some 50)) (v := ?_) rfl rfl (by kernel_rfl) (fun _ _ _ h => h) (by rfl) (fun w' hb' => ?_) ?_
          rotate_left
          · (try go_simp); (try with_reducible rfl)
          try simp only [Act.put, List.setIfInBounds_toArray, List.set_cons_zero, List.set_cons_succ]
          refine g_take (i := 7) (d := (some 51)) (v := ?_) rfl rfl (by kernel_rfl) (fun _ _ _ h => h) (by rfl) (fun w' hb' => ?_) ?_
          rotate_left
          · (try go_simp); (try with_reducible rfl)
          try simp only [Act.put, List.setIfInBounds_toArray, List.set_cons_zero, List.set_cons_succ]
          refine g_take (i := 8) (d := (some 52)) (v := ?_) rfl rfl (by kernel_rfl) (fun _ _ _ h => h) (by rfl) (fun w' hb' => ?_) ?_
          rotate_left
          · have zz := (hb'.cell (p := ⟨b2, off2 + j, none⟩) hb2).trans hc2; (try go_simp); (try with_reducible rfl)
          try simp only [Act.put, List.setIfInBounds_toArray, List.set_cons_zero, List.set_cons_succ]
          refine g_take (i := 9) (d := (some 53)) (v := ?_) rfl rfl (by kernel_rfl) (fun _ _ _ h => h) (by rfl) (fun w' hb' => ?_) ?_
          rotate_left
          · (try go_simp); (try with_reducible rfl)
          try simp only [Act.put, List.setIfInBounds_toArray, List.set_cons_zero, List.set_cons_succ]
          refine g_done (by kernel_rfl) ?_
          go_wp2_with fail
          exact ⟨⟨j + 1, by omega, by push_cast; rfl, bel.drew⟩, by simp [intOf]; omega⟩
        · obtain rfl : j = G := by omega
          obtain ⟨w6, rfl⟩ : ∃ w6, w6 = wr := ⟨_, rfl⟩
          have B6 := Lib.hid (chain BW.out bel)
          have T6 := Lib.hid ((T1.out.below B2.out).below B6.out)
          have BT := Lib.hid (chain B1.out (chain B2.out B6.out))
          have HK6 := Lib.hid ((HKC.out.below B2.out (Nat.le_refl _)).below B6.out (Nat.le_refl _))
          have HU6 := Lib.hid ((HUC.out.below B2.out (Nat.le_refl _)).below B6.out (Nat.le_refl _))
          clear bel RK2 RU2 HWW BW HKC HUC B2 B3 RDL HS HW
          go_wp2_with fail
          go_loopw [1, 8, 9] (fun s1 s8 i wr => ∃ (j : Nat) (us : List Value), j ≤ N ∧ i = .int .i64 (j : Int) ∧ ChV w6 wr s1 us ∧ RdU w6 us (mix C j) ∧ wr.ownsRow w6.heap.size 9 1 s8 j (((C.take j).map t9).flatMap sC) ∧ Below w6.heap.size w6 wr) (fun _ _ i _ => 20 - (intOf i).toNat)
          case atStart => exact ⟨0, us1, Nat.zero_le _, rfl, .inl HK6.out, by have h := HU6.out; exact h, World.ownsRow_nil _ _ _ _, Below.refl _ _⟩
          case round =>
            obtain ⟨j, us, hj, rfl, hk, hu, hown, bel⟩ := hrel
            have hul : us.length = N := by rw [hu.1, mix_len, HN.out]
            obtain ⟨aoj, capj, rfl, hcj, hmj, hkx⟩ := (hk.rd bel).openN hul
            have HKV := Lib.hid hk
            have hk := hkx
            clear hkx
            have HUL := Lib.hid hul
            clear hul
            by_cases hlt : j < N
            · have hjC : j < C.length := by rw [← HN.out]; exact hlt
              obtain ⟨b, off, rfl, hb, hc⟩ := RdK.cell vC_len hk j (by rw [HUL.out]; exact hlt)
              have hc := hc 0 (by omega)
              rw [Nat.mul_one, Nat.add_zero] at hc
              simp only [vC, List.getElem?_cons_zero] at hc
              obtain ⟨hju, hr⟩ := hu.at j (by rw [mix_len]; exact hjC)
              rw [mix_at hjC] at hr
              obtain ⟨c0, hc0x⟩ : ∃ c, c = C[j] := ⟨_, rfl⟩
              rw [← hc0x] at hr
              obtain ⟨nj, hnj⟩ : ∃ n, n = c0.length := ⟨_, rfl⟩
              obtain ⟨uj, huj⟩ : ∃ uj, uj = us[j] := ⟨_, rfl⟩
              rw [← huj] at hc hr
              obtain ⟨aj, cj, rfl, hncj, hcjm⟩ : ∃ aj cj, uj = .slice aj nj cj ∧ nj ≤ cj ∧ cj ≤ 9223372036854775807 := by
                obtain ⟨aj, cj, e, h1, h2, _⟩ := hr; unfold maxLen at h2; exact ⟨aj, cj, by rw [e, hnj], by omega, by omega⟩
              have HRJ := Lib.hid hr
              have HK := Lib.hid hk
              have HU := Lib.hid hu
              have HOWN := Lib.hid hown
              have BEL := Lib.hid bel
              have HUJ := Lib.hid huj
              have HC0 := Lib.hid hc0x
              have HNJ := Lib.hid hnj
              have MS := Lib.hid (show mix C (j + 1) = (mix C j).set j (t9 c0) by rw [mix_step hjC, hc0x])
              clear hk hu hown bel huj hc0x hnj hr
              go_upto_if 65 with fail
              go_cut [1] (fun s1 wx => ∃ us', ChV w6 wx s1 us' ∧ RdU w6 us' (mix C (j + 1)) ∧ Below wr.heap.size wr wx)
              case first =>
                by_cases h9 : 900 < nj
                · obtain ⟨A, hA, hCA⟩ := rdk_cutk vC_len Tryd.underlying54 hib hb1 HK.out 0 j (Nat.zero_le _) (by omega)
                  obtain ⟨D, hD, hCD⟩ := rdk_cutk vC_len Tryd.underlying54 hib hb1 HK.out (j + 1) N (by omega) (Nat.le_refl _)
                  rw [List.drop_zero, Nat.sub_zero] at hA
                  rw [List.take_of_length_le (by rw [List.length_drop, HUL.out]; exact Nat.le_refl _)] at hD
                  have HA := Lib.hid hA
                  have HD := Lib.hid hD
                  have CA := Lib.hid hCA
                  have CC := Lib.hid hCD
                  have HON := Lib.hid (HU.out.one)
                  obtain ⟨aS, hsl⟩ : ∃ aS, V7.slV aj 900 cj = .slice aS 900 cj := ⟨_, rfl⟩
                  have HSL := Lib.hid hsl
                  have HR9 := Lib.hid (show Rd w6 (.slice aS 900 cj) (t9 c0) by rw [← HSL.out]; exact V7.rd_slV HRJ.out 900 (by omega) hncj)
                  clear hsl
                  have hset := Lib.hid (set_parts (us := us) (j := j) hju (.slice aS 900 cj))
                  have hS : Below wr.heap.size wr wr.drew := (Below.refl _ _).drew
                  have hul2 : us.length ≤ 12 := by rw [HUL.out]; omega
                  clear hA hD hCA hCD
                  go_wp2_with fail
                  refine gs_start (S := fun w' => Below wr.heap.size wr w') (by kernel_rfl) ?_
                  generalize wr.drew = y0 at hS ⊢
                  refine gs_take (i := 1) (d := (some 67)) (v := ?_) rfl rfl (by kernel_rfl) (fun _ _ _ h => h) (by rfl) hS (fun w' hb' => ?_) ?_
                  rotate_left
                  · (try go_simp); (try with_reducible rfl)
                  try simp only [Act.put, List.setIfInBounds_toArray, List.set_cons_zero, List.set_cons_succ]
                  refine gs_take (i := 2) (d := (some 68)) (v := ?_) rfl rfl (by kernel_rfl) (fun _ _ _ h => h) (by rfl) hS (fun w' hb' => ?_) ?_
                  rotate_left
                  · (try go_simp); (try with_reducible rfl)
                  try simp only [Act.put, List.setIfInBounds_toArray, List.set_cons_zero, List.set_cons_succ]
                  refine gs_take (i := 3) (d := (some 69)) (v := ?_) rfl rfl (by kernel_rfl) (fun _ _ _ h => h) (by rfl) hS (fun w' hb' => ?_) ?_
                  rotate_left
                  · (refine CA.out.to _ _ (.tmp 67) (.tmp 68) .i64 ?_ ?_ ?_ w' <;> rfl); (try go_simp); (try with_reducible rfl)
                  try simp only [Act.put, List.setIfInBounds_toArray, List.set_cons_zero, List.set_cons_succ]
                  refine gs_take (i := 5) (d := (some 71)) (v := ?_) rfl rfl (by kernel_rfl) (fun _ _ _ h => h) (by rfl) hS (fun w' hb' => ?_) ?_
                  rotate_left
                  · (try go_simp); (try with_reducible rfl)
                  try simp only [Act.put, List.setIfInBounds_toArray, List.set_cons_zero, List.set_cons_succ]
                  refine gs_take (i := 6) (d := (some 72)) (v := ?_) rfl rfl (by kernel_rfl) (fun _ _ _ h => h) (by rfl) hS (fun w' hb' => ?_) ?_
                  rotate_left
                  · (try go_simp); (try with_reducible rfl)
                  try simp only [Act.put, List.setIfInBounds_toArray, List.set_cons_zero, List.set_cons_succ]
                  refine gs_take (i := 7) (d := (some 73)) (v := ?_) rfl rfl (by kernel_rfl) (fun _ _ _ h => h) (by rfl) hS (fun w' hb' => ?_) ?_
                  rotate_left
                  · (try go_simp); (try with_reducible rfl)
                  try simp only [Act.put, List.setIfInBounds_toArray, List.set_cons_zero, List.set_cons_succ]
                  refine gs_take (i := 8) (d := (some 74)) (v := ?_) rfl rfl (by kernel_rfl) (fun _ _ _ h => h) (by rfl) hS (fun w' hb' => ?_) ?_
                  rotate_left
                  · have zz := (hb'.cell (p := ⟨b, off + j, none⟩) hb).trans hc; (try go_simp); (try with_reducible rfl)
                  try simp only [Act.put, List.setIfInBounds_toArray, List.set_cons_zero, List.set_cons_succ]
                  refine gs_take (i := 9) (d := (some 75)) (v := ?_) rfl rfl (by kernel_rfl) (fun _ _ _ h => h) (by rfl) hS (fun w' hb' => ?_) ?_
                  rotate_left
                  · (refine sl900 (aj := aj) (nj := nj) HSL.out _ _ (.tmp 74) (.const (.int .i64 900)) ?_ ?_ ?_ (by omega) (by omega) (by unfold maxLen; omega) w' <;> rfl); (try go_simp); (try with_reducible rfl)
                  try simp only [Act.put, List.setIfInBounds_toArray, List.set_cons_zero, List.set_cons_succ]
                  refine gs_take (i := 12) (d := (some 78)) (v := ?_) rfl rfl (by kernel_rfl) (fun _ _ _ h => h) (by rfl) hS (fun w' hb' => ?_) ?_
                  rotate_left
                  · (try go_simp); (try with_reducible rfl)
                  try simp only [Act.put, List.setIfInBounds_toArray, List.set_cons_zero, List.set_cons_succ]
                  refine gs_take (i := 13) (d := (some 79)) (v := ?_) rfl rfl (by kernel_rfl) (fun _ _ _ h => h) (by rfl) hS (fun w' hb' => ?_) ?_
                  rotate_left
                  · (try go_simp); (try with_reducible rfl)
                  try simp only [Act.put, List.setIfInBounds_toArray, List.set_cons_zero, List.set_cons_succ]
                  refine gs_take (i := 14) (d := (some 80)) (v := ?_) rfl rfl (by kernel_rfl) (fun _ _ _ h => h) (by rfl) hS (fun w' hb' => ?_) ?_
                  rotate_left
                  · have s1 : IntKind.i64.wrap ((j : Int) + 1) = ((j + 1 : Nat) : Int) := (by rw [IntKind.wrap_i64]; omega); (try go_simp); (try with_reducible rfl)
                  try simp only [Act.put, List.setIfInBounds_toArray, List.set_cons_zero, List.set_cons_succ]
                  refine gs_take (i := 15) (d := (some 81)) (v := ?_) rfl rfl (by kernel_rfl) (fun _ _ _ h => h) (by rfl) hS (fun w' hb' => ?_) ?_
                  rotate_left
                  · (refine CC.out.from _ _ (.tmp 78) (.tmp 80) .i64 ?_ ?_ ?_ w' <;> rfl); (try go_simp); (try with_reducible rfl)
                  try simp only [Act.put, List.setIfInBounds_toArray, List.set_cons_zero, List.set_cons_succ]
                  refine gs_run2 (i := 0) (k := 10) rfl rfl (by kernel_rfl) (by rfl) (by rfl) (fun K hK => ?_) (fun K hK => ?_)
                  · skip
                    go_simp
                    have hS1 := hS.alloc hS.size (.cells #[] 58)
                    obtain ⟨g66, hg66⟩ : ∃ g, g = y0.heap.size := ⟨_, rfl⟩
                    have own66 : (y0.alloc (.cells #[] 58)).ownsRow wr.heap.size 58 1 (.slice (some ⟨g66, 0, none⟩) 0 0) 0 [] := by rw [hg66]; exact World.ownsRow_lit (e := 58) (size := 1) (base := wr.heap.size) y0 #[] 0 hS.size (by decide) rfl
                    have lt66 : g66 < (y0.alloc (.cells #[] 58)).heap.size := by rw [World.size_alloc, hg66]; exact Nat.lt_succ_self _
                    refine hK _ _ ⟨hS1, ?_⟩
                    clear hK K
                    have hS := hS1
                    rw [← hg66]
                    clear hS1 hg66
                    generalize y0.alloc (.cells #[] 58) = y1 at *
                    try simp only [Act.put, List.setIfInBounds_toArray, List.set_cons_zero, List.set_cons_succ]
                    refine gs_run2 (i := 4) (k := 10) rfl rfl (by kernel_rfl) (by rfl) (by rfl) (fun K hK => ?_) (fun K hK => ?_)
                    · skip
                      refine op_app_rdk vC_len (by decide) wr (.tmp 66) (.tmp 69) 54 rfl wr.heap.size 58 ib (.slice none 0 0) 24 Tryd.underlying54 hib hbz hb1 hb2 rfl (.slice (some ⟨g66, 0, none⟩) 0 0) [] rfl own66 A (us.take j) rfl (HA.out.below hS (Nat.le_refl _)) (fun y hy => HON.out y (List.mem_of_mem_take hy)) (by unfold maxLen; simp; omega) (by simp; omega) (Nat.le_refl _) hS ?_
                      intro v70 y2 own70 hS2 gr2 ho2
                      rw [List.nil_append] at own70
                      show K (Act.put _ (some 70) _) _
                      refine hK _ _ ⟨hS2, ?_⟩
                      clear hK K own66 gr2 ho2
                      have hS := hS2
                      clear hS2
                      try dsimp only
                      try simp only [Act.put, List.setIfInBounds_toArray, List.set_cons_zero, List.set_cons_succ]
                      refine gs_run (i := 10) rfl (by kernel_rfl) (by rfl) (fun K hK => ?_)
                      go_simp
                      have hS3 := hS.alloc hS.size (.cells #[.slice aS 900 cj] 58)
                      obtain ⟨g76, hg76⟩ : ∃ g, g = y2.heap.size := ⟨_, rfl⟩
                      have own76 : (y2.alloc (.cells #[.slice aS 900 cj] 58)).ownsRow wr.heap.size 58 1 (.slice (some ⟨g76, 0, none⟩) 1 1) 1 [.slice aS 900 cj] := by rw [hg76]; exact World.ownsRow_lit (e := 58) (size := 1) (base := wr.heap.size) y2 #[.slice aS 900 cj] 1 hS.size (by decide) rfl
                      have lt76 : g76 < (y2.alloc (.cells #[.slice aS 900 cj] 58)).heap.size := by rw [World.size_alloc, hg76]; exact Nat.lt_succ_self _
                      have own70 := own70.alloc (.cells #[.slice aS 900 cj] 58)
                      refine hK _ _ ⟨hS3, ?_⟩
                      clear hK K
                      have hS := hS3
                      rw [← hg76]
                      clear hS3 hg76
                      generalize y2.alloc (.cells #[.slice aS 900 cj] 58) = y3 at *
                      try simp only [Act.put, List.setIfInBounds_toArray, List.set_cons_zero, List.set_cons_succ]
                      refine gs_run (i := 11) rfl (by kernel_rfl) (by rfl) (fun K hK => ?_)
                      have rd76 : RdK 1 vC y3 (.slice (some ⟨g76, 0, none⟩) 1 1) [.slice aS 900 cj] := own_rdk vC_len (by rw [vC_flat]; exact own76)
                      refine op_app_rdk vC_len (by decide) wr (.tmp 70) (.tmp 76) 54 rfl wr.heap.size 58 ib (.slice none 0 0) 24 Tryd.underlying54 hib hbz hb1 hb2 rfl v70 (us.take j) rfl own70 _ [.slice aS 900 cj] rfl rd76 (fun y hy u hu => by simp [vC] at hy hu; subst hy; subst hu; rfl) (by unfold maxLen; simp; omega) (by simp; omega) (Nat.le_refl _) hS ?_
                      intro v77 y4 own77 hS4 gr4 ho4
                      show K (Act.put _ (some 77) _) _
                      refine hK _ _ ⟨hS4, ?_⟩
                      clear hK K own70 own76 rd76 gr4 ho4
                      have hS := hS4
                      clear hS4
                      try dsimp only
                      try simp only [Act.put, List.setIfInBounds_toArray, List.set_cons_zero, List.set_cons_succ]
                      refine gs_run (i := 16) rfl (by kernel_rfl) (by rfl) (fun K hK => ?_)
                      refine op_app_rdk vC_len (by decide) wr (.tmp 77) (.tmp 81) 54 rfl wr.heap.size 58 ib (.slice none 0 0) 24 Tryd.underlying54 hib hbz hb1 hb2 rfl v77 (us.take j ++ [.slice aS 900 cj]) rfl own77 D (us.drop (j + 1)) rfl (HD.out.below hS (Nat.le_refl _)) (fun y hy => HON.out y (List.mem_of_mem_drop hy)) (by unfold maxLen; simp; omega) (by simp; omega) (Nat.le_refl _) hS ?_
                      intro v82 y5 own82 hS5 gr5 ho5
                      show K (Act.put _ (some 82) _) _
                      refine hK _ _ ⟨hS5, ?_⟩
                      clear hK K own77 gr5 ho5
                      have hS := hS5
                      clear hS5
                      try dsimp only
                      try simp only [Act.put, List.setIfInBounds_toArray, List.set_cons_zero, List.set_cons_succ]
                      refine gs_take (i := 17) (d := (some 1)) (v := ?_) rfl rfl (by kernel_rfl) (fun _ _ _ h => h) (by rfl) hS (fun w' hb' => ?_) ?_
                      rotate_left
                      · (try go_simp); (try with_reducible rfl)
                      try simp only [Act.put, List.setIfInBounds_toArray, List.set_cons_zero, List.set_cons_succ]
                      refine gs_done (by kernel_rfl) ?_
                      go_wp2_with fail
                      go_meet
                      case rel =>
                        rw [hset.out, vC_flat] at own82
                        exact ⟨_, .inr (own_weak BEL.out.size own82), by rw [MS.out]; exact rdu_set HU.out j HR9.out, hS⟩
                    · skip
                      go_simp
                      have hS2 := hS.alloc hS.size (.cells #[.slice aS 900 cj] 58)
                      obtain ⟨g76, hg76⟩ : ∃ g, g = y1.heap.size := ⟨_, rfl⟩
                      have own76 : (y1.alloc (.cells #[.slice aS 900 cj] 58)).ownsRow wr.heap.size 58 1 (.slice (some ⟨g76, 0, none⟩) 1 1) 1 [.slice aS 900 cj] := by rw [hg76]; exact World.ownsRow_lit (e := 58) (size := 1) (base := wr.heap.size) y1 #[.slice aS 900 cj] 1 hS.size (by decide) rfl
                      have lt76 : g76 < (y1.alloc (.cells #[.slice aS 900 cj] 58)).heap.size := by rw [World.size_alloc, hg76]; exact Nat.lt_succ_self _
                      have own66 := own66.alloc (.cells #[.slice aS 900 cj] 58)
                      have hg76n : g76 ≠ g66 := by have := lt66; omega
                      refine hK _ _ ⟨hS2, ?_⟩
                      clear hK K
                      have hS := hS2
                      rw [← hg76]
                      clear hS2 hg76
                      generalize y1.alloc (.cells #[.slice aS 900 cj] 58) = y2 at *
                      try simp only [Act.put, List.setIfInBounds_toArray, List.set_cons_zero, List.set_cons_succ]
                      refine gs_run (i := 4) rfl (by kernel_rfl) (by rfl) (fun K hK => ?_)
                      refine op_app_rdk vC_len (by decide) wr (.tmp 66) (.tmp 69) 54 rfl wr.heap.size 58 ib (.slice none 0 0) 24 Tryd.underlying54 hib hbz hb1 hb2 rfl (.slice (some ⟨g66, 0, none⟩) 0 0) [] rfl own66 A (us.take j) rfl (HA.out.below hS (Nat.le_refl _)) (fun y hy => HON.out y (List.mem_of_mem_take hy)) (by unfold maxLen; simp; omega) (by simp; omega) (Nat.le_refl _) hS ?_
                      intro v70 y3 own70 hS3 gr3 ho3
                      rw [List.nil_append] at own70
                      have own76 := own76.kept gr3 (.inr (by simpa [Value.ownBlock] using hg76n))
                      show K (Act.put _ (some 70) _) _
                      refine hK _ _ ⟨hS3, ?_⟩
                      clear hK K own66 gr3 ho3
                      have hS := hS3
                      clear hS3
                      try dsimp only
                      try simp only [Act.put, List.setIfInBounds_toArray, List.set_cons_zero, List.set_cons_succ]
                      refine gs_run (i := 11) rfl (by kernel_rfl) (by rfl) (fun K hK => ?_)
                      have rd76 : RdK 1 vC y3 (.slice (some ⟨g76, 0, none⟩) 1 1) [.slice aS 900 cj] := own_rdk vC_len (by rw [vC_flat]; exact own76)
                      refine op_app_rdk vC_len (by decide) wr (.tmp 70) (.tmp 76) 54 rfl wr.heap.size 58 ib (.slice none 0 0) 24 Tryd.underlying54 hib hbz hb1 hb2 rfl v70 (us.take j) rfl own70 _ [.slice aS 900 cj] rfl rd76 (fun y hy u hu => by simp [vC] at hy hu; subst hy; subst hu; rfl) (by unfold maxLen; simp; omega) (by simp; omega) (Nat.le_refl _) hS ?_
                      intro v77 y4 own77 hS4 gr4 ho4
                      show K (Act.put _ (some 77) _) _
                      refine hK _ _ ⟨hS4, ?_⟩
                      clear hK K own70 own76 rd76 gr4 ho4
                      have hS := hS4
                      clear hS4
                      try dsimp only
                      try simp only [Act.put, List.setIfInBounds_toArray, List.set_cons_zero, List.set_cons_succ]
                      refine gs_run (i := 16) rfl (by kernel_rfl) (by rfl) (fun K hK => ?_)
                      refine op_app_rdk vC_len (by decide) wr (.tmp 77) (.tmp 81) 54 rfl wr.heap.size 58 ib (.slice none 0 0) 24 Tryd.underlying54 hib hbz hb1 hb2 rfl v77 (us.take j ++ [.slice aS 900 cj]) rfl own77 D (us.drop (j + 1)) rfl (HD.out.below hS (Nat.le_refl _)) (fun y hy => HON.out y (List.mem_of_mem_drop hy)) (by unfold maxLen; simp; omega) (by simp; omega) (Nat.le_refl _) hS ?_
                      intro v82 y5 own82 hS5 gr5 ho5
                      show K (Act.put _ (some 82) _) _
                      refine hK _ _ ⟨hS5, ?_⟩
                      clear hK K own77 gr5 ho5
                      have hS := hS5
                      clear hS5
                      try dsimp only
                      try simp only [Act.put, List.setIfInBounds_toArray, List.set_cons_zero, List.set_cons_succ]
                      refine gs_take (i := 17) (d := (some 1)) (v := ?_) rfl rfl (by kernel_rfl) (fun _ _ _ h => h) (by rfl) hS (fun w' hb' => ?_) ?_
                      rotate_left
                      · (try go_simp); (try with_reducible rfl)
                      try simp only [Act.put, List.setIfInBounds_toArray, List.set_cons_zero, List.set_cons_succ]
                      refine gs_done (by kernel_rfl) ?_
                      go_wp2_with fail
                      go_meet
                      case rel =>
                        rw [hset.out, vC_flat] at own82
                        exact ⟨_, .inr (own_weak BEL.out.size own82), by rw [MS.out]; exact rdu_set HU.out j HR9.out, hS⟩
                  · skip
                    go_simp
                    have hS1 := hS.alloc hS.size (.cells #[.slice aS 900 cj] 58)
                    obtain ⟨g76, hg76⟩ : ∃ g, g = y0.heap.size := ⟨_, rfl⟩
                    have own76 : (y0.alloc (.cells #[.slice aS 900 cj] 58)).ownsRow wr.heap.size 58 1 (.slice (some ⟨g76, 0, none⟩) 1 1) 1 [.slice aS 900 cj] := by rw [hg76]; exact World.ownsRow_lit (e := 58) (size := 1) (base := wr.heap.size) y0 #[.slice aS 900 cj] 1 hS.size (by decide) rfl
                    have lt76 : g76 < (y0.alloc (.cells #[.slice aS 900 cj] 58)).heap.size := by rw [World.size_alloc, hg76]; exact Nat.lt_succ_self _
                    refine hK _ _ ⟨hS1, ?_⟩
                    clear hK K
                    have hS := hS1
                    rw [← hg76]
                    clear hS1 hg76
                    generalize y0.alloc (.cells #[.slice aS 900 cj] 58) = y1 at *
                    try simp only [Act.put, List.setIfInBounds_toArray, List.set_cons_zero, List.set_cons_succ]
                    refine gs_run (i := 0) rfl (by kernel_rfl) (by rfl) (fun K hK => ?_)
                    go_simp
                    have hS2 := hS.alloc hS.size (.cells #[] 58)
                    obtain ⟨g66, hg66⟩ : ∃ g, g = y1.heap.size := ⟨_, rfl⟩
                    have own66 : (y1.alloc (.cells #[] 58)).ownsRow wr.heap.size 58 1 (.slice (some ⟨g66, 0, none⟩) 0 0) 0 [] := by rw [hg66]; exact World.ownsRow_lit (e := 58) (size := 1) (base := wr.heap.size) y1 #[] 0 hS.size (by decide) rfl
                    have lt66 : g66 < (y1.alloc (.cells #[] 58)).heap.size := by rw [World.size_alloc, hg66]; exact Nat.lt_succ_self _
                    have own76 := own76.alloc (.cells #[] 58)
                    have hg76n : g76 ≠ g66 := by have := lt76; omega
                    refine hK _ _ ⟨hS2, ?_⟩
                    clear hK K
                    have hS := hS2
                    rw [← hg66]
                    clear hS2 hg66
                    generalize y1.alloc (.cells #[] 58) = y2 at *
                    try simp only [Act.put, List.setIfInBounds_toArray, List.set_cons_zero, List.set_cons_succ]
                    refine gs_run (i := 4) rfl (by kernel_rfl) (by rfl) (fun K hK => ?_)
                    refine op_app_rdk vC_len (by decide) wr (.tmp 66) (.tmp 69) 54 rfl wr.heap.size 58 ib (.slice none 0 0) 24 Tryd.underlying54 hib hbz hb1 hb2 rfl (.slice (some ⟨g66, 0, none⟩) 0 0) [] rfl own66 A (us.take j) rfl (HA.out.below hS (Nat.le_refl _)) (fun y hy => HON.out y (List.mem_of_mem_take hy)) (by unfold maxLen; simp; omega) (by simp; omega) (Nat.le_refl _) hS ?_
                    intro v70 y3 own70 hS3 gr3 ho3
                    rw [List.nil_append] at own70
                    have own76 := own76.kept gr3 (.inr (by simpa [Value.ownBlock] using hg76n))
                    show K (Act.put _ (some 70) _) _
                    refine hK _ _ ⟨hS3, ?_⟩
                    clear hK K own66 gr3 ho3
                    have hS := hS3
                    clear hS3
                    try dsimp only
                    try simp only [Act.put, List.setIfInBounds_toArray, List.set_cons_zero, List.set_cons_succ]
                    refine gs_run (i := 11) rfl (by kernel_rfl) (by rfl) (fun K hK => ?_)
                    have rd76 : RdK 1 vC y3 (.slice (some ⟨g76, 0, none⟩) 1 1) [.slice aS 900 cj] := own_rdk vC_len (by rw [vC_flat]; exact own76)
                    refine op_app_rdk vC_len (by decide) wr (.tmp 70) (.tmp 76) 54 rfl wr.heap.size 58 ib (.slice none 0 0) 24 Tryd.underlying54 hib hbz hb1 hb2 rfl v70 (us.take j) rfl own70 _ [.slice aS 900 cj] rfl rd76 (fun y hy u hu => by simp [vC] at hy hu; subst hy; subst hu; rfl) (by unfold maxLen; simp; omega) (by simp; omega) (Nat.le_refl _) hS ?_
                    intro v77 y4 own77 hS4 gr4 ho4
                    show K (Act.put _ (some 77) _) _
                    refine hK _ _ ⟨hS4, ?_⟩
                    clear hK K own70 own76 rd76 gr4 ho4
                    have hS := hS4
                    clear hS4
                    try dsimp only
                    try simp only [Act.put, List.setIfInBounds_toArray, List.set_cons_zero, List.set_cons_succ]
                    refine gs_run (i := 16) rfl (by kernel_rfl) (by rfl) (fun K hK => ?_)
                    refine op_app_rdk vC_len (by decide) wr (.tmp 77) (.tmp 81) 54 rfl wr.heap.size 58 ib (.slice none 0 0) 24 Tryd.underlying54 hib hbz hb1 hb2 rfl v77 (us.take j ++ [.slice aS 900 cj]) rfl own77 D (us.drop (j + 1)) rfl (HD.out.below hS (Nat.le_refl _)) (fun y hy => HON.out y (List.mem_of_mem_drop hy)) (by unfold maxLen; simp; omega) (by simp; omega) (Nat.le_refl _) hS ?_
                    intro v82 y5 own82 hS5 gr5 ho5
                    show K (Act.put _ (some 82) _) _
                    refine hK _ _ ⟨hS5, ?_⟩
                    clear hK K own77 gr5 ho5
                    have hS := hS5
                    clear hS5
                    try dsimp only
                    try simp only [Act.put, List.setIfInBounds_toArray, List.set_cons_zero, List.set_cons_succ]
                    refine gs_take (i := 17) (d := (some 1)) (v := ?_) rfl rfl (by kernel_rfl) (fun _ _ _ h => h) (by rfl) hS (fun w' hb' => ?_) ?_
                    rotate_left
                    · (try go_simp); (try with_reducible rfl)
                    try simp only [Act.put, List.setIfInBounds_toArray, List.set_cons_zero, List.set_cons_succ]
                    refine gs_done (by kernel_rfl) ?_
                    go_wp2_with fail
                    go_meet
                    case rel =>
                      rw [hset.out, vC_flat] at own82
                      exact ⟨_, .inr (own_weak BEL.out.size own82), by rw [MS.out]; exact rdu_set HU.out j HR9.out, hS⟩
                · have HT9 := Lib.hid (show t9 c0 = c0 from List.take_of_length_le (by rw [← HNJ.out]; omega))
                  go_wp2_with fail
                  go_meet
                  case rel =>
                    refine ⟨us, HKV.out, ?_, Below.refl _ _⟩
                    have e : mix C (j + 1) = mix C j := by
                      rw [MS.out, HT9.out]
                      have h := mix_at hjC
                      rw [← HC0.out] at h
                      rw [← h, List.set_getElem_self]
                    rw [e]; exact HU.out
              case rest =>
                obtain ⟨us', hk', hu', bc⟩ := hcut
                have hul' : us'.length = N := by rw [hu'.1, mix_len, HN.out]
                have bz := chain BEL.out bc
                obtain ⟨aoj', capj', rfl, hcj', hmj', hkx⟩ := (hk'.rd bz).openN hul'
                have HKV' := Lib.hid hk'
                have hk' := hkx
                clear hkx
                obtain ⟨b', off', rfl, hb', hc'⟩ := RdK.cell vC_len hk' j (by rw [hul']; exact hlt)
                have hc' := hc' 0 (by omega)
                rw [Nat.mul_one, Nat.add_zero] at hc'
                simp only [vC, List.getElem?_cons_zero] at hc'
                obtain ⟨hju', hr'⟩ := hu'.at j (by rw [mix_len]; exact hjC)
                have e9 : (mix C (j + 1))[j]'(by rw [mix_len]; exact hjC) = t9 c0 := by
                  have h := MS.out
                  simp only [h, List.getElem_set_self]
                rw [e9] at hr'
                obtain ⟨u', hu''⟩ : ∃ u', u' = us'[j] := ⟨_, rfl⟩
                rw [← hu''] at hc' hr'
                obtain ⟨c, hcc⟩ : ∃ c, c = t9 c0 := ⟨_, rfl⟩
                rw [← hcc] at hr'
                have hc900 : c.length ≤ 900 := by rw [hcc]; unfold t9; simp; omega
                have TT := Lib.hid (show (C.take (j + 1)).map t9 = (C.take j).map t9 ++ [c] by rw [List.take_succ_eq_append_getElem hjC, List.map_append, hcc, HC0.out]; rfl)
                have TL := Lib.hid (show ((C.take j).map t9).length = j by simp; omega)
                have hrw := hr'.below bz (Nat.le_refl _)
                have K1 := conv_rd (P := Tryd.prog) hrw 58 5 9 Tryd.underlying58 Tryd.underlying5 Tryd.underlying9
                obtain ⟨wz, rfl⟩ : ∃ wz, wz = wc := ⟨_, rfl⟩
                have ownz := own_keep HOWN.out bc
                have HK' := Lib.hid hk'
                have HU' := Lib.hid hu'
                have HUE := Lib.hid hu''
                have HR' := Lib.hid hr'
                obtain ⟨its, E, hce⟩ : ∃ its E, chunkL vfP c = (its, E) := ⟨_, _, rfl⟩
                have CU0 := fun W t h => cut9_any u' c W t h
                have RC0 := fun W t => refCut9_any c W t (by omega)
                rw [chunkL_same, hce] at RC0
                rw [hce] at CU0
                have CU := Lib.hid CU0
                have RC := Lib.hid RC0
                have hits : its.length ≤ 100 := by
                  by_cases hE : E = 0
                  · subst hE; have := (chunkL_facts hce).2.1; omega
                  · have : its = [] := by
                      have h := congrArg Prod.fst hce
                      cases c with
                      | nil => cases hce; rfl
                      | cons d r =>
                        rw [chunkL_cons] at hce
                        have h2 := endC_err (l := d :: r) (t := cutsL vfP d.toNat (d :: r) 1 []) (by rw [hce]; exact hE)
                        rw [hce] at h2; exact h2
                    rw [this]; simp
                clear hk' hu' hr' bc hu'' hcc hce CU0 RC0 HRJ HK HU HOWN BEL HUJ MS e9 HC0 HNJ
                go_wp2_with (at_builtin; refine wpList_app1g sC_len (by decide) w6 rfl (.tmp 83) (.tmp 89) 56 rfl w6.heap.size 9 is (.string ⟨#[]⟩) 16 Tryd.underlying56 his hs0 hs1 hs2 rfl _ ((C.take j).map t9) rfl (by rw [TL.out]; exact ownz) _ c _ rfl rfl (sC_one c) (by rw [TL.out]; unfold maxLen; omega) (by rw [TL.out]; omega) (Nat.le_refl _) bz ?_; intro v9 w9 own9 b9 gr9; have KV9 := Lib.hid ((HKV'.out.keep ((Below.refl wz.heap.size wz).alloc (Nat.le_refl _) _)).kept (ownz.alloc _) (by decide) gr9); clear gr9; have OWN9 := Lib.hid own9; have B9 := Lib.hid b9; clear own9 b9 hc' K1 ownz bz hrw; have OWNX := OWN9.out; rw [← TT.out, show ((C.take (j + 1)).map t9).length = j + 1 by simp; omega] at OWNX; obtain ⟨g9, cap9, rfl, hg9c, hg9m⟩ := slice_of_own OWNX (by omega); have OWNT := Lib.hid OWNX; clear OWNX OWN9; unfold maxLen at hg9m; obtain ⟨bq, oq, hbo, hbq, hc9⟩ := RdK.cell vC_len (KV9.out.rd B9.out) j (by rw [hul']; exact hlt); cases hbo; have hc9 := hc9 0 (by omega); rw [Nat.mul_one, Nat.add_zero] at hc9; simp only [vC, List.getElem?_cons_zero] at hc9; rw [← HUE.out] at hc9)
                have T9 := T6.out.below B9.out
                refine (CU.out _ T9 (HR'.out.below B9.out (Nat.le_refl _))).mono ?_
                rintro e wA ⟨vA, rfl, ownA, gA⟩
                have rdA := OwnI.rd (w := w) ownA
                obtain ⟨aA, cA, rfl, kA1, kA2⟩ := slice_of_rd rdA
                have hct : w9.cell? ⟨g9, j, none⟩ = some (.string (str c)) := by
                  rw [sC_cell OWNT.out j (by omega) (by simp; omega)]
                  congr 3
                  have h := TT.out
                  simp only [h]
                  rw [List.getElem_append_right (by rw [TL.out]; exact Nat.le_refl _)]
                  simp [TL.out]
                have hctA := (gA.cell (p := ⟨g9, j, none⟩) (OWNT.out.lt g9 rfl).2).trans hct
                have RDA := Lib.hid rdA
                have GA := Lib.hid gA
                have TA := Lib.hid (T9.below gA)
                clear ownA rdA gA hct T9 hc9
                go_wp2_with fail
                refine (RC.out _ TA.out).mono ?_
                rintro e wB ⟨vB, rfl, ownB, gB⟩
                have rdB := OwnI.rd (w := w) ownB
                obtain ⟨aB, cB, rfl, kB1, kB2⟩ := slice_of_rd rdB
                have SM := refSame_yes (.slice aA its.length cA) (.slice aB its.length cB) its wB (RDA.out.below gB (Nat.le_refl _)) rdB hits
                have GB := Lib.hid (chain GA.out gB)
                clear ownB rdB gB hctA
                go_wp2_with fail
                refine SM.mono ?_
                rintro e wC ⟨rfl, mC, hwC⟩
                have GC := Lib.hid (show Below w9.heap.size w9 wC by rw [hwC]; exact below_drewN GB.out)
                clear SM hwC
                go_wp2_with fail
                exact ⟨⟨j + 1, us', by omega, by push_cast; rfl, KV9.out.keep GC.out, HU'.out, own_keep OWNT.out GC.out, chain B9.out GC.out⟩, by simp [intOf]; omega⟩
            · obtain rfl : j = N := by omega
              obtain ⟨CT, hCT⟩ : ∃ CT, CT = C.map t9 := ⟨_, rfl⟩
              have e1 : mix C j = CT := by rw [HN.out, mix_end, hCT]
              have e2 : (C.take j).map t9 = CT := by rw [HN.out, List.take_length, hCT]
              rw [e1] at hu
              rw [e2] at hown
              have hctl : CT.length = j := by rw [hCT, List.length_map, HN.out]
              have hct9 : ∀ c ∈ CT, c.length ≤ 2000 := by
                intro c hc
                rw [hCT] at hc
                obtain ⟨d, _, rfl⟩ := List.mem_map.1 hc
                unfold t9; simp; omega
              have OF := of9_any _ CT wr (T6.out.below bel) (rdp_of_rdk hk (hu.below bel (Nat.le_refl _))) (by omega)
              have RO0 := fun W t h => refOf9_any u8 CT W t h (by omega) hct9
              have hl64 := ofL_len (vf := vfP) (ls := CT)
              rw [ofL_same] at RO0
              obtain ⟨X, hX⟩ : ∃ X, X = (ofL vfP CT).1 := ⟨_, rfl⟩
              obtain ⟨E, hE⟩ : ∃ X, X = (ofL vfP CT).2.1 := ⟨_, rfl⟩
              obtain ⟨Z, hZ⟩ : ∃ X, X = (ofL vfP CT).2.2 := ⟨_, rfl⟩
              rw [← hX, ← hE, ← hZ] at RO0 OF
              rw [← hX] at hl64
              have RO := Lib.hid RO0
              have HT := Lib.hid (show RdK 1 sC wr u8 CT from own_rdk sC_len (by rw [hctl]; exact hown))
              have BE := Lib.hid bel
              clear RO0 hX hE hZ hCT e1 e2 hct9 hk hu hown bel hctl HUL HKV
              go_wp2_with fail
              refine OF.mono ?_
              rintro e wA ⟨vA, rfl, ownA, gA⟩
              have rdA := OwnI.rd (w := w) ownA
              obtain ⟨aA, cA, rfl, kA1, kA2⟩ := slice_of_rd rdA
              have RDA := Lib.hid rdA
              have GA := Lib.hid gA
              have RO1 := RO.out _ (T6.out.below (chain BE.out gA)) (HT.out.below gA (Nat.le_refl _))
              clear ownA rdA gA OF
              go_wp2_with fail
              refine RO1.mono ?_
              rintro e wB ⟨vB, rfl, ownB, gB⟩
              have rdB := OwnI.rd (w := w) ownB
              obtain ⟨aB, cB, rfl, kB1, kB2⟩ := slice_of_rd rdB
              have SM := refSame_yes (.slice aA X.length cA) (.slice aB X.length cB) X wB (RDA.out.below gB (Nat.le_refl _)) rdB (by omega)
              have GB := Lib.hid (chain GA.out gB)
              clear ownB rdB gB RO1
              go_wp2_with fail
              refine SM.mono ?_
              rintro e wC ⟨rfl, mC, hwC⟩
              have BC := Lib.hid (show Below w6.heap.size w6 wC from chain BE.out (by rw [hwC]; exact below_drewN GB.out))
              have AW := awake9_any.at _ (T6.out.below BC.out)
              clear SM hwC
              go_wp2_with fail
              refine AW.mono ?_
              rintro e wD ⟨rfl, gD⟩
              have BD := Lib.hid (chain BT.out (chain BC.out gD))
              clear gD AW
              go_wp2_with fail
              go_ret
              exact ⟨rfl, BD.out⟩
end Go.Proofs.YtcehgfganjdghaaDoor
