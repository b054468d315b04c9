/- Span: the document's lay. Written by wip/tools/gen11u2.py. -/
/- Span: the document's Names. Written by wip/tools/gen11u3.py. -/
import Derived.Test.YtmjedjhkhjiigaaDoorQSSC47
import Derived.Test.YtmjedjhkhjiigaaDoorQSSC37
import Derived.Test.YtmjedjhkhjiigaaDoorQSSC40
namespace Go.Proofs.YtmjedjhkhjiigaaDoor
open Go Go.RowKit
set_option linter.unusedVariables false
set_option linter.unusedSimpArgs false
theorem rds_cell {w : World} {ao : Option Addr} {n cap : Nat} {l : List (List UInt8)} (h : RdK 1 svS w (.slice ao n cap) l) (j : Nat) (hj : j < l.length) :
    ∃ b off, ao = some ⟨b, off, none⟩ ∧ b < w.heap.size ∧ w.cell? ⟨b, off + j, none⟩ = some (.string (str l[j])) := by
  obtain ⟨b, off, h1, h2, h3⟩ := RdK.cell svS_len h j hj
  exact ⟨b, off, h1, h2, by have := h3 0 (by omega); rw [Nat.mul_one, Nat.add_zero] at this; exact this⟩
theorem filterS_succ {f : List UInt8 → Bool} {l : List (List UInt8)} {j : Nat} (h : j < l.length) : (l.take (j + 1)).filter f = (l.take j).filter f ++ (if f l[j] = true then [l[j]] else []) := by
  rw [List.take_add_one, List.getElem?_eq_getElem h, List.filter_append]
  congr 1
  simp [List.filter_cons]
set_option maxRecDepth 100000 in
set_option maxHeartbeats 1000000 in
theorem lay_any (v : Value) (l : List (List UInt8)) (s : List UInt8) (w : World) (h : RdK 1 svS w v l) (hl : l.length ≤ 2000) (hsz : ∀ x ∈ l, x.length ≤ maxLen) (hs : s.length ≤ maxLen) :
    Calls Tryd.prog 88 #[v, .string (str s)] w fun e w' => ∃ v', e = .returned v' ∧ w'.ownsRow w.heap.size 9 1 v' (layS l s).length ((layS l s).flatMap svS) ∧ Below w.heap.size w w' := by
  obtain ⟨j0, hj0, hy0, hy1, hy2⟩ := info_parts strinfo11
  obtain ⟨al, cl, rfl, hc1, hc2, RD1⟩ := RdK.open h
  have RDL := Lib.hid RD1
  have HSZ := Lib.hid hsz
  obtain ⟨Z, hZ⟩ : ∃ Z : Ending → World → Prop, Z = fun e w' => ∃ v', e = .returned v' ∧ w'.ownsRow w.heap.size 9 1 v' (layS l s).length ((layS l s).flatMap svS) ∧ Below w.heap.size w w' := ⟨_, rfl⟩
  rw [← hZ]
  have HZ := Lib.hid hZ
  clear h RD1 hsz hZ
  go_enter Tryd.func88, Tryd.ntmps88
  go_wp2_with fail
  go_loopw [5, 6] (fun o i wr => ∃ (j : Nat) (acc : List (List UInt8)), j ≤ l.length ∧ i = .int .i64 (j : Int) ∧ acc.length ≤ j ∧ Hid (acc = (l.take j).filter (fun x => ltB x s)) ∧ wr.ownsRow w.heap.size 9 1 o acc.length (acc.flatMap svS) ∧ Below w.heap.size w wr) (fun _ i _ => 3000 - (intOf i).toNat)
  case atStart => exact ⟨0, [], Nat.zero_le _, rfl, Nat.le_refl _, Lib.hid rfl, World.ownsRow_nil _ _ _ _, Below.refl _ _⟩
  case round =>
    obtain ⟨j, acc, hj, rfl, hacc, HA, hown, bel⟩ := hrel
    by_cases hlt : j < l.length
    · have R1 := RDL.out.below bel (Nat.le_refl _)
      obtain ⟨b, off, rfl, hb, c0⟩ := rds_cell R1 j hlt
      obtain ⟨x, hx⟩ : ∃ x, x = l[j]'hlt := ⟨_, rfl⟩
      rw [← hx] at c0
      have hxm : x.length ≤ maxLen := by rw [hx]; exact HSZ.out _ (List.getElem_mem _)
      have AQ0 := fun W => ahead_q x s W (by assumption) (by assumption)
      have HX := Lib.hid (show (l.take (j + 1)).filter (fun x => ltB x s) = acc ++ (if ltB x s = true then [x] else []) by rw [filterS_succ hlt, HA.out, ← hx] <;> simp)
      have HOW := Lib.hid hown
      have BB := Lib.hid bel
      clear hx R1 hown bel
      cases hin : ltB x s with
      | true =>
        simp only [hin] at AQ0
        have AQ := Lib.hid AQ0
        have HX2 := Lib.hid (show acc ++ [x] = (l.take (j + 1)).filter (fun x => ltB x s) by rw [HX.out, hin]; rfl)
        clear AQ0 hin HX
        go_wp2_with (first | ((with_reducible refine (AQ.out _).mono ?_); rintro e w5 ⟨rfl, kk, hw5⟩; (have b5 : Below wr.heap.size wr w5 := (by rw [hw5]; exact below_drewN (Below.refl _ _))); (have c0 := (b5.cell (p := ⟨b, off + j, none⟩) hb).trans c0); (have own5 := own_drew11 HOW.out kk); (have bel5 := chain BB.out b5); rw [← hw5] at own5; clear hw5 b5) | (at_builtin; refine wpList_app1k svS_len (by decide) w rfl (.tmp 20) (.tmp 25) 76 rfl w.heap.size 9 j0 (.string ⟨#[]⟩) 16 Tryd.underlying76 hj0 hy0 hy1 hy2 rfl _ _ rfl own5 _ x _ rfl rfl svS_one (by unfold maxLen; omega) (by omega) (Nat.le_refl _) bel5 ?_; intro v' w1 hown2 hb2 hq2; clear hq2))
        exact ⟨⟨j + 1, acc ++ [x], by omega, by push_cast; rfl, by simp; omega, HX2, hown2, hb2⟩, by simp [intOf]; omega⟩
      | false =>
        simp only [hin] at AQ0
        have AQ := Lib.hid AQ0
        have HX2 := Lib.hid (show acc = (l.take (j + 1)).filter (fun x => ltB x s) by rw [HX.out, hin]; simp)
        clear AQ0 hin HX
        go_wp2_with ((with_reducible refine (AQ.out _).mono ?_); rintro e w5 ⟨rfl, kk, hw5⟩; (have b5 : Below wr.heap.size wr w5 := (by rw [hw5]; exact below_drewN (Below.refl _ _))); (have own5 := own_drew11 HOW.out kk); (have bel5 := chain BB.out b5); rw [← hw5] at own5; clear hw5 b5)
        exact ⟨⟨j + 1, acc, by omega, by push_cast; rfl, by omega, HX2, own5, bel5⟩, by simp [intOf]; omega⟩
    · obtain rfl : j = l.length := by omega
      have HA2 := Lib.hid (show acc = l.filter (fun x => ltB x s) by rw [HA.out, List.take_length])
      clear HA
      obtain ⟨acc0, h0⟩ : ∃ a, a = acc ++ [s] := ⟨_, rfl⟩
      have H0 := Lib.hid h0
      have hn0 : acc0.length ≤ l.length + 1 := by rw [h0]; simp; omega
      have HOW0 := Lib.hid hown
      have BB0 := Lib.hid bel
      clear hown h0
      go_wp2_with (at_builtin; refine wpList_app1k svS_len (by decide) w rfl (.tmp 27) (.tmp 29) 76 rfl w.heap.size 9 j0 (.string ⟨#[]⟩) 16 Tryd.underlying76 hj0 hy0 hy1 hy2 rfl _ _ rfl HOW0.out _ s _ rfl rfl svS_one (by unfold maxLen; omega) (by omega) (Nat.le_refl _) BB0.out ?_; intro v' w1 hown2 hb2 hq2; clear hq2)
      rw [← H0.out] at hown2
      have HOW1 := Lib.hid hown2
      have BB1 := Lib.hid hb2
      clear bel hown2 hb2
      go_wp2_with fail
      go_loopw [5, 7] (fun o i wr => ∃ (j : Nat) (acc : List (List UInt8)), j ≤ l.length ∧ i = .int .i64 (j : Int) ∧ acc.length ≤ l.length + 1 + j ∧ Hid (acc = acc0 ++ (l.take j).filter (fun x => ltB s x)) ∧ wr.ownsRow w.heap.size 9 1 o acc.length (acc.flatMap svS) ∧ Below w.heap.size w wr) (fun _ i _ => 3000 - (intOf i).toNat)
      case atStart => exact ⟨0, acc0, Nat.zero_le _, rfl, by omega, Lib.hid (by simp), HOW1.out, BB1.out⟩
      case round =>
        obtain ⟨j, acc, hj, rfl, hacc, HA, hown, bel⟩ := hrel
        by_cases hlt : j < l.length
        · have R1 := RDL.out.below bel (Nat.le_refl _)
          obtain ⟨b, off, rfl, hb, c0⟩ := rds_cell R1 j hlt
          obtain ⟨x, hx⟩ : ∃ x, x = l[j]'hlt := ⟨_, rfl⟩
          rw [← hx] at c0
          have hxm : x.length ≤ maxLen := by rw [hx]; exact HSZ.out _ (List.getElem_mem _)
          have AQ0 := fun W => ahead_q s x W (by assumption) (by assumption)
          have HX := Lib.hid (show acc0 ++ (l.take (j + 1)).filter (fun x => ltB s x) = acc ++ (if ltB s x = true then [x] else []) by rw [filterS_succ hlt, HA.out, ← hx] <;> simp)
          have HOW := Lib.hid hown
          have BB := Lib.hid bel
          clear hx R1 hown bel
          cases hin : ltB s x with
          | true =>
            simp only [hin] at AQ0
            have AQ := Lib.hid AQ0
            have HX2 := Lib.hid (show acc ++ [x] = acc0 ++ (l.take (j + 1)).filter (fun x => ltB s x) by rw [HX.out, hin]; rfl)
            clear AQ0 hin HX
            go_wp2_with (first | ((with_reducible refine (AQ.out _).mono ?_); rintro e w5 ⟨rfl, kk, hw5⟩; (have b5 : Below wr.heap.size wr w5 := (by rw [hw5]; exact below_drewN (Below.refl _ _))); (have c0 := (b5.cell (p := ⟨b, off + j, none⟩) hb).trans c0); (have own5 := own_drew11 HOW.out kk); (have bel5 := chain BB.out b5); rw [← hw5] at own5; clear hw5 b5) | (at_builtin; refine wpList_app1k svS_len (by decide) w rfl (.tmp 43) (.tmp 48) 76 rfl w.heap.size 9 j0 (.string ⟨#[]⟩) 16 Tryd.underlying76 hj0 hy0 hy1 hy2 rfl _ _ rfl own5 _ x _ rfl rfl svS_one (by unfold maxLen; omega) (by omega) (Nat.le_refl _) bel5 ?_; intro v' w1 hown2 hb2 hq2; clear hq2))
            exact ⟨⟨j + 1, acc ++ [x], by omega, by push_cast; rfl, by simp; omega, HX2, hown2, hb2⟩, by simp [intOf]; omega⟩
          | false =>
            simp only [hin] at AQ0
            have AQ := Lib.hid AQ0
            have HX2 := Lib.hid (show acc = acc0 ++ (l.take (j + 1)).filter (fun x => ltB s x) by rw [HX.out, hin]; simp)
            clear AQ0 hin HX
            go_wp2_with ((with_reducible refine (AQ.out _).mono ?_); rintro e w5 ⟨rfl, kk, hw5⟩; (have b5 : Below wr.heap.size wr w5 := (by rw [hw5]; exact below_drewN (Below.refl _ _))); (have own5 := own_drew11 HOW.out kk); (have bel5 := chain BB.out b5); rw [← hw5] at own5; clear hw5 b5)
            exact ⟨⟨j + 1, acc, by omega, by push_cast; rfl, by omega, HX2, own5, bel5⟩, by simp [intOf]; omega⟩
        · obtain rfl : j = l.length := by omega
          have HA3 := Lib.hid (show acc = layS l s by rw [HA.out, List.take_length, H0.out, HA2.out]; rfl)
          go_wp2_with fail
          show Z (.returned _) _
          rw [HZ.out, ← HA3.out]
          exact ⟨_, rfl, hown, bel⟩
end Go.Proofs.YtmjedjhkhjiigaaDoor
namespace Go.Proofs.YtmjedjhkhjiigaaDoor
open Go Go.RowKit
set_option linter.unusedVariables false
set_option linter.unusedSimpArgs false
theorem nm_pos : ∀ s : List UInt8, (nmL s).length ≤ s.length ∧ (∀ i, i < (nmL s).length → (s.getD i 0).toNat ≠ 47) ∧ ((nmL s).length < s.length → (s.getD (nmL s).length 0).toNat = 47) ∧ s.take (nmL s).length = nmL s
  | [] => ⟨by simp [nmL], by simp [nmL], by simp [nmL], by simp [nmL]⟩
  | c :: s => by
    obtain ⟨h1, h2, h3, h4⟩ := nm_pos s
    by_cases h : c = 47
    · subst h
      have e : nmL (47 :: s) = [] := by simp [nmL]
      rw [e]
      exact ⟨by simp, by simp, fun _ => rfl, rfl⟩
    · have e : nmL (c :: s) = c :: nmL s := by
        unfold nmL
        rw [List.takeWhile_cons, if_pos (by simpa using h)]
      rw [e]
      refine ⟨by simp; exact h1, fun i hi => ?_, fun hi => ?_, by simp [h4]⟩
      · cases i with
        | zero =>
          intro h0
          apply h
          have : (c : UInt8).toNat = (47 : UInt8).toNat := h0
          exact UInt8.toNat_inj.1 this
        | succ i =>
          simp at hi
          simpa using h2 i hi
      · simp at hi
        simpa using h3 hi
theorem filt_two (s : List UInt8) : ∀ l : List (List UInt8), (l.filter (fun x => ltB x s)).length + (l.filter (fun x => ltB s x)).length ≤ l.length
  | [] => by simp
  | x :: l => by
    have ih := filt_two s l
    rw [List.filter_cons, List.filter_cons]
    cases h1 : ltB x s with
    | true =>
      have h2 : ltB s x = false := by
        cases h2 : ltB s x with
        | false => rfl
        | true => have := ltB_trans' h1 h2; rw [ltB_self] at this; cases this
      simp [h2]; omega
    | false =>
      cases h2 : ltB s x with
      | true => simp; omega
      | false => simp; omega
theorem layS_len (l : List (List UInt8)) (s : List UInt8) : (layS l s).length ≤ l.length + 1 := by
  have := filt_two s l
  unfold layS
  simp
  omega
/-- What the document's Names comes to. -/
def dnL (L : List It) (p : List UInt8) : List (List UInt8) := ((L.filter (fun x => Lib.hasPrefix x.key p)).map (fun x => nmL (x.key.drop p.length))).foldl layS []
theorem dn_succ {L : List It} {p : List UInt8} {j : Nat} (h : j < L.length) : dnL (L.take (j + 1)) p = if Lib.hasPrefix L[j].key p = true then layS (dnL (L.take j) p) (nmL (L[j].key.drop p.length)) else dnL (L.take j) p := by
  unfold dnL
  rw [filter_succ h]
  cases hp : Lib.hasPrefix L[j].key p with
  | true => simp
  | false => simp
set_option maxRecDepth 100000 in
set_option maxHeartbeats 1000000 in
theorem names11_any (cs : Array Value) (lv : Nat → List It) (vs : Nat → Int) (p : List UInt8) (w : World) (tab : TabAt w) (h : RdT w cs lv vs) (hsz : SzT lv) (h100 : ∀ b, b < 16 → (lv b).length ≤ 100) (hm : mayTs lv vs 16 = true) (hp : p.length ≤ maxLen) :
    Calls Tryd.prog 50 #[.agg cs, .string (str p)] w fun e w' => ∃ v', e = .returned v' ∧ RdK 1 svS w' v' (dnL (allS lv) p) ∧ Below w.heap.size w w' := by
  have hs := infoTc h.size
  have q1 := heap_alloc_new w (.cells cs 26)
  have bel := (Below.refl w.heap.size w).alloc (Nat.le_refl _) (.cells cs 26)
  have AL0 := refAll11_any cs lv vs _ (h.below bel (Nat.le_refl _)) hsz h100
  have hl1 := allS_len hm
  have hsz1 := allS_sz hsz
  obtain ⟨L, hL⟩ : ∃ L, L = allS lv := ⟨_, rfl⟩
  rw [← hL] at AL0 hl1 hsz1 ⊢
  have AL := Lib.hid AL0
  have HS := Lib.hid hsz1
  obtain ⟨Z, hZ⟩ : ∃ Z : Ending → World → Prop, Z = fun e w' => ∃ v', e = .returned v' ∧ RdK 1 svS w' v' (dnL L p) ∧ Below w.heap.size w w' := ⟨_, rfl⟩
  rw [← hZ]
  have HZ := Lib.hid hZ
  have TB := Lib.hid tab
  clear h hsz h100 AL0 hZ hL hsz1 hm tab
  go_enter Tryd.func50, Tryd.ntmps50
  go_wp2_with ((with_reducible refine wpList_load_row (o := ⟨some 10, _, _, _, _, _⟩) rfl 26 (.tmp 2) rfl _ rfl _ cs (0, 0) _ q1 Tryd.underlying26 rfl hs ?_))
  refine AL.out.mono ?_
  rintro e w2 ⟨v, rfl, own, g⟩
  have bel2 := chain bel g
  obtain ⟨al, cl, rfl, hc1, hc2, RD1⟩ := RdK.open (OwnI.rd (w := w2) own)
  have RDL := Lib.hid (show RdI w2 (.slice al L.length cl) L from RD1)
  have BEL := Lib.hid bel2
  clear RD1 own g bel bel2 q1 AL
  go_wp2_with fail
  go_loopw [5, 7] (fun o i wr => ∃ (j : Nat) (acc : List (List UInt8)), j ≤ L.length ∧ i = .int .i64 (j : Int) ∧ acc.length ≤ j ∧ Hid (acc = dnL (L.take j) p) ∧ Hid (∀ x ∈ acc, x.length ≤ maxLen) ∧ RdK 1 svS wr o acc ∧ Below w2.heap.size w2 wr) (fun _ i _ => 3000 - (intOf i).toNat)
  case atStart => exact ⟨0, [], Nat.zero_le _, rfl, Nat.le_refl _, Lib.hid rfl, Lib.hid (fun x hx => by cases hx), own_rdk svS_len (World.ownsRow_nil w2 0 9 1), Below.refl _ _⟩
  case round =>
    obtain ⟨j, acc, hj, rfl, hacc, HA, HSA, hrd, bel⟩ := hrel
    obtain ⟨ao, ac, rfl, -, -, hrd⟩ := RdK.open hrd
    by_cases hlt : j < L.length
    · have R1 := RDL.out.below bel (Nat.le_refl _)
      obtain ⟨b, off, rfl, hb, c0, c1, c2, c3, c4⟩ := rdi_cells R1 j hlt
      have hd := dn_succ (p := p) hlt
      obtain ⟨x, hx⟩ : ∃ x, x = L[j]'hlt := ⟨_, rfl⟩
      rw [← hx] at c0 hd
      rw [← HA.out] at hd
      have hxk : x.key.length ≤ maxLen := by rw [hx]; exact (HS.out _ (List.getElem_mem _)).1
      have BG0 := begins_any x.key p hxk hp wr (TB.out.below (chain BEL.out bel))
      have BB := Lib.hid bel
      have RA := Lib.hid hrd
      clear hx R1 c1 c2 c3 c4
      cases hin : Lib.hasPrefix x.key p with
      | true =>
        rw [hin] at BG0 hd
        rw [if_pos rfl] at hd
        have hpl : p.length ≤ x.key.length := (List.isPrefixOf_iff_prefix.1 (show p.isPrefixOf x.key = true from hin)).length_le
        have BG := Lib.hid BG0
        have ex := k8str_extract x.key p.length x.key.length
        have hkz := str_size x.key
        have hpz := str_size p
        rw [List.take_of_length_le (by simp)] at ex
        obtain ⟨rest, hrest⟩ : ∃ r, r = x.key.drop p.length := ⟨_, rfl⟩
        have hrl : rest.length = x.key.length - p.length := by rw [hrest]; simp
        rw [← hrest] at hd ex
        obtain ⟨n1, n2, n3, n4⟩ := nm_pos rest
        obtain ⟨nmv, hnm⟩ : ∃ r, r = nmL rest := ⟨_, rfl⟩
        rw [← hnm] at hd n1 n2 n3 n4
        obtain ⟨nl, hnl⟩ : ∃ r, r = nmv.length := ⟨_, rfl⟩
        rw [← hnl] at n1 n2 n3 n4
        have HN := Lib.hid hd.symm
        have hnml : nmv.length ≤ maxLen := by rw [← hnl]; omega
        have HSN := Lib.hid (show ∀ y ∈ layS acc nmv, y.length ≤ maxLen from fun y hy => by
          rcases layS_mem.1 hy with h | h
          · exact HSA.out y h
          · rw [h]; exact hnml)
        have LY := Lib.hid (lay_any (.slice ao acc.length ac) acc nmv wr hrd (by omega) HSA.out hnml)
        have hrz := str_size rest
        have ex2 := k8str_extract rest 0 nl
        rw [Nat.sub_zero, List.drop_zero, n4] at ex2
        have hbm : x.key.length ≤ maxLen := hxk
        unfold maxLen at hbm
        clear hin hd BG0 hrest hnm n4 hnl hrd bel
        go_wp2_with ((with_reducible refine BG.out.mono ?_); rintro e w5 ⟨rfl, rfl⟩)
        go_loop [9] (fun i => ∃ n : Nat, n ≤ nl ∧ i = .int .i64 (n : Int)) (fun i => nl - (intOf i).toNat)
        case atStart => exact ⟨0, Nat.zero_le _, rfl⟩
        case round =>
          obtain ⟨n, hn, rfl⟩ := hrel
          by_cases hnn : n < nl
          · have hcc : ∀ h : n < (str rest).size, ((str rest)[n]'h).toNat = (rest.getD n 0).toNat := fun h => by rw [k8str_byte]
            have h47 := n2 n hnn
            obtain ⟨m, hmm⟩ : ∃ m, m = (rest.getD n 0).toNat := ⟨_, rfl⟩
            rw [← hmm] at hcc h47
            have d1 : ((m : Int) != 47) = true := by simp; omega
            have hnr : n < rest.length := by omega
            clear hmm ex ex2 n2 n3
            go_wp2_with fail
            exact ⟨⟨n + 1, by omega, by push_cast; rfl⟩, by simp [intOf]; omega⟩
          · obtain rfl : n = nl := by omega
            by_cases hnr : n < rest.length
            · obtain ⟨m, hmm⟩ : ∃ m : Nat, m = 47 := ⟨_, rfl⟩
              have hcc : ∀ h : n < (str rest).size, ((str rest)[n]'h).toNat = m := fun h => by rw [k8str_byte, hmm]; exact n3 hnr
              have d1 : ((m : Int) != 47) = false := by rw [hmm]; rfl
              clear hmm
              clear ex n2 n3
              go_wp2_with ((with_reducible refine (LY.out).mono ?_); rintro e w6 ⟨vv, rfl, own6, g6⟩; (have RD6 : RdK 1 svS w6 vv (layS acc nmv) := own_rdk svS_len own6); (have bel6 := chain BB.out g6); clear own6 g6)
              exact ⟨⟨j + 1, layS acc nmv, by omega, by push_cast; rfl, by have := layS_len acc nmv; omega, HN, HSN, RD6, bel6⟩, by simp [intOf]; omega⟩
            · clear ex n2 n3
              go_wp2_with ((with_reducible refine (LY.out).mono ?_); rintro e w6 ⟨vv, rfl, own6, g6⟩; (have RD6 : RdK 1 svS w6 vv (layS acc nmv) := own_rdk svS_len own6); (have bel6 := chain BB.out g6); clear own6 g6)
              exact ⟨⟨j + 1, layS acc nmv, by omega, by push_cast; rfl, by have := layS_len acc nmv; omega, HN, HSN, RD6, bel6⟩, by simp [intOf]; omega⟩
      | false =>
        rw [hin] at BG0 hd
        rw [if_neg (by simp)] at hd
        have BG := Lib.hid BG0
        have HN := Lib.hid hd.symm
        clear hin hd BG0 hrd bel
        go_wp2_with ((with_reducible refine BG.out.mono ?_); rintro e w5 ⟨rfl, rfl⟩)
        exact ⟨⟨j + 1, acc, by omega, by push_cast; rfl, by omega, HN, HSA, RA.out, BB.out⟩, by simp [intOf]; omega⟩
    · obtain rfl : j = L.length := by omega
      have HA2 := Lib.hid (show acc = dnL L p by rw [HA.out, List.take_length])
      clear HA
      go_wp2_with fail
      show Z (.returned _) _
      rw [HZ.out, ← HA2.out]
      exact ⟨_, rfl, hrd, chain BEL.out bel⟩
end Go.Proofs.YtmjedjhkhjiigaaDoor
