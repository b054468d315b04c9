/- Trunks: what the statements look at; the document's Same. Written by wip/tools/gen10g.py. -/
import Derived.Test.YtbdfcgffkonbiaaDoorQST16
namespace Go.Proofs.YtbdfcgffkonbiaaDoor
open Go Go.RowKit
set_option linter.unusedVariables false
set_option linter.unusedSimpArgs false
theorem short10_any (s : List UInt8) (w : World) (hs : s.length ≤ maxLen) :
    Calls Tryd.prog 102 #[.string (str s)] w fun e w' => e = .returned (.string (str (s.take 60))) ∧ w = w' := by
  unfold maxLen at hs
  have h1 : (str s).size = s.length := str_size s
  by_cases h : 60 < s.length
  · have hx : (str s).extract 0 60 = str (s.take 60) := by rw [k8str_extract]; simp
    go_enter Tryd.func102, Tryd.ntmps102
    go_wp2_with fail
    go_ret
    exact ⟨ret_str rfl, rfl⟩
  · rw [List.take_of_length_le (by omega)]
    go_enter Tryd.func102, Tryd.ntmps102
    go_wp2_with fail
    go_ret
    exact ⟨rfl, rfl⟩
theorem one10_any (x : It) (w : World) (hk : x.key.length ≤ maxLen) (hs : x.v.s.length ≤ maxLen) :
    Calls Tryd.prog 72 #[itV x] w fun e w' => e = .returned (itV (oneI x)) ∧ Below w.heap.size w w' := by
  obtain ⟨key, ⟨k, i, s⟩, ver⟩ := x
  simp only at hk hs
  have SH := fun w => short10_any key w hk
  have z2 : (str s).size = s.length := str_size s
  unfold itV oneI
  simp only
  unfold maxLen at hk hs
  obtain ⟨ky, hky⟩ : ∃ ky, ky = key.take 60 := ⟨_, rfl⟩
  rw [← hky] at SH ⊢
  have HSH := Lib.hid SH
  clear hky SH
  by_cases h2 : 200 < s.length
  · have x2 : (str s).extract 0 200 = str (s.take 200) := by rw [k8str_extract]; simp
    go_enter Tryd.func72, Tryd.ntmps72
    go_wp2_with fail
    refine (HSH.out _).mono ?_
    rintro e w' ⟨rfl, rfl⟩
    go_wp2_with fail
    refine bodyPost_ret (v := .agg #[.string (str ky), .int .i64 k, .int .i64 i, .string (str (s.take 200)), .int .i64 ver]) (by simp [results, Tryd.results72, go_sem]) rfl ⟨rfl, ?_⟩
    exact ((Below.refl _ _).alloc (Nat.le_refl _) _).alloc (by simp) _
  · rw [List.take_of_length_le (by omega : s.length ≤ 200)]
    go_enter Tryd.func72, Tryd.ntmps72
    go_wp2_with fail
    refine (HSH.out _).mono ?_
    rintro e w' ⟨rfl, rfl⟩
    go_wp2_with fail
    refine bodyPost_ret (v := .agg #[.string (str ky), .int .i64 k, .int .i64 i, .string (str s), .int .i64 ver]) (by simp [results, Tryd.results72, go_sem]) rfl ⟨rfl, ?_⟩
    exact ((Below.refl _ _).alloc (Nat.le_refl _) _).alloc (by simp) _
set_option maxRecDepth 100000 in
set_option maxHeartbeats 1000000 in
theorem items10_any (v : Value) (l : List It) (w : World) (h : RdI w v l) (hsz : SzI l) :
    Calls Tryd.prog 87 #[v] w (OwnI w (fewL l)) := by
  obtain ⟨i0, hi, hz0, hz1, hz2⟩ := info_parts item_info
  obtain ⟨ao, cap, rfl, hc, hm, hr⟩ := RdK.open h
  have hr : RdI w (.slice ao l.length cap) l := hr
  have HS := Lib.hid hsz
  clear h hsz
  obtain ⟨R, hR⟩ : ∃ R, R = fewL l := ⟨_, rfl⟩
  rw [← hR]
  have HR := Lib.hid hR
  clear hR
  by_cases hbig : 66 < l.length
  · obtain ⟨l', hl'⟩ : ∃ l', l' = l.take 66 := ⟨_, rfl⟩
    have hln : l'.length = 66 := by rw [hl']; simp; omega
    have hr' : RdI w (.slice ao 66 cap) l' := by rw [hl']; exact RdK.short itC_len hr 66 (by omega)
    have HS := Lib.hid (show SzI l' by rw [hl']; exact fun x hx => HS.out x (List.mem_of_mem_take hx))
    have HRD := Lib.hid hr'
    have HLN := Lib.hid hln
    have HL := Lib.hid hl'
    have hd1 : decide (66 < (l.length : Int)) = true := decide_eq_true (by omega)
    have hd2 : decide (66 < l.length) = true := decide_eq_true hbig
    clear hr hr' hl' hln
    go_enter Tryd.func87, Tryd.ntmps87
    go_wp2_with fail
    go_loopw [3, 4] (fun out i wr => ∃ (j : Nat) (acc : List It), j ≤ 66 ∧ i = .int .i64 (j : Int) ∧ acc.length ≤ j ∧ Hid (acc = (l'.take j).map oneI) ∧ wr.ownsRow w.heap.size 53 5 out acc.length (acc.flatMap itC) ∧ Below w.heap.size w wr) (fun _ i _ => 100 - (intOf i).toNat)
    case atStart => exact ⟨0, [], Nat.zero_le _, rfl, Nat.le_refl _, rfl, World.ownsRow_nil _ _ _ _, Below.refl _ _⟩
    case round =>
      obtain ⟨j, acc, hj, rfl, hacc, HA, hown, bel⟩ := hrel
      by_cases hjn : j < 66
      · have hlt : j < l'.length := by have := HLN.out; omega
        have hr := HRD.out
        have R1 := hr.below bel (Nat.le_refl _)
        obtain ⟨b, off, rfl, hb, c0, c1, c2, c3, c4⟩ := rdi_cells R1 j hlt
        obtain ⟨x, hx⟩ : ∃ x, x = l'[j]'hlt := ⟨_, rfl⟩
        rw [← hx] at c0 c1 c2 c3 c4
        have hxk : x.key.length ≤ maxLen := by rw [hx]; exact (HS.out _ (List.getElem_mem _)).1
        have hxs : x.v.s.length ≤ maxLen := by rw [hx]; exact (HS.out _ (List.getElem_mem _)).2
        have HX := Lib.hid hx
        clear hx hr R1
        have ONE := one10_any x wr hxk hxs
        have HN := Lib.hid (show acc ++ [oneI x] = (l'.take (j + 1)).map oneI by rw [HA.out, HX.out]; exact take_map9 hlt)
        unfold itV at ONE
        go_wp2_with fail
        refine ONE.mono ?_
        rintro e w2 ⟨rfl, g2⟩
        have bel2 := chain bel g2
        have hown' := own_keep hown g2
        clear g2 ONE hown
        go_wp2_with (at_builtin; refine wpList_app1k itC_len (by decide) w rfl (.tmp 16) (.tmp 22) 22 rfl w.heap.size 53 i0 (.agg #[.string ⟨#[]⟩, .int .i64 0, .int .i64 0, .string ⟨#[]⟩, .int .i64 0]) 56 Tryd.underlying22 hi hz0 hz1 hz2 rfl _ _ rfl hown' _ (oneI x) _ rfl rfl itC_one (by unfold maxLen; omega) (by omega) (Nat.le_refl _) bel2 ?_; intro v' w1 hown2 hb2 hq2; clear hq2)
        exact ⟨⟨j + 1, acc ++ [oneI x], by omega, by push_cast; rfl, by simp; omega, HN, hown2, hb2⟩, by simp [intOf]; omega⟩
      · obtain rfl : j = 66 := by omega
        have E := Lib.hid (show R = acc by rw [HA.out, HR.out]; unfold fewL; rw [HL.out, List.take_take]; rfl)
        go_wp2_with fail
        go_ret
        have e := E.out
        subst e
        exact ⟨_, rfl, hown, bel⟩
  · have HRD := Lib.hid hr
    have HLN := Lib.hid (rfl : l.length = l.length)
    have hd1 : decide (66 < (l.length : Int)) = false := decide_eq_false (by omega)
    have hd2 : decide (66 < l.length) = false := decide_eq_false hbig
    clear hr
    go_enter Tryd.func87, Tryd.ntmps87
    go_wp2_with fail
    go_loopw [3, 4] (fun out i wr => ∃ (j : Nat) (acc : List It), j ≤ l.length ∧ i = .int .i64 (j : Int) ∧ acc.length ≤ j ∧ Hid (acc = (l.take j).map oneI) ∧ wr.ownsRow w.heap.size 53 5 out acc.length (acc.flatMap itC) ∧ Below w.heap.size w wr) (fun _ i _ => 100 - (intOf i).toNat)
    case atStart => exact ⟨0, [], Nat.zero_le _, rfl, Nat.le_refl _, rfl, World.ownsRow_nil _ _ _ _, Below.refl _ _⟩
    case round =>
      obtain ⟨j, acc, hj, rfl, hacc, HA, hown, bel⟩ := hrel
      by_cases hjn : j < l.length
      · have hlt : j < l.length := by have := HLN.out; omega
        have hr := HRD.out
        have R1 := hr.below bel (Nat.le_refl _)
        obtain ⟨b, off, rfl, hb, c0, c1, c2, c3, c4⟩ := rdi_cells R1 j hlt
        obtain ⟨x, hx⟩ : ∃ x, x = l[j]'hlt := ⟨_, rfl⟩
        rw [← hx] at c0 c1 c2 c3 c4
        have hxk : x.key.length ≤ maxLen := by rw [hx]; exact (HS.out _ (List.getElem_mem _)).1
        have hxs : x.v.s.length ≤ maxLen := by rw [hx]; exact (HS.out _ (List.getElem_mem _)).2
        have HX := Lib.hid hx
        clear hx hr R1
        have ONE := one10_any x wr hxk hxs
        have HN := Lib.hid (show acc ++ [oneI x] = (l.take (j + 1)).map oneI by rw [HA.out, HX.out]; exact take_map9 hlt)
        unfold itV at ONE
        go_wp2_with fail
        refine ONE.mono ?_
        rintro e w2 ⟨rfl, g2⟩
        have bel2 := chain bel g2
        have hown' := own_keep hown g2
        clear g2 ONE hown
        go_wp2_with (at_builtin; refine wpList_app1k itC_len (by decide) w rfl (.tmp 16) (.tmp 22) 22 rfl w.heap.size 53 i0 (.agg #[.string ⟨#[]⟩, .int .i64 0, .int .i64 0, .string ⟨#[]⟩, .int .i64 0]) 56 Tryd.underlying22 hi hz0 hz1 hz2 rfl _ _ rfl hown' _ (oneI x) _ rfl rfl itC_one (by unfold maxLen; omega) (by omega) (Nat.le_refl _) bel2 ?_; intro v' w1 hown2 hb2 hq2; clear hq2)
        exact ⟨⟨j + 1, acc ++ [oneI x], by omega, by push_cast; rfl, by simp; omega, HN, hown2, hb2⟩, by simp [intOf]; omega⟩
      · obtain rfl : j = l.length := by omega
        have E := Lib.hid (show R = acc by rw [HA.out, HR.out]; unfold fewL; rw [List.take_of_length_le (by omega), List.take_of_length_le (by omega)])
        go_wp2_with fail
        go_ret
        have e := E.out
        subst e
        exact ⟨_, rfl, hown, bel⟩
theorem own_moved2 {w w' : World} {base : Nat} {e : TypeId} {size : Nat} {v : Value} {n : Nat} {xs : List Value} (h : w.ownsRow base e size v n xs) (hh : ∀ g, base ≤ g → g < w.heap.size → w'.heap[g]? = w.heap[g]?) : w'.ownsRow base e size v n xs := by
  refine ⟨h.1, ?_⟩
  rcases h.2 with h1 | ⟨g, cap, cur, h1, h2, h3, r⟩
  · exact .inl h1
  · exact .inr ⟨g, cap, cur, h1, h2, (hh g h2 (lt_of_block h3)).trans h3, r⟩
/-- A trunk's cells whose leaves all lie in rows of a call's own. -/
structure OwnT (base : Nat) (w : World) (cs : Array Value) (lv : Nat → List It) (vs : Nat → Int) : Prop where
  size : cs.size = 32
  leaf : ∀ b, b < 16 → ∃ u, cs[b]? = some u ∧ w.ownsRow base 53 5 u (lv b).length ((lv b).flatMap itC)
  ver : ∀ b, b < 16 → cs[16 + b]? = some (.int .i64 (vs b))
theorem OwnT.rd {base : Nat} {w : World} {cs : Array Value} {lv : Nat → List It} {vs : Nat → Int} (h : OwnT base w cs lv vs) : RdT w cs lv vs :=
  ⟨h.size, fun b hb => (h.leaf b hb).imp fun u x => ⟨x.1, own_rdk itC_len x.2⟩, h.ver⟩
theorem OwnT.moved {base : Nat} {w w' : World} {cs : Array Value} {lv : Nat → List It} {vs : Nat → Int} (h : OwnT base w cs lv vs) (hh : ∀ g, base ≤ g → g < w.heap.size → w'.heap[g]? = w.heap[g]?) : OwnT base w' cs lv vs :=
  ⟨h.size, fun b hb => (h.leaf b hb).imp fun u x => ⟨x.1, own_moved2 x.2 hh⟩, h.ver⟩
theorem OwnT.below {base : Nat} {w w' : World} {cs : Array Value} {lv : Nat → List It} {vs : Nat → Int} (h : OwnT base w cs lv vs) (g : Below w.heap.size w w') : OwnT base w' cs lv vs := h.moved fun k _ hk => g.block k hk
theorem OwnT.base {base base' : Nat} {w : World} {cs : Array Value} {lv : Nat → List It} {vs : Nat → Int} (h : OwnT base w cs lv vs) (hb : base' ≤ base) : OwnT base' w cs lv vs :=
  ⟨h.size, fun b h16 => (h.leaf b h16).imp fun u x => ⟨x.1, own_base x.2 hb⟩, h.ver⟩
/-- The first j leaves are looked at. -/
structure FewI (base : Nat) (cs : Array Value) (lv : Nat → List It) (j : Nat) (w : World) (csr : Array Value) : Prop where
  size : csr.size = 32
  done : ∀ b, b < j → ∃ u, csr[b]? = some u ∧ w.ownsRow base 53 5 u (fewL (lv b)).length ((fewL (lv b)).flatMap itC)
  rest : ∀ b, j ≤ b → csr[b]? = cs[b]?
theorem FewI.step {base : Nat} {cs : Array Value} {lv : Nat → List It} {j : Nat} {w w' : World} {csr : Array Value} (h : FewI base cs lv j w csr) (hj : j < 16) (hh : ∀ g, base ≤ g → g < w.heap.size → w'.heap[g]? = w.heap[g]?) {v : Value}
    (ho : w'.ownsRow base 53 5 v (fewL (lv j)).length ((fewL (lv j)).flatMap itC)) : FewI base cs lv (j + 1) w' (csr.setIfInBounds j v) := by
  have hs := h.size
  refine ⟨by simp [hs], fun b hb => ?_, fun b hb => ?_⟩
  · by_cases e : b = j
    · subst e
      exact ⟨v, by rw [Array.getElem?_setIfInBounds_self_of_lt (by omega)], ho⟩
    · obtain ⟨u, h1, h2⟩ := h.done b (by omega)
      exact ⟨u, by rw [Array.getElem?_setIfInBounds_ne (by omega)]; exact h1, own_moved2 h2 hh⟩
  · rw [Array.getElem?_setIfInBounds_ne (by omega)]; exact h.rest b (by omega)
def FewP (w : World) (lv : Nat → List It) (vs : Nat → Int) (e : Ending) (w' : World) : Prop := ∃ cs, e = .returned (.agg cs) ∧ OwnT w.heap.size w' cs (fun b => fewL (lv b)) vs ∧ Below w.heap.size w w'
set_option maxRecDepth 100000 in
set_option maxHeartbeats 2000000 in
theorem few10_any (cs : Array Value) (lv : Nat → List It) (vs : Nat → Int) (w : World) (h : RdT w cs lv vs) (hsz : SzT lv) :
    Calls Tryd.prog 52 #[.agg cs] w (FewP w lv vs) := by
  have hs := infoTc h.size
  have HT := Lib.hid h
  have HS := Lib.hid hsz
  have z0 := zeroT_run
  have z1 := zT_ne
  obtain ⟨q1, q2, -, -⟩ := two_allocs w (.cells cs 26) (.cells zT 26)
  have bel : Below w.heap.size w ((w.alloc (.cells cs 26)).alloc (.cells zT 26)) := ((Below.refl _ w).alloc (Nat.le_refl _) _).alloc (by simp) _
  have FI0 : FewI (w.heap.size + 2) cs lv 0 ((w.alloc (.cells cs 26)).alloc (.cells zT 26)) cs := ⟨h.size, fun b hb => absurd hb (by omega), fun _ _ => rfl⟩
  have FI := Lib.hid FI0
  obtain ⟨Z, hZ⟩ : ∃ Z, Z = FewP w lv vs := ⟨_, rfl⟩
  rw [← hZ]
  have HZ := Lib.hid hZ
  clear hZ h hsz FI0
  go_enter Tryd.func52, Tryd.ntmps52
  go_wp2_with fail
  obtain ⟨W0, hW0⟩ : ∃ W0, W0 = (w.alloc (.cells cs 26)).alloc (.cells zT 26) := ⟨_, rfl⟩
  rw [← hW0] at q1 q2 bel FI ⊢
  clear hW0
  go_loopw [3] (fun i wr => ∃ (j : Nat) (csr : Array Value), j ≤ 16 ∧ i = .int .i64 (j : Int) ∧ wr.heap[w.heap.size]? = some (.cells csr 26 (0, 0)) ∧ wr.heap[w.heap.size + 1]? = some (.cells zT 26 (0, 0)) ∧ Hid (FewI (w.heap.size + 2) cs lv j wr csr) ∧ Below w.heap.size w wr) (fun i _ => 20 - (intOf i).toNat)
  case atStart => exact ⟨0, cs, by omega, rfl, q1, q2, FI, bel⟩
  case round =>
    clear q1 q2 bel FI
    obtain ⟨j, csr, hj, rfl, q1, q2, FI, bel⟩ := hrel
    by_cases hlt : j < 16
    · have hlti : (j : Int) < 16 := by omega
      obtain ⟨u, hu, hru⟩ := HT.out.leaf j hlt
      have c1 := (block_cell q1 j).trans ((FI.out.rest j (Nat.le_refl _)).trans hu)
      have hl1 := lt_of_block q1
      have hl2 := lt_of_block q2
      have IT0 := items10_any u (lv j) wr (hru.below bel (Nat.le_refl _)) (HS.out j hlt)
      have HJ := Lib.hid hj
      clear hu hru
      go_wp2_with fail
      refine IT0.mono ?_
      rintro e w2 ⟨v', rfl, own, g⟩
      obtain ⟨a1, n1, c3, rfl⟩ := own_slice own
      have bel2 := chain bel g
      have q12 := (g.block _ hl1).trans q1
      have q22 := (g.block _ hl2).trans q2
      have c2 := (g.cell (p := ⟨w.heap.size, j, none⟩) hl1).trans c1
      have f2 := block_frozen q12 j
      have hl3 := lt_of_block q12
      have FN := FI.out.step (w' := w2.setCell ⟨w.heap.size, j, none⟩ (.slice a1 n1 c3)) hlt (fun k hk hk2 => by rw [set_old (by omega)]; exact g.block k hk2) (own_moved (own_base own (by omega)) (fun k hk => set_old (by omega)))
      have FNH := Lib.hid FN
      clear IT0 own FN c1 q1 q2 g
      go_wp2_with fail
      have q13 := set_at (i := j) (u := .slice a1 n1 c3) q12
      have q23 : (w2.setCell ⟨w.heap.size, j, none⟩ (.slice a1 n1 c3)).heap[w.heap.size + 1]? = some (.cells zT 26 (0, 0)) := by rw [set_old (by omega)]; exact q22
      exact ⟨⟨j + 1, _, by omega, by push_cast; rfl, q13, q23, FNH, bel2.setCell (p := ⟨w.heap.size, j, none⟩) (Nat.le_refl _) _⟩, by simp [intOf]; omega⟩
    · obtain rfl : j = 16 := by omega
      have hcs := infoTc FI.out.size
      have hcz : zT.size = csr.size := by rw [FI.out.size]; rfl
      have OT : OwnT (w.heap.size + 2) wr csr (fun b => fewL (lv b)) vs := ⟨FI.out.size, FI.out.done, fun b hb => (FI.out.rest _ (by omega)).trans (HT.out.ver b hb)⟩
      have hone := OT.rd.one
      have q9 := Lib.hid (setRow_heap _ _ _ csr _ _ q2)
      have OT9 := Lib.hid ((OT.moved (w' := wr.setRow (w.heap.size + 1) csr) (fun k hk _ => by rw [setRow_other _ _ _ _ (by omega)])).base (base' := w.heap.size) (by omega))
      have BEL9 := Lib.hid (below_row (g := w.heap.size + 1) bel (by omega) csr)
      clear OT
      go_wp2_with (first | (with_reducible refine wpList_load_row (o := ⟨some 16, _, _, _, _, _⟩) rfl 26 (.tmp 1) rfl _ rfl _ csr (0, 0) _ q1 Tryd.underlying26 rfl hcs ?_) | (with_reducible refine wpList_store_row (o := ⟨none, _, _, _, _, _⟩) rfl 26 (.tmp 2) (.tmp 16) rfl _ csr rfl rfl _ zT q2 hcs hcz hone ?_))
      refine bodyPost_ret (v := .agg csr) (results_cell_row rfl _ _ _ _ csr (0, 0) _ rfl q9.out Tryd.underlying26 rfl hcs) rfl ?_
      rw [HZ.out]; exact ⟨csr, rfl, OT9.out, BEL9.out⟩
end Go.Proofs.YtbdfcgffkonbiaaDoor
