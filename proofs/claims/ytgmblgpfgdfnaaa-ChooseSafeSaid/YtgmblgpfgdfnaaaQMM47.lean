/- Choose: the document's May: where it says yes, the changes may be chosen from. Written by wip/tools/gen31j.py. -/
import Derived.Test.YtgmblgpfgdfnaaaQMM34
import Derived.Test.YtgmblgpfgdfnaaaQMM5
namespace Go.Proofs.Ytgmblgpfgdfnaaa
open Go Go.RowKit
set_option linter.unusedVariables false
set_option linter.unusedSimpArgs false
set_option maxRecDepth 100000

def lastS : Int → List Ce → Int
  | a, [] => a
  | _, c :: r => lastS c.sq r
theorem last_snoc : ∀ (l : List Ce) (a : Int) (c : Ce), lastS a (l ++ [c]) = c.sq
  | [], a, c => rfl
  | x :: r, a, c => last_snoc r x.sq c
theorem last_take {l : List Ce} {a : Int} {j : Nat} (h : j < l.length) : lastS a (l.take (j + 1)) = l[j].sq := by
  rw [List.take_succ_eq_append_getElem h, last_snoc]
theorem ceB_snoc {st : Int} : ∀ {l : List Ce} {last : Int} {c : Ce}, ceB st l last = true → lastS last l < c.sq → c.sq ≤ st + 16 → 0 ≤ c.vw → c.body.length ≤ 65536 → ceB st (l ++ [c]) last = true
  | [], last, c, _, h1, h2, h3, h4 => by
    unfold lastS at h1
    show ceB st [c] last = true
    unfold ceB
    simp [h1, h2, h3, h4, ceB]
  | x :: r, last, c, h, h1, h2, h3, h4 => by
    unfold ceB at h
    simp only [Bool.and_eq_true] at h
    show ceB st (x :: (r ++ [c])) last = true
    unfold ceB
    simp only [Bool.and_eq_true]
    exact ⟨h.1, h.2.1, h.2.2.1, h.2.2.2.1, ceB_snoc h.2.2.2.2 h1 h2 h3 h4⟩
theorem pair_snoc {l : List Cg} {k : Nat} (hk : k < l.length) (h : (l.take k).Pairwise (fun a b => a.fr ≠ b.fr)) (hx : ∀ c ∈ l.take k, c.fr ≠ l[k].fr) : (l.take (k + 1)).Pairwise (fun a b => a.fr ≠ b.fr) := by
  rw [List.take_succ_eq_append_getElem hk, List.pairwise_append]
  exact ⟨h, List.pairwise_singleton _ _, fun a ha b hb => by rw [List.mem_singleton] at hb; subst hb; exact hx a ha⟩
theorem take_snoc_all {α : Type} {l : List α} {p : α → Prop} {k : Nat} (hk : k < l.length) (h : ∀ c ∈ l.take k, p c) (hx : p l[k]) : ∀ c ∈ l.take (k + 1), p c := by
  rw [List.take_succ_eq_append_getElem hk]
  intro c hc
  rcases List.mem_append.1 hc with hc | hc
  · exact h c hc
  · rw [List.mem_singleton] at hc; subst hc; exact hx
def MayR (n : Int) (l : List Cg) (w : World) (e : Ending) (w' : World) : Prop := ∃ b : Bool, e = .returned (.bool b) ∧ (b = true → MayP n l) ∧ Below w.heap.size w w'
theorem MayR.no {n : Int} {l : List Cg} {w w' : World} (h : Below w.heap.size w w') : MayR n l w (.returned (.bool false)) w' := ⟨false, rfl, (fun e => by cases e), h⟩
set_option maxHeartbeats 4000000 in
theorem refMay31_any (n : Int) (l : List Cg) (v : Value) (w : World) (h : RdCg w v l) : Calls Try.prog 22 #[v, .int .i64 n] w (MayR n l w) := by
  obtain ⟨ao, cap, rfl, hcl, hcm⟩ := rdcg_val h
  have HF0 := fun w' => refFaults_any n w'
  have hfc : 0 ≤ fN n ∧ fN n ≤ 5 := by have := fN_cases n; omega
  obtain ⟨f, hf⟩ : ∃ f, f = fN n := ⟨_, rfl⟩
  rw [← hf] at HF0 hfc
  have HF := Lib.hid HF0
  have HFN := Lib.hid hf
  have HRD := Lib.hid h
  obtain ⟨Z, hZ⟩ : ∃ Z, Z = MayR n l w := ⟨_, rfl⟩
  rw [← hZ]
  have HZ := Lib.hid hZ
  have hf0 := hfc.1
  have hf5 := hfc.2
  clear h HF0 hf hZ hfc
  by_cases hz : f = 0
  · go_enter Try.func22, Try.ntmps22
    go_wp2_with (first | ((with_reducible refine (HF.out _).mono ?_); rintro e w1 ⟨rfl, rfl⟩))
    show Z (.returned (.bool false)) _
    rw [HZ.out]
    exact MayR.no (Below.refl _ _)
  by_cases hn : (l.length : Int) < 2 * f + 1
  · go_enter Try.func22, Try.ntmps22
    go_wp2_with (first | ((with_reducible refine (HF.out _).mono ?_); rintro e w1 ⟨rfl, rfl⟩))
    show Z (.returned (.bool false)) _
    rw [HZ.out]
    exact MayR.no (Below.refl _ _)
  have HLN := Lib.hid (show 2 * fN n + 1 ≤ l.length by rw [← HFN.out]; omega)
  have q1 : (f == 0) = false := by simpa using hz
  have q2 : decide ((l.length : Int) < 2 * f + 1) = false := decide_eq_false hn
  have HNZ := Lib.hid (show fN n ≠ 0 by rw [← HFN.out]; exact hz)
  go_enter Try.func22, Try.ntmps22
  go_wp2_with (first | ((with_reducible refine (HF.out _).mono ?_); rintro e w1 ⟨rfl, rfl⟩))
  clear HF HFN hz hn hf0 hf5 q1 q2
  go_loopw [6] (fun i wr => ∃ k : Nat, k ≤ l.length ∧ i = .int .i64 (k : Int) ∧ Hid (∀ c ∈ l.take k, cgB n c = true) ∧ Hid ((l.take k).Pairwise (fun a b => a.fr ≠ b.fr)) ∧ Below w.heap.size w wr) (fun i _ => l.length - (intOf i).toNat)
  case atStart => exact ⟨0, Nat.zero_le _, rfl, Lib.hid (fun x hx => by simp at hx), Lib.hid (by simp), Below.refl _ _⟩
  case round =>
    obtain ⟨k, hk, rfl, hall, hdist, bel⟩ := hrel
    by_cases hlt : k < l.length
    · obtain ⟨pb, po, rfl, hpb, C0, C1, C2, C3, C4, C5⟩ := rdcg_cells HRD.out k hlt
      have c0 := (bel.cell (p := ⟨pb, po + k * 6, none⟩) hpb).trans C0
      have c1 := (bel.cell (p := ⟨pb, po + k * 6 + 1, none⟩) hpb).trans C1
      have c2 := (bel.cell (p := ⟨pb, po + k * 6 + 2, none⟩) hpb).trans C2
      have c3 := (bel.cell (p := ⟨pb, po + k * 6 + 3, none⟩) hpb).trans C3
      have c4 := (bel.cell (p := ⟨pb, po + k * 6 + 4, none⟩) hpb).trans C4
      have c5 := (bel.cell (p := ⟨pb, po + k * 6 + 5, none⟩) hpb).trans C5
      have hrc := (HRD.out.2 l[k] (List.getElem_mem hlt)).2
      obtain ⟨x, hx⟩ : ∃ x, x = l[k] := ⟨_, rfl⟩
      have HX := Lib.hid hx
      rw [← hx] at c0 c1 c2 c3 c4 c5 hrc
      obtain ⟨fr, vw, st, rt, ⟨pa, pn, pk⟩, ⟨ca, cn, ck⟩, cs⟩ := x
      simp only at c0 c1 c2 c3 c4 c5 hrc
      obtain ⟨hcn, hck, hck2⟩ := rdcs_len hrc
      subst hcn
      have HRC := Lib.hid hrc
      have DU0 := fun w' => refDue_any st w'
      have hdd : dueB st = true → 0 < st := by unfold dueB; simp only [Bool.and_eq_true, decide_eq_true_eq]; exact fun h => h.1
      obtain ⟨D0, hD0⟩ : ∃ D, D = dueB st := ⟨_, rfl⟩
      rw [← hD0] at DU0 hdd
      have DU := Lib.hid DU0
      have HD := Lib.hid hD0
      have x1 := heap_alloc_new wr (.cells #[.int .i64 fr, .int .i64 vw, .int .i64 st, .int .i64 rt, .slice pa pn pk, .slice ca cs.length ck] 56)
      have B2 := chain bel ((Below.refl wr.heap.size wr).alloc (Nat.le_refl _) (.cells #[.int .i64 fr, .int .i64 vw, .int .i64 st, .int .i64 rt, .slice pa pn pk, .slice ca cs.length ck] 56))
      obtain ⟨e0, e1, e2, e3, e4, e5, ef⟩ := block_cells6 x1
      clear hx C0 C1 C2 C3 C4 C5 hrc DU0 hD0
      by_cases h1 : fr < 0
      · go_wp2_with (first | ((with_reducible refine (DU.out _).mono ?_); rintro e w1 ⟨rfl, rfl⟩))
        first | (show Z (.returned (.bool false)) _) | (go_ret; show Z (.returned (.bool false)) _)
        rw [HZ.out]
        exact MayR.no B2
      by_cases h2 : n ≤ fr
      · go_wp2_with (first | ((with_reducible refine (DU.out _).mono ?_); rintro e w1 ⟨rfl, rfl⟩))
        first | (show Z (.returned (.bool false)) _) | (go_ret; show Z (.returned (.bool false)) _)
        rw [HZ.out]
        exact MayR.no B2
      by_cases h3 : st ≠ 0 ∧ D0 = false
      · obtain ⟨h3, rfl⟩ := h3
        have hn0 : (st == 0) = false := by simpa using h3
        have hn1 : (st != 0) = true := by simpa using h3
        go_wp2_with (first | ((with_reducible refine (DU.out _).mono ?_); rintro e w1 ⟨rfl, rfl⟩))
        first | (show Z (.returned (.bool false)) _) | (go_ret; show Z (.returned (.bool false)) _)
        rw [HZ.out]
        exact MayR.no B2
      by_cases h4 : (2147483647 : Int) < st
      · by_cases h5 : st = 0
        · omega
        obtain rfl : D0 = true := by cases D0; exact absurd ⟨h5, rfl⟩ h3; rfl
        have hn0 : (st == 0) = false := by simpa using h5
        have hn1 : (st != 0) = true := by simpa using h5
        go_wp2_with (first | ((with_reducible refine (DU.out _).mono ?_); rintro e w1 ⟨rfl, rfl⟩))
        first | (show Z (.returned (.bool false)) _) | (go_ret; show Z (.returned (.bool false)) _)
        rw [HZ.out]
        exact MayR.no B2
      have HST := Lib.hid (show 0 ≤ st ∧ (decide (st = 0) || dueB st) = true by
        by_cases h5 : st = 0
        · subst h5; simp
        obtain rfl : D0 = true := by cases D0; exact absurd ⟨h5, rfl⟩ h3; rfl
        rw [← HD.out]
        exact ⟨by have := hdd rfl; omega, by simp⟩)
      obtain ⟨Wn, hWn⟩ : ∃ W, W = wr.alloc (.cells #[.int .i64 fr, .int .i64 vw, .int .i64 st, .int .i64 rt, .slice pa pn pk, .slice ca cs.length ck] 56) := ⟨_, rfl⟩
      have HOW : ∀ Q : World → Prop, True := fun _ => trivial
      have go1 : (st == 0) = true ∨ ((st == 0) = false ∧ (st != 0) = true ∧ D0 = true) := by
        by_cases h5 : st = 0
        · exact .inl (by simpa using h5)
        · obtain rfl : D0 = true := by cases D0; exact absurd ⟨h5, rfl⟩ h3; rfl
          exact .inr ⟨by simpa using h5, by simpa using h5, rfl⟩
      clear h3 hdd HOW
      rcases go1 with g0 | ⟨g0, g1, rfl⟩
      · have g9 : st = 0 := by simpa using g0
        subst g9
        go_wp2_with (first | ((with_reducible refine (DU.out _).mono ?_); rintro e w1 ⟨rfl, rfl⟩))
        rw [← hWn]
        rw [← hWn] at x1 B2
        obtain ⟨pos, hpos⟩ : ∃ q, q = wr.heap.size := ⟨_, rfl⟩
        rw [← hpos] at x1 ⊢
        have Q1 := Lib.hid x1
        have HB2 := Lib.hid B2
        clear hWn hpos x1 B2 c0 c1 c2 c3 c4 c5 e0 e1 e2 e3 e4 e5 ef g0
        go_loopw [8] (fun i wr => ∃ j : Nat, j ≤ k ∧ i = .int .i64 (j : Int) ∧ Hid (∀ c ∈ l.take j, c.fr ≠ fr) ∧ Below Wn.heap.size Wn wr) (fun i _ => k - (intOf i).toNat)
        case atStart => exact ⟨0, Nat.zero_le _, rfl, Lib.hid (fun x hx => by simp at hx), Below.refl _ _⟩
        case round =>
          obtain ⟨j, hj, rfl, hne, bel2⟩ := hrel
          have B2 := chain HB2.out bel2
          have x1 := (bel2.block _ (lt_of_block Q1.out)).trans Q1.out
          obtain ⟨e0, e1, e2, e3, e4, e5, ef⟩ := block_cells6 x1
          by_cases hjk : j < k
          · obtain ⟨pb2, po2, hab, hpb2, C0, C1, C2, C3, C4, C5⟩ := rdcg_cells HRD.out j (by omega)
            injection hab with hab
            injection hab with hb1 hb2
            subst hb1
            subst hb2
            have d0 := (B2.cell (p := ⟨pb, po + j * 6, none⟩) hpb2).trans C0
            obtain ⟨y, hy⟩ : ∃ y, y = l[j] := ⟨_, rfl⟩
            rw [← hy] at d0
            obtain ⟨yf, yv, ys, yr, yp, yc, ycs⟩ := y
            simp only at d0
            have HY := Lib.hid hy
            clear hy C0 C1 C2 C3 C4 C5
            by_cases hf : yf = fr
            · subst hf
              go_wp2_with fail
              go_quiet (fail)
              have B3 := below_drewN (k := nq) B2
              go_wp2_with fail
              first | (show Z (.returned (.bool false)) _) | (go_ret; show Z (.returned (.bool false)) _)
              rw [HZ.out]
              exact MayR.no B3
            · have hf1 : (yf == fr) = false := by simpa using hf
              have HU := Lib.hid (take_snoc_all (l := l) (p := fun c => c.fr ≠ fr) (by omega) hne.out (by rw [← HY.out]; exact hf))
              go_wp2_with fail
              go_quiet (fail)
              have B3 := below_drewN (k := nq) bel2
              go_wp2_with fail
              exact ⟨⟨j + 1, by omega, by push_cast; rfl, HU, B3⟩, by simp [intOf]; omega⟩
          · obtain rfl : k = j := by omega
            have HNE0 := Lib.hid hne.out
            clear hne e0 e1 e2 e3 e4 e5 ef B2 x1
            have HNF := HNE0
            have x1 := (bel2.block _ (lt_of_block Q1.out)).trans Q1.out
            go_wp2_with fail
            go_loopw [9] (fun i wr => ∃ j : Nat, j ≤ cs.length ∧ i = .int .i64 (j : Int) ∧ Hid (ceB  0  (cs.take j)  0  = true) ∧ Below Wn.heap.size Wn wr) (fun i _ => cs.length - (intOf i).toNat)
            case atStart => exact ⟨0, Nat.zero_le _, rfl, Lib.hid rfl, bel2⟩
            case round =>
              clear bel2 x1
              obtain ⟨j, hj, rfl, hce, bel2⟩ := hrel
              have B2 := chain HB2.out bel2
              have x1 := (bel2.block _ (lt_of_block Q1.out)).trans Q1.out
              by_cases hlj : j < cs.length
              · obtain ⟨qb, qo, rfl, hqb, C0, C1, C2, C3, C4⟩ := rdce_cells HRC.out j hlj
                have c0 := (B2.cell (p := ⟨qb, qo + j * 5, none⟩) hqb).trans C0
                have c1 := (B2.cell (p := ⟨qb, qo + j * 5 + 1, none⟩) hqb).trans C1
                have c2 := (B2.cell (p := ⟨qb, qo + j * 5 + 2, none⟩) hqb).trans C2
                have c3 := (B2.cell (p := ⟨qb, qo + j * 5 + 3, none⟩) hqb).trans C3
                have c4 := (B2.cell (p := ⟨qb, qo + j * 5 + 4, none⟩) hqb).trans C4
                have hb65 := (HRC.out.2 cs[j] (List.getElem_mem hlj)).2
                obtain ⟨y, hy⟩ : ∃ y, y = cs[j] := ⟨_, rfl⟩
                have HY := Lib.hid hy
                rw [← hy] at c0 c1 c2 c3 c4 hb65
                obtain ⟨a, b, c, d, ⟨va, vn, vk⟩⟩ := y
                simp only at c0 c1 c2 c3 c4 hb65
                obtain ⟨D, hD⟩ : ∃ D, D = str d := ⟨_, rfl⟩
                have hds : D.size = d.length := by rw [hD, str_size]
                rw [← hD] at c3
                have HDS := Lib.hid hds
                obtain ⟨ln, hln⟩ : ∃ n, n = D.size := ⟨_, rfl⟩
                have x2 := heap_alloc_new wr (.cells #[.int .i64 a, .int .i64 b, .int .i64 c, .string D, .slice va vn vk] 58)
                have bx := (Below.refl wr.heap.size wr).alloc (Nat.le_refl _) (.cells #[.int .i64 a, .int .i64 b, .int .i64 c, .string D, .slice va vn vk] 58)
                have p2 := (bx.block _ (lt_of_block x1)).trans x1
                have l1 := lt_of_block x1
                obtain ⟨e0, e1, e2, e3, e4, ef⟩ := block_cells5 x2
                obtain ⟨d0, d1, d2, d3, d4, d5, df⟩ := block_cells6 p2
                have B3 := chain B2 bx
                have B4 := chain bel2 bx
                have hm : D.size ≤ 9223372036854775807 := by rw [hds]; exact hb65
                obtain ⟨g0, g1, g2, g3, g4, g5, gf⟩ := block_cells6 x1
                clear hy C0 C1 C2 C3 C4 hD hds hb65 x1 x2 p2 hln
                by_cases k1 : a ≤  0 
                · have z1 : decide (a ≤  0 ) = true := decide_eq_true k1
                  go_wp2_with fail
                  go_quiet (fail)
                  have B5 := below_drewN (k := nq) B3
                  go_wp2_with fail
                  first | (show Z (.returned (.bool false)) _) | (go_ret; show Z (.returned (.bool false)) _)
                  rw [HZ.out]
                  exact MayR.no B5
                have z1 : decide (a ≤  0 ) = false := decide_eq_false k1
                by_cases k2 : (16 : Int) < a
                · have z2 : decide ((16 : Int) < a) = true := decide_eq_true k2
                  go_wp2_with fail
                  go_quiet (fail)
                  have B5 := below_drewN (k := nq) B3
                  go_wp2_with fail
                  first | (show Z (.returned (.bool false)) _) | (go_ret; show Z (.returned (.bool false)) _)
                  rw [HZ.out]
                  exact MayR.no B5
                have z2 : decide ((16 : Int) < a) = false := decide_eq_false k2
                have HK := Lib.hid (show  0  < a ∧ a ≤  0  + 16 from ⟨by omega, by omega⟩)
                have BD := Lib.hid B4
                by_cases hj0 : j = 0
                · subst hj0
                  simp only [Nat.zero_mul, Nat.add_zero] at c0 c1 c2 c3 c4
                  have z3 : decide ((0 : Int) < 0) = false := by decide
                  by_cases k4 : b < 0
                  · have z4 : decide (b < 0) = true := decide_eq_true k4
                    go_wp2_with fail
                    go_quiet (fail)
                    have B5 := below_drewN (k := nq) B3
                    go_wp2_with fail
                    first | (show Z (.returned (.bool false)) _) | (go_ret; show Z (.returned (.bool false)) _)
                    rw [HZ.out]
                    exact MayR.no B5
                  have z4 : decide (b < 0) = false := decide_eq_false k4
                  by_cases k5 : (65536 : Int) < (D.size : Int)
                  · have z5 : decide ((65536 : Int) < (D.size : Int)) = true := decide_eq_true k5
                    go_wp2_with fail
                    go_quiet (fail)
                    have B5 := below_drewN (k := nq) B3
                    go_wp2_with fail
                    first | (show Z (.returned (.bool false)) _) | (go_ret; show Z (.returned (.bool false)) _)
                    rw [HZ.out]
                    exact MayR.no B5
                  have z5 : decide ((65536 : Int) < (D.size : Int)) = false := decide_eq_false k5
                  have HU := Lib.hid (show ceB  0  (cs.take (0 + 1))  0  = true by
                    rw [List.take_succ_eq_append_getElem (by omega)]
                    refine ceB_snoc hce.out ?_ ?_ ?_ ?_
                    · rw [← HY.out]; exact HK.out.1
                    · rw [← HY.out]; exact HK.out.2
                    · rw [← HY.out]; show 0 ≤ b; omega
                    · rw [← HY.out]; show d.length ≤ 65536; have := HDS.out; omega)
                  go_wp2_with fail
                  go_quiet (fail)
                  have B5 := below_drewN (k := nq) BD.out
                  go_wp2_with fail
                  exact ⟨⟨0 + 1, by omega, by push_cast; rfl, HU, B5⟩, by simp [intOf]; omega⟩
                · obtain ⟨j', rfl⟩ : ∃ j', j = j' + 1 := ⟨j - 1, by omega⟩
                  obtain ⟨qb2, qo2, hab, hqb2, C0, C1, C2, C3, C4⟩ := rdce_cells HRC.out j' (by omega)
                  injection hab with hab
                  injection hab with hb1 hb2
                  subst hb1
                  subst hb2
                  have f0 := (bx.cell (p := ⟨qb, qo + j' * 5, none⟩) (Nat.lt_of_lt_of_le hqb2 B2.size)).trans ((B2.cell (p := ⟨qb, qo + j' * 5, none⟩) hqb2).trans C0)
                  have ej : ((j' + 1 : Nat) : Int) - 1 = (j' : Int) := by omega
                  have ej2 : (j' : Int) + 1 - 1 = (j' : Int) := by omega
                  have hlast := last_take (a :=  0 ) (l := cs) (j := j') (by omega)
                  obtain ⟨z, hz⟩ : ∃ z, z = cs[j'].sq := ⟨_, rfl⟩
                  rw [← hz] at f0 hlast
                  have HL := Lib.hid hlast
                  clear hz hlast C0 C1 C2 C3 C4
                  by_cases k3 : a ≤ z
                  · have z3 : decide (a ≤ z) = true := decide_eq_true k3
                    go_wp2_with fail
                    go_quiet (fail)
                    have B5 := below_drewN (k := nq) B3
                    go_wp2_with fail
                    first | (show Z (.returned (.bool false)) _) | (go_ret; show Z (.returned (.bool false)) _)
                    rw [HZ.out]
                    exact MayR.no B5
                  have z3 : decide (a ≤ z) = false := decide_eq_false k3
                  by_cases k4 : b < 0
                  · have z4 : decide (b < 0) = true := decide_eq_true k4
                    go_wp2_with fail
                    go_quiet (fail)
                    have B5 := below_drewN (k := nq) B3
                    go_wp2_with fail
                    first | (show Z (.returned (.bool false)) _) | (go_ret; show Z (.returned (.bool false)) _)
                    rw [HZ.out]
                    exact MayR.no B5
                  have z4 : decide (b < 0) = false := decide_eq_false k4
                  by_cases k5 : (65536 : Int) < (D.size : Int)
                  · have z5 : decide ((65536 : Int) < (D.size : Int)) = true := decide_eq_true k5
                    go_wp2_with fail
                    go_quiet (fail)
                    have B5 := below_drewN (k := nq) B3
                    go_wp2_with fail
                    first | (show Z (.returned (.bool false)) _) | (go_ret; show Z (.returned (.bool false)) _)
                    rw [HZ.out]
                    exact MayR.no B5
                  have z5 : decide ((65536 : Int) < (D.size : Int)) = false := decide_eq_false k5
                  have HU := Lib.hid (show ceB  0  (cs.take ((j' + 1) + 1))  0  = true by
                    rw [List.take_succ_eq_append_getElem (by omega)]
                    refine ceB_snoc hce.out ?_ ?_ ?_ ?_
                    · rw [HL.out, ← HY.out]; show z < a; omega
                    · rw [← HY.out]; exact HK.out.2
                    · rw [← HY.out]; show 0 ≤ b; omega
                    · rw [← HY.out]; show d.length ≤ 65536; have := HDS.out; omega)
                  go_wp2_with fail
                  go_quiet (fail)
                  have B5 := below_drewN (k := nq) BD.out
                  go_wp2_with fail
                  exact ⟨⟨(j' + 1) + 1, by omega, by push_cast; rfl, HU, B5⟩, by simp [intOf]; omega⟩
              · obtain rfl : j = cs.length := by omega
                have hc := hce.out
                rw [List.take_length] at hc
                have HC := Lib.hid (show cgB n l[k] = true by
                  rw [← HX.out]
                  have := HST.out
                  unfold cgB
                  simp only [Bool.and_eq_true, decide_eq_true_eq]
                  exact ⟨by omega, by omega, this.2, by omega, hc⟩)
                have HA := Lib.hid (take_snoc_all hlt hall.out HC.out)
                have HD2 := Lib.hid (pair_snoc hlt hdist.out (by rw [← HX.out]; exact HNF.out))
                obtain ⟨g0, g1, g2, g3, g4, g5, gf⟩ := block_cells6 x1
                clear hc hce HC
                go_wp2_with fail
                exact ⟨⟨k + 1, by omega, by push_cast; rfl, HA, HD2, B2⟩, by simp [intOf]; omega⟩
      · have hst0 : 0 ≤ st := HST.out.1
        go_wp2_with (first | ((with_reducible refine (DU.out _).mono ?_); rintro e w1 ⟨rfl, rfl⟩))
        rw [← hWn]
        rw [← hWn] at x1 B2
        obtain ⟨pos, hpos⟩ : ∃ q, q = wr.heap.size := ⟨_, rfl⟩
        rw [← hpos] at x1 ⊢
        have Q1 := Lib.hid x1
        have HB2 := Lib.hid B2
        clear hWn hpos x1 B2 c0 c1 c2 c3 c4 c5 e0 e1 e2 e3 e4 e5 ef g0
        go_loopw [8] (fun i wr => ∃ j : Nat, j ≤ k ∧ i = .int .i64 (j : Int) ∧ Hid (∀ c ∈ l.take j, c.fr ≠ fr) ∧ Below Wn.heap.size Wn wr) (fun i _ => k - (intOf i).toNat)
        case atStart => exact ⟨0, Nat.zero_le _, rfl, Lib.hid (fun x hx => by simp at hx), Below.refl _ _⟩
        case round =>
          obtain ⟨j, hj, rfl, hne, bel2⟩ := hrel
          have B2 := chain HB2.out bel2
          have x1 := (bel2.block _ (lt_of_block Q1.out)).trans Q1.out
          obtain ⟨e0, e1, e2, e3, e4, e5, ef⟩ := block_cells6 x1
          by_cases hjk : j < k
          · obtain ⟨pb2, po2, hab, hpb2, C0, C1, C2, C3, C4, C5⟩ := rdcg_cells HRD.out j (by omega)
            injection hab with hab
            injection hab with hb1 hb2
            subst hb1
            subst hb2
            have d0 := (B2.cell (p := ⟨pb, po + j * 6, none⟩) hpb2).trans C0
            obtain ⟨y, hy⟩ : ∃ y, y = l[j] := ⟨_, rfl⟩
            rw [← hy] at d0
            obtain ⟨yf, yv, ys, yr, yp, yc, ycs⟩ := y
            simp only at d0
            have HY := Lib.hid hy
            clear hy C0 C1 C2 C3 C4 C5
            by_cases hf : yf = fr
            · subst hf
              go_wp2_with fail
              go_quiet (fail)
              have B3 := below_drewN (k := nq) B2
              go_wp2_with fail
              first | (show Z (.returned (.bool false)) _) | (go_ret; show Z (.returned (.bool false)) _)
              rw [HZ.out]
              exact MayR.no B3
            · have hf1 : (yf == fr) = false := by simpa using hf
              have HU := Lib.hid (take_snoc_all (l := l) (p := fun c => c.fr ≠ fr) (by omega) hne.out (by rw [← HY.out]; exact hf))
              go_wp2_with fail
              go_quiet (fail)
              have B3 := below_drewN (k := nq) bel2
              go_wp2_with fail
              exact ⟨⟨j + 1, by omega, by push_cast; rfl, HU, B3⟩, by simp [intOf]; omega⟩
          · obtain rfl : k = j := by omega
            have HNE0 := Lib.hid hne.out
            clear hne e0 e1 e2 e3 e4 e5 ef B2 x1
            have HNF := HNE0
            have x1 := (bel2.block _ (lt_of_block Q1.out)).trans Q1.out
            go_wp2_with fail
            go_loopw [9] (fun i wr => ∃ j : Nat, j ≤ cs.length ∧ i = .int .i64 (j : Int) ∧ Hid (ceB st (cs.take j) st = true) ∧ Below Wn.heap.size Wn wr) (fun i _ => cs.length - (intOf i).toNat)
            case atStart => exact ⟨0, Nat.zero_le _, rfl, Lib.hid rfl, bel2⟩
            case round =>
              clear bel2 x1
              obtain ⟨j, hj, rfl, hce, bel2⟩ := hrel
              have B2 := chain HB2.out bel2
              have x1 := (bel2.block _ (lt_of_block Q1.out)).trans Q1.out
              by_cases hlj : j < cs.length
              · obtain ⟨qb, qo, rfl, hqb, C0, C1, C2, C3, C4⟩ := rdce_cells HRC.out j hlj
                have c0 := (B2.cell (p := ⟨qb, qo + j * 5, none⟩) hqb).trans C0
                have c1 := (B2.cell (p := ⟨qb, qo + j * 5 + 1, none⟩) hqb).trans C1
                have c2 := (B2.cell (p := ⟨qb, qo + j * 5 + 2, none⟩) hqb).trans C2
                have c3 := (B2.cell (p := ⟨qb, qo + j * 5 + 3, none⟩) hqb).trans C3
                have c4 := (B2.cell (p := ⟨qb, qo + j * 5 + 4, none⟩) hqb).trans C4
                have hb65 := (HRC.out.2 cs[j] (List.getElem_mem hlj)).2
                obtain ⟨y, hy⟩ : ∃ y, y = cs[j] := ⟨_, rfl⟩
                have HY := Lib.hid hy
                rw [← hy] at c0 c1 c2 c3 c4 hb65
                obtain ⟨a, b, c, d, ⟨va, vn, vk⟩⟩ := y
                simp only at c0 c1 c2 c3 c4 hb65
                obtain ⟨D, hD⟩ : ∃ D, D = str d := ⟨_, rfl⟩
                have hds : D.size = d.length := by rw [hD, str_size]
                rw [← hD] at c3
                have HDS := Lib.hid hds
                obtain ⟨ln, hln⟩ : ∃ n, n = D.size := ⟨_, rfl⟩
                have x2 := heap_alloc_new wr (.cells #[.int .i64 a, .int .i64 b, .int .i64 c, .string D, .slice va vn vk] 58)
                have bx := (Below.refl wr.heap.size wr).alloc (Nat.le_refl _) (.cells #[.int .i64 a, .int .i64 b, .int .i64 c, .string D, .slice va vn vk] 58)
                have p2 := (bx.block _ (lt_of_block x1)).trans x1
                have l1 := lt_of_block x1
                obtain ⟨e0, e1, e2, e3, e4, ef⟩ := block_cells5 x2
                obtain ⟨d0, d1, d2, d3, d4, d5, df⟩ := block_cells6 p2
                have B3 := chain B2 bx
                have B4 := chain bel2 bx
                have hm : D.size ≤ 9223372036854775807 := by rw [hds]; exact hb65
                obtain ⟨g0, g1, g2, g3, g4, g5, gf⟩ := block_cells6 x1
                clear hy C0 C1 C2 C3 C4 hD hds hb65 x1 x2 p2 hln
                by_cases k1 : a ≤ st
                · have z1 : decide (a ≤ st) = true := decide_eq_true k1
                  go_wp2_with fail
                  go_quiet (fail)
                  have B5 := below_drewN (k := nq) B3
                  go_wp2_with fail
                  first | (show Z (.returned (.bool false)) _) | (go_ret; show Z (.returned (.bool false)) _)
                  rw [HZ.out]
                  exact MayR.no B5
                have z1 : decide (a ≤ st) = false := decide_eq_false k1
                by_cases k2 : st + 16 < a
                · have z2 : decide (st + 16 < a) = true := decide_eq_true k2
                  go_wp2_with fail
                  go_quiet (fail)
                  have B5 := below_drewN (k := nq) B3
                  go_wp2_with fail
                  first | (show Z (.returned (.bool false)) _) | (go_ret; show Z (.returned (.bool false)) _)
                  rw [HZ.out]
                  exact MayR.no B5
                have z2 : decide (st + 16 < a) = false := decide_eq_false k2
                have HK := Lib.hid (show st < a ∧ a ≤ st + 16 from ⟨by omega, by omega⟩)
                have BD := Lib.hid B4
                by_cases hj0 : j = 0
                · subst hj0
                  simp only [Nat.zero_mul, Nat.add_zero] at c0 c1 c2 c3 c4
                  have z3 : decide ((0 : Int) < 0) = false := by decide
                  by_cases k4 : b < 0
                  · have z4 : decide (b < 0) = true := decide_eq_true k4
                    go_wp2_with fail
                    go_quiet (fail)
                    have B5 := below_drewN (k := nq) B3
                    go_wp2_with fail
                    first | (show Z (.returned (.bool false)) _) | (go_ret; show Z (.returned (.bool false)) _)
                    rw [HZ.out]
                    exact MayR.no B5
                  have z4 : decide (b < 0) = false := decide_eq_false k4
                  by_cases k5 : (65536 : Int) < (D.size : Int)
                  · have z5 : decide ((65536 : Int) < (D.size : Int)) = true := decide_eq_true k5
                    go_wp2_with fail
                    go_quiet (fail)
                    have B5 := below_drewN (k := nq) B3
                    go_wp2_with fail
                    first | (show Z (.returned (.bool false)) _) | (go_ret; show Z (.returned (.bool false)) _)
                    rw [HZ.out]
                    exact MayR.no B5
                  have z5 : decide ((65536 : Int) < (D.size : Int)) = false := decide_eq_false k5
                  have HU := Lib.hid (show ceB st (cs.take (0 + 1)) st = true by
                    rw [List.take_succ_eq_append_getElem (by omega)]
                    refine ceB_snoc hce.out ?_ ?_ ?_ ?_
                    · rw [← HY.out]; exact HK.out.1
                    · rw [← HY.out]; exact HK.out.2
                    · rw [← HY.out]; show 0 ≤ b; omega
                    · rw [← HY.out]; show d.length ≤ 65536; have := HDS.out; omega)
                  go_wp2_with fail
                  go_quiet (fail)
                  have B5 := below_drewN (k := nq) BD.out
                  go_wp2_with fail
                  exact ⟨⟨0 + 1, by omega, by push_cast; rfl, HU, B5⟩, by simp [intOf]; omega⟩
                · obtain ⟨j', rfl⟩ : ∃ j', j = j' + 1 := ⟨j - 1, by omega⟩
                  obtain ⟨qb2, qo2, hab, hqb2, C0, C1, C2, C3, C4⟩ := rdce_cells HRC.out j' (by omega)
                  injection hab with hab
                  injection hab with hb1 hb2
                  subst hb1
                  subst hb2
                  have f0 := (bx.cell (p := ⟨qb, qo + j' * 5, none⟩) (Nat.lt_of_lt_of_le hqb2 B2.size)).trans ((B2.cell (p := ⟨qb, qo + j' * 5, none⟩) hqb2).trans C0)
                  have ej : ((j' + 1 : Nat) : Int) - 1 = (j' : Int) := by omega
                  have ej2 : (j' : Int) + 1 - 1 = (j' : Int) := by omega
                  have hlast := last_take (a := st) (l := cs) (j := j') (by omega)
                  obtain ⟨z, hz⟩ : ∃ z, z = cs[j'].sq := ⟨_, rfl⟩
                  rw [← hz] at f0 hlast
                  have HL := Lib.hid hlast
                  clear hz hlast C0 C1 C2 C3 C4
                  by_cases k3 : a ≤ z
                  · have z3 : decide (a ≤ z) = true := decide_eq_true k3
                    go_wp2_with fail
                    go_quiet (fail)
                    have B5 := below_drewN (k := nq) B3
                    go_wp2_with fail
                    first | (show Z (.returned (.bool false)) _) | (go_ret; show Z (.returned (.bool false)) _)
                    rw [HZ.out]
                    exact MayR.no B5
                  have z3 : decide (a ≤ z) = false := decide_eq_false k3
                  by_cases k4 : b < 0
                  · have z4 : decide (b < 0) = true := decide_eq_true k4
                    go_wp2_with fail
                    go_quiet (fail)
                    have B5 := below_drewN (k := nq) B3
                    go_wp2_with fail
                    first | (show Z (.returned (.bool false)) _) | (go_ret; show Z (.returned (.bool false)) _)
                    rw [HZ.out]
                    exact MayR.no B5
                  have z4 : decide (b < 0) = false := decide_eq_false k4
                  by_cases k5 : (65536 : Int) < (D.size : Int)
                  · have z5 : decide ((65536 : Int) < (D.size : Int)) = true := decide_eq_true k5
                    go_wp2_with fail
                    go_quiet (fail)
                    have B5 := below_drewN (k := nq) B3
                    go_wp2_with fail
                    first | (show Z (.returned (.bool false)) _) | (go_ret; show Z (.returned (.bool false)) _)
                    rw [HZ.out]
                    exact MayR.no B5
                  have z5 : decide ((65536 : Int) < (D.size : Int)) = false := decide_eq_false k5
                  have HU := Lib.hid (show ceB st (cs.take ((j' + 1) + 1)) st = true by
                    rw [List.take_succ_eq_append_getElem (by omega)]
                    refine ceB_snoc hce.out ?_ ?_ ?_ ?_
                    · rw [HL.out, ← HY.out]; show z < a; omega
                    · rw [← HY.out]; exact HK.out.2
                    · rw [← HY.out]; show 0 ≤ b; omega
                    · rw [← HY.out]; show d.length ≤ 65536; have := HDS.out; omega)
                  go_wp2_with fail
                  go_quiet (fail)
                  have B5 := below_drewN (k := nq) BD.out
                  go_wp2_with fail
                  exact ⟨⟨(j' + 1) + 1, by omega, by push_cast; rfl, HU, B5⟩, by simp [intOf]; omega⟩
              · obtain rfl : j = cs.length := by omega
                have hc := hce.out
                rw [List.take_length] at hc
                have HC := Lib.hid (show cgB n l[k] = true by
                  rw [← HX.out]
                  have := HST.out
                  unfold cgB
                  simp only [Bool.and_eq_true, decide_eq_true_eq]
                  exact ⟨by omega, by omega, this.2, by omega, hc⟩)
                have HA := Lib.hid (take_snoc_all hlt hall.out HC.out)
                have HD2 := Lib.hid (pair_snoc hlt hdist.out (by rw [← HX.out]; exact HNF.out))
                obtain ⟨g0, g1, g2, g3, g4, g5, gf⟩ := block_cells6 x1
                clear hc hce HC
                go_wp2_with fail
                exact ⟨⟨k + 1, by omega, by push_cast; rfl, HA, HD2, B2⟩, by simp [intOf]; omega⟩
    · obtain rfl : k = l.length := by omega
      have ha := hall.out
      have hd := hdist.out
      rw [List.take_length] at ha hd
      have HA := Lib.hid ha
      have HD := Lib.hid hd
      clear ha hd hall hdist
      go_wp2_with fail
      show Z (.returned (.bool true)) _
      rw [HZ.out]
      exact ⟨true, rfl, fun _ => ⟨HNZ.out, HLN.out, HA.out, HD.out⟩, bel⟩
end Go.Proofs.Ytgmblgpfgdfnaaa
