/- Snaps: the law SnapFinds. Written by wip/tools/gen14q.py. -/
import Derived.Test.YtbdfcgffkonbiaaDoorQSN47
namespace Go.Proofs.YtbdfcgffkonbiaaDoor
open Go Go.RowKit
set_option linter.unusedVariables false
set_option linter.unusedSimpArgs false
set_option maxRecDepth 100000 in
set_option maxHeartbeats 1000000 in
theorem snapfinds_any (v : Value) (L : List Sn) (q : Int) (w : World) (tab : TabAt w) (h : RdK 36 snC w v L) (hrs : RdSn w L) (hsz : SzSn L) :
    Calls Tryd.prog 10 #[v, .int .i64 q] w fun e w' => e = .returned (.bool true) ∧ Below w.heap.size w w' := by
  have HTAB := Lib.hid tab
  have bel := Below.refl w.heap.size w
  have FW := Lib.hid (few14_any v L w h hrs hsz)
  obtain ⟨ao, nn, cap, rfl⟩ : ∃ a n c, v = .slice a n c := by obtain ⟨a, c, e, _⟩ := h; exact ⟨_, _, _, e⟩
  have z0 := zeroS_run
  have z1 := zS_ne
  have hbz := hb_zero
  have hizS := infoS zS_size
  have hozS := zS_one
  clear h hrs hsz tab
  go_enter Tryd.func10, Tryd.ntmps10
  go_wp2_with fail
  refine FW.out.mono ?_
  rintro e w1 ⟨v1, L1, rfl, own, fw, h10, g⟩
  have bel := chain bel g
  obtain ⟨a1, n1, c1, rfl⟩ := own_slice own
  obtain rfl := own_count own
  have RK := Lib.hid (own_rdk snC_len own)
  have RS := Lib.hid fw.rd
  have SZ := Lib.hid fw.sz
  have LN := Lib.hid fw.ln
  have hS := Below.refl w1.heap.size w1
  have BW := Lib.hid bel
  clear own fw g FW bel
  have AT0 := fun W (g : Below w1.heap.size w1 W) => at14_any _ L1 q W (HTAB.out.below (chain BW.out g)) (RK.out.below g (Nat.le_refl _)) (RS.out.below g (Nat.le_refl _)) SZ.out LN.out
  have LA0 := fun W (g : Below w1.heap.size w1 W) => last14_any _ L1 q W (HTAB.out.below (chain BW.out g)) (RK.out.below g (Nat.le_refl _)) (RS.out.below g (Nat.le_refl _)) SZ.out LN.out
  have IS0 := fun W (g : Below w1.heap.size w1 W) => refIs14_any _ L1 W (HTAB.out.below (chain BW.out g)) (RK.out.below g (Nat.le_refl _)) (RS.out.below g (Nat.le_refl _)) SZ.out LN.out
  have IX0 := fun W (g : Below w1.heap.size w1 W) => refAt14_any _ L1 q W (RK.out.below g (Nat.le_refl _)) (by omega)
  have AW := Lib.hid (fun W (g : Below w1.heap.size w1 W) => awake14_any W (HTAB.out.below (chain BW.out g)))
  have SZ0 := Lib.hid same_zS
  unfold AtP at AT0
  unfold LastP at LA0
  cases hi : isSn L1 with
  | false =>
    obtain ⟨x1, x2⟩ := at14_no (q := q) hi
    obtain ⟨y1, y2, y3⟩ := last_no (q := q) hi
    rw [x1, x2] at AT0
    rw [y1, y2, y3] at LA0
    rw [hi] at IS0
    clear IX0 x1 x2 y1 y2 y3 hi
    have AT := Lib.hid AT0
    have LA := Lib.hid LA0
    have IS := Lib.hid IS0
    clear AT0 LA0 IS0
    go_wp2_with fail
    refine (AT.out _ hS).mono ?_
    rintro e w2 ⟨rfl, g⟩
    have hS := chain hS g
    clear g
    have qd5 := heap_alloc_new w2 (.cells zS 28)
    go_wp2_with ((with_reducible refine wpList_store_row (o := ⟨none, _, _, _, _, _⟩) rfl 28 (.tmp 5) (.tmp 20) rfl _ zS rfl rfl _ zS qd5 hizS rfl hozS ?_); (obtain ⟨w3, hWn⟩ : ∃ W, W = (World.alloc w2 (.cells zS 28)).setRow w2.heap.size zS := ⟨_, rfl⟩); rw [← hWn]; (have q5 : w3.heap[w2.heap.size]? = some (.cells zS 28 (0, 0)) := by rw [hWn]; exact setRow_heap _ _ _ zS _ _ qd5); (have gn : Below w2.heap.size w2 w3 := by rw [hWn]; exact below_row ((Below.refl _ _).alloc (Nat.le_refl _) _) (Nat.le_refl _) zS); clear hWn; (have hS := chain hS gn); clear gn)
    refine (LA.out _ hS).mono ?_
    rintro e w4 ⟨rfl, g⟩
    have q5 := (g.block _ (lt_of_block q5)).trans q5
    have hS := chain hS g
    clear g
    have qd8 := heap_alloc_new w4 (.cells zS 28)
    go_wp2_with (first | ((with_reducible refine wpList_store_row (o := ⟨none, _, _, _, _, _⟩) rfl 28 (.tmp 8) (.tmp 27) rfl _ zS rfl rfl _ zS qd8 hizS rfl hozS ?_); (obtain ⟨w5, hWn⟩ : ∃ W, W = (World.alloc w4 (.cells zS 28)).setRow w4.heap.size zS := ⟨_, rfl⟩); rw [← hWn]; (have q8 : w5.heap[w4.heap.size]? = some (.cells zS 28 (0, 0)) := by rw [hWn]; exact setRow_heap _ _ _ zS _ _ qd8); (have gn : Below w4.heap.size w4 w5 := by rw [hWn]; exact below_row ((Below.refl _ _).alloc (Nat.le_refl _) _) (Nat.le_refl _) zS); clear hWn; (have hS := chain hS gn); (have q5 := (gn.block _ (lt_of_block q5)).trans q5); clear gn; (have qd10 := heap_alloc_new w5 (.cells zS 28))) | ((with_reducible refine wpList_store_row (o := ⟨none, _, _, _, _, _⟩) rfl 28 (.tmp 10) (.tmp 29) rfl _ zS rfl rfl _ zS qd10 hizS rfl hozS ?_); (obtain ⟨w6, hWn⟩ : ∃ W, W = (World.alloc w5 (.cells zS 28)).setRow w5.heap.size zS := ⟨_, rfl⟩); rw [← hWn]; (have q10 : w6.heap[w5.heap.size]? = some (.cells zS 28 (0, 0)) := by rw [hWn]; exact setRow_heap _ _ _ zS _ _ qd10); (have gn : Below w5.heap.size w5 w6 := by rw [hWn]; exact below_row ((Below.refl _ _).alloc (Nat.le_refl _) _) (Nat.le_refl _) zS); clear hWn; (have hS := chain hS gn); (have q5 := (gn.block _ (lt_of_block q5)).trans q5); (have q8 := (gn.block _ (lt_of_block q8)).trans q8); clear gn))
    refine (IS.out _ hS).mono ?_
    rintro e w7 ⟨rfl, g⟩
    have q5 := (g.block _ (lt_of_block q5)).trans q5
    have q8 := (g.block _ (lt_of_block q8)).trans q8
    have q10 := (g.block _ (lt_of_block q10)).trans q10
    have hS := chain hS g
    clear g
    go_wp2_with (first | ((with_reducible refine wpList_load_row (o := ⟨some 33, _, _, _, _, _⟩) rfl 28 (.tmp 5) rfl _ rfl _ zS (0, 0) _ q5 Tryd.underlying28 rfl hizS ?_)) | ((with_reducible refine wpList_load_row (o := ⟨some 34, _, _, _, _, _⟩) rfl 28 (.tmp 10) rfl _ rfl _ zS (0, 0) _ q10 Tryd.underlying28 rfl hizS ?_)))
    refine (SZ0.out _).mono ?_
    rintro e w8 ⟨rfl, g⟩
    have q5 := (g.block _ (lt_of_block q5)).trans q5
    have q8 := (g.block _ (lt_of_block q8)).trans q8
    have q10 := (g.block _ (lt_of_block q10)).trans q10
    have hS := chain hS g
    clear g
    go_wp2_with (first | ((with_reducible refine wpList_load_row_g (o := ⟨some 45, _, _, _, _, _⟩) ?_ 28 (.tmp 8) rfl _ rfl _ zS (0, 0) _ q8 Tryd.underlying28 rfl hizS ?_); rfl) | ((with_reducible refine wpList_load_row_g (o := ⟨some 46, _, _, _, _, _⟩) ?_ 28 (.tmp 10) rfl _ rfl _ zS (0, 0) _ q10 Tryd.underlying28 rfl hizS ?_); rfl))
    refine (SZ0.out _).mono ?_
    rintro e w9 ⟨rfl, g⟩
    have q5 := (g.block _ (lt_of_block q5)).trans q5
    have q8 := (g.block _ (lt_of_block q8)).trans q8
    have q10 := (g.block _ (lt_of_block q10)).trans q10
    have hS := chain hS g
    clear g
    go_wp2_with fail
    refine (AW.out _ hS).mono ?_
    rintro e w10 ⟨rfl, g⟩
    have hS := chain hS g
    clear g
    go_wp2_with fail
    go_ret
    exact ⟨rfl, chain BW.out hS⟩
  | true =>
    have SQ := Lib.hid (isSn_srt hi)
    rw [hi] at IS0
    by_cases h0 : leN L1 q = 0
    · obtain ⟨x1, x2, x3⟩ := at14_none hi h0
      obtain ⟨y1, y2, y3⟩ := last_none hi h0
      rw [x1, x2] at AT0
      rw [y1, y2, y3] at LA0
      rw [x3] at IX0
      have IXH := Lib.hid IX0
      have HLE := Lib.hid h0
      clear IX0 x1 x2 x3 y1 y2 y3 hi h0
      have AT := Lib.hid AT0
      have LA := Lib.hid LA0
      have IS := Lib.hid IS0
      clear AT0 LA0 IS0
      go_wp2_with fail
      refine (AT.out _ hS).mono ?_
      rintro e w2 ⟨rfl, g⟩
      have hS := chain hS g
      clear g
      have qd5 := heap_alloc_new w2 (.cells zS 28)
      go_wp2_with ((with_reducible refine wpList_store_row (o := ⟨none, _, _, _, _, _⟩) rfl 28 (.tmp 5) (.tmp 20) rfl _ zS rfl rfl _ zS qd5 hizS rfl hozS ?_); (obtain ⟨w3, hWn⟩ : ∃ W, W = (World.alloc w2 (.cells zS 28)).setRow w2.heap.size zS := ⟨_, rfl⟩); rw [← hWn]; (have q5 : w3.heap[w2.heap.size]? = some (.cells zS 28 (0, 0)) := by rw [hWn]; exact setRow_heap _ _ _ zS _ _ qd5); (have gn : Below w2.heap.size w2 w3 := by rw [hWn]; exact below_row ((Below.refl _ _).alloc (Nat.le_refl _) _) (Nat.le_refl _) zS); clear hWn; (have hS := chain hS gn); clear gn)
      refine (LA.out _ hS).mono ?_
      rintro e w4 ⟨rfl, g⟩
      have q5 := (g.block _ (lt_of_block q5)).trans q5
      have hS := chain hS g
      clear g
      have qd8 := heap_alloc_new w4 (.cells zS 28)
      go_wp2_with (first | ((with_reducible refine wpList_store_row (o := ⟨none, _, _, _, _, _⟩) rfl 28 (.tmp 8) (.tmp 27) rfl _ zS rfl rfl _ zS qd8 hizS rfl hozS ?_); (obtain ⟨w5, hWn⟩ : ∃ W, W = (World.alloc w4 (.cells zS 28)).setRow w4.heap.size zS := ⟨_, rfl⟩); rw [← hWn]; (have q8 : w5.heap[w4.heap.size]? = some (.cells zS 28 (0, 0)) := by rw [hWn]; exact setRow_heap _ _ _ zS _ _ qd8); (have gn : Below w4.heap.size w4 w5 := by rw [hWn]; exact below_row ((Below.refl _ _).alloc (Nat.le_refl _) _) (Nat.le_refl _) zS); clear hWn; (have hS := chain hS gn); (have q5 := (gn.block _ (lt_of_block q5)).trans q5); clear gn; (have qd10 := heap_alloc_new w5 (.cells zS 28))) | ((with_reducible refine wpList_store_row (o := ⟨none, _, _, _, _, _⟩) rfl 28 (.tmp 10) (.tmp 29) rfl _ zS rfl rfl _ zS qd10 hizS rfl hozS ?_); (obtain ⟨w6, hWn⟩ : ∃ W, W = (World.alloc w5 (.cells zS 28)).setRow w5.heap.size zS := ⟨_, rfl⟩); rw [← hWn]; (have q10 : w6.heap[w5.heap.size]? = some (.cells zS 28 (0, 0)) := by rw [hWn]; exact setRow_heap _ _ _ zS _ _ qd10); (have gn : Below w5.heap.size w5 w6 := by rw [hWn]; exact below_row ((Below.refl _ _).alloc (Nat.le_refl _) _) (Nat.le_refl _) zS); clear hWn; (have hS := chain hS gn); (have q5 := (gn.block _ (lt_of_block q5)).trans q5); (have q8 := (gn.block _ (lt_of_block q8)).trans q8); clear gn))
      refine (IS.out _ hS).mono ?_
      rintro e w7 ⟨rfl, g⟩
      have q5 := (g.block _ (lt_of_block q5)).trans q5
      have q8 := (g.block _ (lt_of_block q8)).trans q8
      have q10 := (g.block _ (lt_of_block q10)).trans q10
      have hS := chain hS g
      clear g
      go_wp2_with fail
      refine (IXH.out _ hS).mono ?_
      rintro e w8 ⟨rfl, rfl⟩
      go_wp2_with (first | ((with_reducible refine wpList_load_row (o := ⟨some 61, _, _, _, _, _⟩) rfl 28 (.tmp 5) rfl _ rfl _ zS (0, 0) _ q5 Tryd.underlying28 rfl hizS ?_)) | ((with_reducible refine wpList_load_row (o := ⟨some 62, _, _, _, _, _⟩) rfl 28 (.tmp 10) rfl _ rfl _ zS (0, 0) _ q10 Tryd.underlying28 rfl hizS ?_)))
      refine (SZ0.out _).mono ?_
      rintro e w8 ⟨rfl, g⟩
      have q5 := (g.block _ (lt_of_block q5)).trans q5
      have q8 := (g.block _ (lt_of_block q8)).trans q8
      have q10 := (g.block _ (lt_of_block q10)).trans q10
      have hS := chain hS g
      clear g
      go_wp2_with fail
      go_loopw [12, 13] (fun z i wr => ∃ (k : Nat) (y9 : Int), k ≤ L1.length ∧ i = .int .i64 (k : Int) ∧ z = .int .i64 y9 ∧ Hid (y9 = ((min k (leN L1 q) : Nat) : Int) - 1) ∧ wr = w8) (fun _ i _ => 200 - (intOf i).toNat)
      case atStart => exact ⟨0, -1, Nat.zero_le _, rfl, rfl, Lib.hid (by simp), rfl⟩
      case round =>
        obtain ⟨k, y9, hk, rfl, rfl, HY9, rfl⟩ := hrel
        by_cases hlt : k < L1.length
        · obtain ⟨b, off, rfl, hb, hcx0⟩ := RdK.cell snC_len (RK.out.below hS (Nat.le_refl _)) k hlt
          obtain ⟨x, hx⟩ : ∃ x, x = L1[k]'hlt := ⟨_, rfl⟩
          rw [← hx] at hcx0
          have cq := sn_q (show ∀ i, i < 36 → wr.cell? ⟨b, off + k * 36 + i, none⟩ = (snC x)[i]? from fun i hi => by rw [Nat.add_assoc]; exact hcx0 i hi)
          have LI := le_iff (q := q) SQ.out hlt
          rw [← hx] at LI
          have HLI := Lib.hid LI
          clear hcx0 hx LI
          by_cases hq : x.q ≤ q
          · have t1 : decide (x.q ≤ q) = true := decide_eq_true hq
            have HN := Lib.hid (show (k : Int) = ((min (k + 1) (leN L1 q) : Nat) : Int) - 1 by have := HLI.out.2 hq; omega)
            clear hq
            go_wp2_with fail
            exact ⟨⟨k + 1, (k : Int), by omega, by push_cast; rfl, rfl, HN, trivial⟩, by simp [intOf]; omega⟩
          · have t1 : decide (x.q ≤ q) = false := decide_eq_false hq
            have HN := Lib.hid (show y9 = ((min (k + 1) (leN L1 q) : Nat) : Int) - 1 by
              have h1 := HY9.out
              by_cases hk9 : k < leN L1 q
              · exact absurd (HLI.out.1 hk9) hq
              · omega)
            clear hq
            go_wp2_with fail
            exact ⟨⟨k + 1, y9, by omega, by push_cast; rfl, rfl, HN, trivial⟩, by simp [intOf]; omega⟩
        · obtain rfl : k = L1.length := by omega
          have hy9 := HY9.out
          have hll := leN_le L1 q
          obtain rfl : y9 = -1 := by rw [HLE.out] at hy9; omega
          clear hy9 hll
          go_wp2_with (first | ((with_reducible refine wpList_load_row_g (o := ⟨some 100, _, _, _, _, _⟩) ?_ 28 (.tmp 8) rfl _ rfl _ zS (0, 0) _ q8 Tryd.underlying28 rfl hizS ?_); rfl) | ((with_reducible refine wpList_load_row_g (o := ⟨some 101, _, _, _, _, _⟩) ?_ 28 (.tmp 10) rfl _ rfl _ zS (0, 0) _ q10 Tryd.underlying28 rfl hizS ?_); rfl))
          refine (SZ0.out _).mono ?_
          rintro e w9 ⟨rfl, g⟩
          have q5 := (g.block _ (lt_of_block q5)).trans q5
          have q8 := (g.block _ (lt_of_block q8)).trans q8
          have q10 := (g.block _ (lt_of_block q10)).trans q10
          have hS := chain hS g
          clear g
          go_wp2_with fail
          refine (AW.out _ hS).mono ?_
          rintro e w10 ⟨rfl, g⟩
          have hS := chain hS g
          clear g
          go_wp2_with fail
          go_ret
          exact ⟨rfl, chain BW.out hS⟩
    · obtain ⟨m, hm1⟩ : ∃ m, leN L1 q = m + 1 := ⟨leN L1 q - 1, by omega⟩
      have hm : m < L1.length := by have := leN_le L1 q; omega
      obtain ⟨y1, y2, y3⟩ := last_at hi hm hm1
      obtain ⟨x, hx⟩ : ∃ x, x = L1[m]'hm := ⟨_, rfl⟩
      obtain ⟨D, hD⟩ : ∃ D, D = snA x := ⟨_, rfl⟩
      have hsD : D.size = 35 := by rw [hD]; exact snA_size _
      have hiD := infoS hsD
      have hzD : zS.size = D.size := by rw [hsD]; rfl
      have hoD : D.all (·.oneCell') = true := by rw [hD]; exact snA_one _
      have HX := Lib.hid hx
      have HDX := Lib.hid hD
      have hxm : x ∈ L1 := by rw [hx]; exact List.getElem_mem _
      have SM := Lib.hid (fun W (g : Below w1.heap.size w1 W) => same13_yes (snA x) (snA x) x.s W ((RS.out x hxm).below g (Nat.le_refl _)) ((RS.out x hxm).below g (Nat.le_refl _)) (LN.out x hxm))
      rw [y1, y2, y3, ← hx, ← hD] at LA0
      have HLE := Lib.hid hm1
      by_cases hq : L1[m].q = q
      · obtain ⟨x1, x2, x3⟩ := at14_eq hi hm hm1 hq
        rw [x1, x2, ← hx, ← hD] at AT0
        rw [x3] at IX0
        have IXH := Lib.hid IX0
        have d0 : decide ((m : Int) < 0) = false := decide_eq_false (by omega)
        have f5 : (m : Int) < L1.length := by omega
        have f6 : IntKind.i64.wrap (m : Int) = (m : Int) := by rw [IntKind.wrap_i64]; omega
        clear IX0 x1 x2 x3 y1 y2 y3 hi hq hm1 h0 hx hD hsD
        have AT := Lib.hid AT0
        have LA := Lib.hid LA0
        have IS := Lib.hid IS0
        clear AT0 LA0 IS0
        go_wp2_with fail
        refine (AT.out _ hS).mono ?_
        rintro e w2 ⟨rfl, g⟩
        have hS := chain hS g
        clear g
        have qd5 := heap_alloc_new w2 (.cells zS 28)
        go_wp2_with ((with_reducible refine wpList_store_row (o := ⟨none, _, _, _, _, _⟩) rfl 28 (.tmp 5) (.tmp 20) rfl _ D rfl rfl _ zS qd5 hiD hzD hoD ?_); (obtain ⟨w3, hWn⟩ : ∃ W, W = (World.alloc w2 (.cells zS 28)).setRow w2.heap.size D := ⟨_, rfl⟩); rw [← hWn]; (have q5 : w3.heap[w2.heap.size]? = some (.cells D 28 (0, 0)) := by rw [hWn]; exact setRow_heap _ _ _ D _ _ qd5); (have gn : Below w2.heap.size w2 w3 := by rw [hWn]; exact below_row ((Below.refl _ _).alloc (Nat.le_refl _) _) (Nat.le_refl _) D); clear hWn; (have hS := chain hS gn); clear gn)
        refine (LA.out _ hS).mono ?_
        rintro e w4 ⟨rfl, g⟩
        have q5 := (g.block _ (lt_of_block q5)).trans q5
        have hS := chain hS g
        clear g
        have qd8 := heap_alloc_new w4 (.cells zS 28)
        go_wp2_with (first | ((with_reducible refine wpList_store_row (o := ⟨none, _, _, _, _, _⟩) rfl 28 (.tmp 8) (.tmp 27) rfl _ D rfl rfl _ zS qd8 hiD hzD hoD ?_); (obtain ⟨w5, hWn⟩ : ∃ W, W = (World.alloc w4 (.cells zS 28)).setRow w4.heap.size D := ⟨_, rfl⟩); rw [← hWn]; (have q8 : w5.heap[w4.heap.size]? = some (.cells D 28 (0, 0)) := by rw [hWn]; exact setRow_heap _ _ _ D _ _ qd8); (have gn : Below w4.heap.size w4 w5 := by rw [hWn]; exact below_row ((Below.refl _ _).alloc (Nat.le_refl _) _) (Nat.le_refl _) D); clear hWn; (have hS := chain hS gn); (have q5 := (gn.block _ (lt_of_block q5)).trans q5); clear gn; (have qd10 := heap_alloc_new w5 (.cells zS 28))) | ((with_reducible refine wpList_store_row (o := ⟨none, _, _, _, _, _⟩) rfl 28 (.tmp 10) (.tmp 29) rfl _ zS rfl rfl _ zS qd10 hizS rfl hozS ?_); (obtain ⟨w6, hWn⟩ : ∃ W, W = (World.alloc w5 (.cells zS 28)).setRow w5.heap.size zS := ⟨_, rfl⟩); rw [← hWn]; (have q10 : w6.heap[w5.heap.size]? = some (.cells zS 28 (0, 0)) := by rw [hWn]; exact setRow_heap _ _ _ zS _ _ qd10); (have gn : Below w5.heap.size w5 w6 := by rw [hWn]; exact below_row ((Below.refl _ _).alloc (Nat.le_refl _) _) (Nat.le_refl _) zS); clear hWn; (have hS := chain hS gn); (have q5 := (gn.block _ (lt_of_block q5)).trans q5); (have q8 := (gn.block _ (lt_of_block q8)).trans q8); clear gn))
        refine (IS.out _ hS).mono ?_
        rintro e w7 ⟨rfl, g⟩
        have q5 := (g.block _ (lt_of_block q5)).trans q5
        have q8 := (g.block _ (lt_of_block q8)).trans q8
        have q10 := (g.block _ (lt_of_block q10)).trans q10
        have hS := chain hS g
        clear g
        go_wp2_with fail
        refine (IXH.out _ hS).mono ?_
        rintro e w8 ⟨rfl, rfl⟩
        obtain ⟨b, off, rfl, hb, hcm0⟩ := RdK.cell snC_len (RK.out.below hS (Nat.le_refl _)) m hm
        rw [← HX.out] at hcm0
        have hcm : ∀ i, i < 36 → w7.cell? ⟨b, off + m * 36 + i, none⟩ = (snC x)[i]? := fun i hi => by rw [Nat.add_assoc]; exact hcm0 i hi
        clear hcm0
        go_wp2_with fail
        refine g_start (by kernel_rfl) ?_
        refine g_take (i := 0) (d := (some 69)) (v := ?_) rfl rfl (by kernel_rfl) (fun _ _ _ h => h) (by rfl) (fun w' hb' => ?_) ?_
        rotate_left
        · (refine load_row_op _ _ (.tmp 5) ?_ ?_ ((hb'.block _ (lt_of_block q5)).trans q5) Tryd.underlying28 ?_ hiD <;> rfl); (try go_simp); (try with_reducible rfl)
        try simp only [Act.put, List.setIfInBounds_toArray, List.set_cons_zero, List.set_cons_succ]
        refine g_take (i := 1) (d := (some 70)) (v := ?_) rfl rfl (by kernel_rfl) (fun _ _ _ h => h) (by rfl) (fun w' hb' => ?_) ?_
        rotate_left
        · (try go_simp); (try with_reducible rfl)
        try simp only [Act.put, List.setIfInBounds_toArray, List.set_cons_zero, List.set_cons_succ]
        refine g_take (i := 2) (d := (some 71)) (v := ?_) rfl rfl (by kernel_rfl) (fun _ _ _ h => h) (by rfl) (fun w' hb' => ?_) ?_
        rotate_left
        · (try go_simp); (try with_reducible rfl)
        try simp only [Act.put, List.setIfInBounds_toArray, List.set_cons_zero, List.set_cons_succ]
        refine g_take (i := 3) (d := (some 72)) (v := ?_) rfl rfl (by kernel_rfl) (fun _ _ _ h => h) (by rfl) (fun w' hb' => ?_) ?_
        rotate_left
        · (try go_simp); (try with_reducible rfl)
        try simp only [Act.put, List.setIfInBounds_toArray, List.set_cons_zero, List.set_cons_succ]
        refine g_take (i := 4) (d := (some 73)) (v := ?_) rfl rfl (by kernel_rfl) (fun _ _ _ h => h) (by rfl) (fun w' hb' => ?_) ?_
        rotate_left
        · (try go_simp); (try with_reducible rfl)
        try simp only [Act.put, List.setIfInBounds_toArray, List.set_cons_zero, List.set_cons_succ]
        refine g_take (i := 5) (d := (some 74)) (v := ?_) rfl rfl (by kernel_rfl) (fun _ _ _ h => h) (by rfl) (fun w' hb' => ?_) ?_
        rotate_left
        · (refine load_partO_op _ _ (.tmp 73) ?_ ?_ (sn_store (fun i hi => (hb'.cell (p := ⟨b, off + m * 36 + i, none⟩) hb).trans (hcm i hi))) Tryd.underlying28 ?_ (infoSA x) <;> rfl); (try go_simp); (try with_reducible rfl)
        try simp only [Act.put, List.setIfInBounds_toArray, List.set_cons_zero, List.set_cons_succ]
        refine g_run (i := 6) rfl (by kernel_rfl) (by rfl) (fun K hK => ?_)
        rw [HDX.out]; go_simp; refine (SM.out _ (Below.drew hS)).mono ?_; rintro e w8 ⟨rfl, gg⟩; have q8 := (gg.block _ (lt_of_block q8)).trans q8; have hS := chain (Below.drew hS) gg; refine hK _ _ ⟨gg, ?_⟩; clear hK K gg
        try simp only [Act.put, List.setIfInBounds_toArray, List.set_cons_zero, List.set_cons_succ]
        refine g_take (i := 7) (d := (some 76)) (v := ?_) rfl rfl (by kernel_rfl) (fun _ _ _ h => h) (by rfl) (fun w' hb' => ?_) ?_
        rotate_left
        · (try go_simp); (try with_reducible rfl)
        try simp only [Act.put, List.setIfInBounds_toArray, List.set_cons_zero, List.set_cons_succ]
        refine g_take (i := 8) (d := (some 77)) (v := ?_) rfl rfl (by kernel_rfl) (fun _ _ _ h => h) (by rfl) (fun w' hb' => ?_) ?_
        rotate_left
        · (try go_simp); (try with_reducible rfl)
        try simp only [Act.put, List.setIfInBounds_toArray, List.set_cons_zero, List.set_cons_succ]
        refine g_take (i := 9) (d := (some 78)) (v := ?_) rfl rfl (by kernel_rfl) (fun _ _ _ h => h) (by rfl) (fun w' hb' => ?_) ?_
        rotate_left
        · (try go_simp); (try with_reducible rfl)
        try simp only [Act.put, List.setIfInBounds_toArray, List.set_cons_zero, List.set_cons_succ]
        refine g_take (i := 10) (d := (some 79)) (v := ?_) rfl rfl (by kernel_rfl) (fun _ _ _ h => h) (by rfl) (fun w' hb' => ?_) ?_
        rotate_left
        · (try go_simp); (try with_reducible rfl)
        try simp only [Act.put, List.setIfInBounds_toArray, List.set_cons_zero, List.set_cons_succ]
        refine g_take (i := 11) (d := (some 80)) (v := ?_) rfl rfl (by kernel_rfl) (fun _ _ _ h => h) (by rfl) (fun w' hb' => ?_) ?_
        rotate_left
        · (try go_simp); (try with_reducible rfl)
        try simp only [Act.put, List.setIfInBounds_toArray, List.set_cons_zero, List.set_cons_succ]
        refine g_done (by kernel_rfl) ?_
        clear hcm hb
        go_wp2_with fail
        go_loopw [12, 13] (fun z i wr => ∃ (k : Nat) (y9 : Int), k ≤ L1.length ∧ i = .int .i64 (k : Int) ∧ z = .int .i64 y9 ∧ Hid (y9 = ((min k (leN L1 q) : Nat) : Int) - 1) ∧ wr = w8) (fun _ i _ => 200 - (intOf i).toNat)
        case atStart => exact ⟨0, -1, Nat.zero_le _, rfl, rfl, Lib.hid (by simp), rfl⟩
        case round =>
          obtain ⟨k, y9, hk, rfl, rfl, HY9, rfl⟩ := hrel
          by_cases hlt : k < L1.length
          · obtain ⟨b4, off4, hbo, hb, hcx0⟩ := RdK.cell snC_len (RK.out.below hS (Nat.le_refl _)) k hlt
            cases hbo
            obtain ⟨x, hx⟩ : ∃ x, x = L1[k]'hlt := ⟨_, rfl⟩
            rw [← hx] at hcx0
            have cq := sn_q (show ∀ i, i < 36 → wr.cell? ⟨b, off + k * 36 + i, none⟩ = (snC x)[i]? from fun i hi => by rw [Nat.add_assoc]; exact hcx0 i hi)
            have LI := le_iff (q := q) SQ.out hlt
            rw [← hx] at LI
            have HLI := Lib.hid LI
            clear hcx0 hx LI
            by_cases hq : x.q ≤ q
            · have t1 : decide (x.q ≤ q) = true := decide_eq_true hq
              have HN := Lib.hid (show (k : Int) = ((min (k + 1) (leN L1 q) : Nat) : Int) - 1 by have := HLI.out.2 hq; omega)
              clear hq
              go_wp2_with fail
              exact ⟨⟨k + 1, (k : Int), by omega, by push_cast; rfl, rfl, HN, trivial⟩, by simp [intOf]; omega⟩
            · have t1 : decide (x.q ≤ q) = false := decide_eq_false hq
              have HN := Lib.hid (show y9 = ((min (k + 1) (leN L1 q) : Nat) : Int) - 1 by
                have h1 := HY9.out
                by_cases hk9 : k < leN L1 q
                · exact absurd (HLI.out.1 hk9) hq
                · omega)
              clear hq
              go_wp2_with fail
              exact ⟨⟨k + 1, y9, by omega, by push_cast; rfl, rfl, HN, trivial⟩, by simp [intOf]; omega⟩
          · obtain rfl : k = L1.length := by omega
            have hy9 := HY9.out
            have hll := leN_le L1 q
            obtain rfl : y9 = (m : Int) := by rw [HLE.out] at hy9; omega
            clear hy9 hll
            obtain ⟨b3, off3, hbo, hb, hcm0⟩ := RdK.cell snC_len (RK.out.below hS (Nat.le_refl _)) m hm
            cases hbo
            rw [← HX.out] at hcm0
            have hcm : ∀ i, i < 36 → wr.cell? ⟨b, off + m * 36 + i, none⟩ = (snC x)[i]? := fun i hi => by rw [Nat.add_assoc]; exact hcm0 i hi
            have qm := sn_q hcm
            clear hcm0
            go_wp2_with fail
            refine g_start (by kernel_rfl) ?_
            refine g_take (i := 0) (d := (some 111)) (v := ?_) rfl rfl (by kernel_rfl) (fun _ _ _ h => h) (by rfl) (fun w' hb' => ?_) ?_
            rotate_left
            · (try go_simp); (try with_reducible rfl)
            try simp only [Act.put, List.setIfInBounds_toArray, List.set_cons_zero, List.set_cons_succ]
            refine g_take (i := 1) (d := (some 112)) (v := ?_) rfl rfl (by kernel_rfl) (fun _ _ _ h => h) (by rfl) (fun w' hb' => ?_) ?_
            rotate_left
            · (try go_simp); (try with_reducible rfl)
            try simp only [Act.put, List.setIfInBounds_toArray, List.set_cons_zero, List.set_cons_succ]
            refine g_take (i := 2) (d := (some 113)) (v := ?_) rfl rfl (by kernel_rfl) (fun _ _ _ h => h) (by rfl) (fun w' hb' => ?_) ?_
            rotate_left
            · (try go_simp); (try with_reducible rfl)
            try simp only [Act.put, List.setIfInBounds_toArray, List.set_cons_zero, List.set_cons_succ]
            refine g_take (i := 3) (d := (some 114)) (v := ?_) rfl rfl (by kernel_rfl) (fun _ _ _ h => h) (by rfl) (fun w' hb' => ?_) ?_
            rotate_left
            · (try go_simp); (try with_reducible rfl)
            try simp only [Act.put, List.setIfInBounds_toArray, List.set_cons_zero, List.set_cons_succ]
            refine g_take (i := 4) (d := (some 115)) (v := ?_) rfl rfl (by kernel_rfl) (fun _ _ _ h => h) (by rfl) (fun w' hb' => ?_) ?_
            rotate_left
            · (try go_simp); (try with_reducible rfl)
            try simp only [Act.put, List.setIfInBounds_toArray, List.set_cons_zero, List.set_cons_succ]
            refine g_take (i := 5) (d := (some 116)) (v := ?_) rfl rfl (by kernel_rfl) (fun _ _ _ h => h) (by rfl) (fun w' hb' => ?_) ?_
            rotate_left
            · have zz := (hb'.cell (p := ⟨b, off + m * 36, none⟩) hb).trans qm; (try go_simp); (try with_reducible rfl)
            try simp only [Act.put, List.setIfInBounds_toArray, List.set_cons_zero, List.set_cons_succ]
            refine g_take (i := 6) (d := (some 117)) (v := ?_) rfl rfl (by kernel_rfl) (fun _ _ _ h => h) (by rfl) (fun w' hb' => ?_) ?_
            rotate_left
            · (try go_simp); (try with_reducible rfl)
            try simp only [Act.put, List.setIfInBounds_toArray, List.set_cons_zero, List.set_cons_succ]
            refine g_take (i := 7) (d := (some 118)) (v := ?_) rfl rfl (by kernel_rfl) (fun _ _ _ h => h) (by rfl) (fun w' hb' => ?_) ?_
            rotate_left
            · (try go_simp); (try with_reducible rfl)
            try simp only [Act.put, List.setIfInBounds_toArray, List.set_cons_zero, List.set_cons_succ]
            refine g_take (i := 8) (d := (some 119)) (v := ?_) rfl rfl (by kernel_rfl) (fun _ _ _ h => h) (by rfl) (fun w' hb' => ?_) ?_
            rotate_left
            · (refine load_row_op _ _ (.tmp 8) ?_ ?_ ((hb'.block _ (lt_of_block q8)).trans q8) Tryd.underlying28 ?_ hiD <;> rfl); (try go_simp); (try with_reducible rfl)
            try simp only [Act.put, List.setIfInBounds_toArray, List.set_cons_zero, List.set_cons_succ]
            refine g_take (i := 9) (d := (some 120)) (v := ?_) rfl rfl (by kernel_rfl) (fun _ _ _ h => h) (by rfl) (fun w' hb' => ?_) ?_
            rotate_left
            · (try go_simp); (try with_reducible rfl)
            try simp only [Act.put, List.setIfInBounds_toArray, List.set_cons_zero, List.set_cons_succ]
            refine g_take (i := 10) (d := (some 121)) (v := ?_) rfl rfl (by kernel_rfl) (fun _ _ _ h => h) (by rfl) (fun w' hb' => ?_) ?_
            rotate_left
            · (try go_simp); (try with_reducible rfl)
            try simp only [Act.put, List.setIfInBounds_toArray, List.set_cons_zero, List.set_cons_succ]
            refine g_take (i := 11) (d := (some 122)) (v := ?_) rfl rfl (by kernel_rfl) (fun _ _ _ h => h) (by rfl) (fun w' hb' => ?_) ?_
            rotate_left
            · (try go_simp); (try with_reducible rfl)
            try simp only [Act.put, List.setIfInBounds_toArray, List.set_cons_zero, List.set_cons_succ]
            refine g_take (i := 12) (d := (some 123)) (v := ?_) rfl rfl (by kernel_rfl) (fun _ _ _ h => h) (by rfl) (fun w' hb' => ?_) ?_
            rotate_left
            · (try go_simp); (try with_reducible rfl)
            try simp only [Act.put, List.setIfInBounds_toArray, List.set_cons_zero, List.set_cons_succ]
            refine g_take (i := 13) (d := (some 124)) (v := ?_) rfl rfl (by kernel_rfl) (fun _ _ _ h => h) (by rfl) (fun w' hb' => ?_) ?_
            rotate_left
            · (refine load_partO_op _ _ (.tmp 123) ?_ ?_ (sn_store (fun i hi => (hb'.cell (p := ⟨b, off + m * 36 + i, none⟩) hb).trans (hcm i hi))) Tryd.underlying28 ?_ (infoSA x) <;> rfl); (try go_simp); (try with_reducible rfl)
            try simp only [Act.put, List.setIfInBounds_toArray, List.set_cons_zero, List.set_cons_succ]
            refine g_run (i := 14) rfl (by kernel_rfl) (by rfl) (fun K hK => ?_)
            rw [HDX.out]; go_simp; refine (SM.out _ (Below.drew hS)).mono ?_; rintro e u1 ⟨rfl, gg⟩; have hS := chain (Below.drew hS) gg; refine hK _ _ ⟨gg, ?_⟩; clear hK K gg
            try simp only [Act.put, List.setIfInBounds_toArray, List.set_cons_zero, List.set_cons_succ]
            refine g_take (i := 15) (d := (some 126)) (v := ?_) rfl rfl (by kernel_rfl) (fun _ _ _ h => h) (by rfl) (fun w' hb' => ?_) ?_
            rotate_left
            · (try go_simp); (try with_reducible rfl)
            try simp only [Act.put, List.setIfInBounds_toArray, List.set_cons_zero, List.set_cons_succ]
            refine g_take (i := 16) (d := (some 127)) (v := ?_) rfl rfl (by kernel_rfl) (fun _ _ _ h => h) (by rfl) (fun w' hb' => ?_) ?_
            rotate_left
            · (try go_simp); (try with_reducible rfl)
            try simp only [Act.put, List.setIfInBounds_toArray, List.set_cons_zero, List.set_cons_succ]
            refine g_take (i := 17) (d := (some 128)) (v := ?_) rfl rfl (by kernel_rfl) (fun _ _ _ h => h) (by rfl) (fun w' hb' => ?_) ?_
            rotate_left
            · (try go_simp); (try with_reducible rfl)
            try simp only [Act.put, List.setIfInBounds_toArray, List.set_cons_zero, List.set_cons_succ]
            refine g_take (i := 18) (d := (some 129)) (v := ?_) rfl rfl (by kernel_rfl) (fun _ _ _ h => h) (by rfl) (fun w' hb' => ?_) ?_
            rotate_left
            · (try go_simp); (try with_reducible rfl)
            try simp only [Act.put, List.setIfInBounds_toArray, List.set_cons_zero, List.set_cons_succ]
            refine g_take (i := 19) (d := (some 130)) (v := ?_) rfl rfl (by kernel_rfl) (fun _ _ _ h => h) (by rfl) (fun w' hb' => ?_) ?_
            rotate_left
            · (try go_simp); (try with_reducible rfl)
            try simp only [Act.put, List.setIfInBounds_toArray, List.set_cons_zero, List.set_cons_succ]
            refine g_take (i := 20) (d := (some 131)) (v := ?_) rfl rfl (by kernel_rfl) (fun _ _ _ h => h) (by rfl) (fun w' hb' => ?_) ?_
            rotate_left
            · (try go_simp); (try with_reducible rfl)
            try simp only [Act.put, List.setIfInBounds_toArray, List.set_cons_zero, List.set_cons_succ]
            refine g_run (i := 21) rfl (by kernel_rfl) (by rfl) (fun K hK => ?_)
            go_simp; refine (AW.out _ hS).mono ?_; rintro e u2 ⟨rfl, gg⟩; have hS := chain hS gg; refine hK _ _ ⟨gg, ?_⟩; clear hK K gg
            try simp only [Act.put, List.setIfInBounds_toArray, List.set_cons_zero, List.set_cons_succ]
            refine g_take (i := 22) (d := (some 133)) (v := ?_) rfl rfl (by kernel_rfl) (fun _ _ _ h => h) (by rfl) (fun w' hb' => ?_) ?_
            rotate_left
            · (try go_simp); (try with_reducible rfl)
            try simp only [Act.put, List.setIfInBounds_toArray, List.set_cons_zero, List.set_cons_succ]
            refine g_take (i := 23) (d := (some 4)) (v := ?_) rfl rfl (by kernel_rfl) (fun _ _ _ h => h) (by rfl) (fun w' hb' => ?_) ?_
            rotate_left
            · (try go_simp); (try with_reducible rfl)
            try simp only [Act.put, List.setIfInBounds_toArray, List.set_cons_zero, List.set_cons_succ]
            refine g_done (by kernel_rfl) ?_
            go_wp2_with fail
            go_ret
            exact ⟨rfl, chain BW.out hS⟩
      · obtain ⟨x1, x2, x3⟩ := at14_ne hi hm hm1 hq
        rw [x1, x2] at AT0
        rw [x3] at IX0
        have IXH := Lib.hid IX0
        clear IX0 x1 x2 x3 y1 y2 y3 hi hq hm1 h0 hx hD hsD
        have AT := Lib.hid AT0
        have LA := Lib.hid LA0
        have IS := Lib.hid IS0
        clear AT0 LA0 IS0
        go_wp2_with fail
        refine (AT.out _ hS).mono ?_
        rintro e w2 ⟨rfl, g⟩
        have hS := chain hS g
        clear g
        have qd5 := heap_alloc_new w2 (.cells zS 28)
        go_wp2_with ((with_reducible refine wpList_store_row (o := ⟨none, _, _, _, _, _⟩) rfl 28 (.tmp 5) (.tmp 20) rfl _ zS rfl rfl _ zS qd5 hizS rfl hozS ?_); (obtain ⟨w3, hWn⟩ : ∃ W, W = (World.alloc w2 (.cells zS 28)).setRow w2.heap.size zS := ⟨_, rfl⟩); rw [← hWn]; (have q5 : w3.heap[w2.heap.size]? = some (.cells zS 28 (0, 0)) := by rw [hWn]; exact setRow_heap _ _ _ zS _ _ qd5); (have gn : Below w2.heap.size w2 w3 := by rw [hWn]; exact below_row ((Below.refl _ _).alloc (Nat.le_refl _) _) (Nat.le_refl _) zS); clear hWn; (have hS := chain hS gn); clear gn)
        refine (LA.out _ hS).mono ?_
        rintro e w4 ⟨rfl, g⟩
        have q5 := (g.block _ (lt_of_block q5)).trans q5
        have hS := chain hS g
        clear g
        have qd8 := heap_alloc_new w4 (.cells zS 28)
        go_wp2_with (first | ((with_reducible refine wpList_store_row (o := ⟨none, _, _, _, _, _⟩) rfl 28 (.tmp 8) (.tmp 27) rfl _ D rfl rfl _ zS qd8 hiD hzD hoD ?_); (obtain ⟨w5, hWn⟩ : ∃ W, W = (World.alloc w4 (.cells zS 28)).setRow w4.heap.size D := ⟨_, rfl⟩); rw [← hWn]; (have q8 : w5.heap[w4.heap.size]? = some (.cells D 28 (0, 0)) := by rw [hWn]; exact setRow_heap _ _ _ D _ _ qd8); (have gn : Below w4.heap.size w4 w5 := by rw [hWn]; exact below_row ((Below.refl _ _).alloc (Nat.le_refl _) _) (Nat.le_refl _) D); clear hWn; (have hS := chain hS gn); (have q5 := (gn.block _ (lt_of_block q5)).trans q5); clear gn; (have qd10 := heap_alloc_new w5 (.cells zS 28))) | ((with_reducible refine wpList_store_row (o := ⟨none, _, _, _, _, _⟩) rfl 28 (.tmp 10) (.tmp 29) rfl _ zS rfl rfl _ zS qd10 hizS rfl hozS ?_); (obtain ⟨w6, hWn⟩ : ∃ W, W = (World.alloc w5 (.cells zS 28)).setRow w5.heap.size zS := ⟨_, rfl⟩); rw [← hWn]; (have q10 : w6.heap[w5.heap.size]? = some (.cells zS 28 (0, 0)) := by rw [hWn]; exact setRow_heap _ _ _ zS _ _ qd10); (have gn : Below w5.heap.size w5 w6 := by rw [hWn]; exact below_row ((Below.refl _ _).alloc (Nat.le_refl _) _) (Nat.le_refl _) zS); clear hWn; (have hS := chain hS gn); (have q5 := (gn.block _ (lt_of_block q5)).trans q5); (have q8 := (gn.block _ (lt_of_block q8)).trans q8); clear gn))
        refine (IS.out _ hS).mono ?_
        rintro e w7 ⟨rfl, g⟩
        have q5 := (g.block _ (lt_of_block q5)).trans q5
        have q8 := (g.block _ (lt_of_block q8)).trans q8
        have q10 := (g.block _ (lt_of_block q10)).trans q10
        have hS := chain hS g
        clear g
        go_wp2_with fail
        refine (IXH.out _ hS).mono ?_
        rintro e w8 ⟨rfl, rfl⟩
        go_wp2_with (first | ((with_reducible refine wpList_load_row (o := ⟨some 61, _, _, _, _, _⟩) rfl 28 (.tmp 5) rfl _ rfl _ zS (0, 0) _ q5 Tryd.underlying28 rfl hizS ?_)) | ((with_reducible refine wpList_load_row (o := ⟨some 62, _, _, _, _, _⟩) rfl 28 (.tmp 10) rfl _ rfl _ zS (0, 0) _ q10 Tryd.underlying28 rfl hizS ?_)))
        refine (SZ0.out _).mono ?_
        rintro e w8 ⟨rfl, g⟩
        have q5 := (g.block _ (lt_of_block q5)).trans q5
        have q8 := (g.block _ (lt_of_block q8)).trans q8
        have q10 := (g.block _ (lt_of_block q10)).trans q10
        have hS := chain hS g
        clear g
        go_wp2_with fail
        go_loopw [12, 13] (fun z i wr => ∃ (k : Nat) (y9 : Int), k ≤ L1.length ∧ i = .int .i64 (k : Int) ∧ z = .int .i64 y9 ∧ Hid (y9 = ((min k (leN L1 q) : Nat) : Int) - 1) ∧ wr = w8) (fun _ i _ => 200 - (intOf i).toNat)
        case atStart => exact ⟨0, -1, Nat.zero_le _, rfl, rfl, Lib.hid (by simp), rfl⟩
        case round =>
          obtain ⟨k, y9, hk, rfl, rfl, HY9, rfl⟩ := hrel
          by_cases hlt : k < L1.length
          · obtain ⟨b, off, rfl, hb, hcx0⟩ := RdK.cell snC_len (RK.out.below hS (Nat.le_refl _)) k hlt
            obtain ⟨x, hx⟩ : ∃ x, x = L1[k]'hlt := ⟨_, rfl⟩
            rw [← hx] at hcx0
            have cq := sn_q (show ∀ i, i < 36 → wr.cell? ⟨b, off + k * 36 + i, none⟩ = (snC x)[i]? from fun i hi => by rw [Nat.add_assoc]; exact hcx0 i hi)
            have LI := le_iff (q := q) SQ.out hlt
            rw [← hx] at LI
            have HLI := Lib.hid LI
            clear hcx0 hx LI
            by_cases hq : x.q ≤ q
            · have t1 : decide (x.q ≤ q) = true := decide_eq_true hq
              have HN := Lib.hid (show (k : Int) = ((min (k + 1) (leN L1 q) : Nat) : Int) - 1 by have := HLI.out.2 hq; omega)
              clear hq
              go_wp2_with fail
              exact ⟨⟨k + 1, (k : Int), by omega, by push_cast; rfl, rfl, HN, trivial⟩, by simp [intOf]; omega⟩
            · have t1 : decide (x.q ≤ q) = false := decide_eq_false hq
              have HN := Lib.hid (show y9 = ((min (k + 1) (leN L1 q) : Nat) : Int) - 1 by
                have h1 := HY9.out
                by_cases hk9 : k < leN L1 q
                · exact absurd (HLI.out.1 hk9) hq
                · omega)
              clear hq
              go_wp2_with fail
              exact ⟨⟨k + 1, y9, by omega, by push_cast; rfl, rfl, HN, trivial⟩, by simp [intOf]; omega⟩
          · obtain rfl : k = L1.length := by omega
            have hy9 := HY9.out
            have hll := leN_le L1 q
            obtain rfl : y9 = (m : Int) := by rw [HLE.out] at hy9; omega
            clear hy9 hll
            have f5 : (m : Int) < L1.length := by omega
            have f6 : IntKind.i64.wrap (m : Int) = (m : Int) := by rw [IntKind.wrap_i64]; omega
            obtain ⟨b, off, rfl, hb, hcm0⟩ := RdK.cell snC_len (RK.out.below hS (Nat.le_refl _)) m hm
            rw [← HX.out] at hcm0
            have hcm : ∀ i, i < 36 → wr.cell? ⟨b, off + m * 36 + i, none⟩ = (snC x)[i]? := fun i hi => by rw [Nat.add_assoc]; exact hcm0 i hi
            have qm := sn_q hcm
            clear hcm0
            go_wp2_with fail
            refine g_start (by kernel_rfl) ?_
            refine g_take (i := 0) (d := (some 111)) (v := ?_) rfl rfl (by kernel_rfl) (fun _ _ _ h => h) (by rfl) (fun w' hb' => ?_) ?_
            rotate_left
            · (try go_simp); (try with_reducible rfl)
            try simp only [Act.put, List.setIfInBounds_toArray, List.set_cons_zero, List.set_cons_succ]
            refine g_take (i := 1) (d := (some 112)) (v := ?_) rfl rfl (by kernel_rfl) (fun _ _ _ h => h) (by rfl) (fun w' hb' => ?_) ?_
            rotate_left
            · (try go_simp); (try with_reducible rfl)
            try simp only [Act.put, List.setIfInBounds_toArray, List.set_cons_zero, List.set_cons_succ]
            refine g_take (i := 2) (d := (some 113)) (v := ?_) rfl rfl (by kernel_rfl) (fun _ _ _ h => h) (by rfl) (fun w' hb' => ?_) ?_
            rotate_left
            · (try go_simp); (try with_reducible rfl)
            try simp only [Act.put, List.setIfInBounds_toArray, List.set_cons_zero, List.set_cons_succ]
            refine g_take (i := 3) (d := (some 114)) (v := ?_) rfl rfl (by kernel_rfl) (fun _ _ _ h => h) (by rfl) (fun w' hb' => ?_) ?_
            rotate_left
            · (try go_simp); (try with_reducible rfl)
            try simp only [Act.put, List.setIfInBounds_toArray, List.set_cons_zero, List.set_cons_succ]
            refine g_take (i := 4) (d := (some 115)) (v := ?_) rfl rfl (by kernel_rfl) (fun _ _ _ h => h) (by rfl) (fun w' hb' => ?_) ?_
            rotate_left
            · (try go_simp); (try with_reducible rfl)
            try simp only [Act.put, List.setIfInBounds_toArray, List.set_cons_zero, List.set_cons_succ]
            refine g_take (i := 5) (d := (some 116)) (v := ?_) rfl rfl (by kernel_rfl) (fun _ _ _ h => h) (by rfl) (fun w' hb' => ?_) ?_
            rotate_left
            · have zz := (hb'.cell (p := ⟨b, off + m * 36, none⟩) hb).trans qm; (try go_simp); (try with_reducible rfl)
            try simp only [Act.put, List.setIfInBounds_toArray, List.set_cons_zero, List.set_cons_succ]
            refine g_take (i := 6) (d := (some 117)) (v := ?_) rfl rfl (by kernel_rfl) (fun _ _ _ h => h) (by rfl) (fun w' hb' => ?_) ?_
            rotate_left
            · (try go_simp); (try with_reducible rfl)
            try simp only [Act.put, List.setIfInBounds_toArray, List.set_cons_zero, List.set_cons_succ]
            refine g_take (i := 7) (d := (some 118)) (v := ?_) rfl rfl (by kernel_rfl) (fun _ _ _ h => h) (by rfl) (fun w' hb' => ?_) ?_
            rotate_left
            · (try go_simp); (try with_reducible rfl)
            try simp only [Act.put, List.setIfInBounds_toArray, List.set_cons_zero, List.set_cons_succ]
            refine g_take (i := 8) (d := (some 119)) (v := ?_) rfl rfl (by kernel_rfl) (fun _ _ _ h => h) (by rfl) (fun w' hb' => ?_) ?_
            rotate_left
            · (refine load_row_op _ _ (.tmp 8) ?_ ?_ ((hb'.block _ (lt_of_block q8)).trans q8) Tryd.underlying28 ?_ hiD <;> rfl); (try go_simp); (try with_reducible rfl)
            try simp only [Act.put, List.setIfInBounds_toArray, List.set_cons_zero, List.set_cons_succ]
            refine g_take (i := 9) (d := (some 120)) (v := ?_) rfl rfl (by kernel_rfl) (fun _ _ _ h => h) (by rfl) (fun w' hb' => ?_) ?_
            rotate_left
            · (try go_simp); (try with_reducible rfl)
            try simp only [Act.put, List.setIfInBounds_toArray, List.set_cons_zero, List.set_cons_succ]
            refine g_take (i := 10) (d := (some 121)) (v := ?_) rfl rfl (by kernel_rfl) (fun _ _ _ h => h) (by rfl) (fun w' hb' => ?_) ?_
            rotate_left
            · (try go_simp); (try with_reducible rfl)
            try simp only [Act.put, List.setIfInBounds_toArray, List.set_cons_zero, List.set_cons_succ]
            refine g_take (i := 11) (d := (some 122)) (v := ?_) rfl rfl (by kernel_rfl) (fun _ _ _ h => h) (by rfl) (fun w' hb' => ?_) ?_
            rotate_left
            · (try go_simp); (try with_reducible rfl)
            try simp only [Act.put, List.setIfInBounds_toArray, List.set_cons_zero, List.set_cons_succ]
            refine g_take (i := 12) (d := (some 123)) (v := ?_) rfl rfl (by kernel_rfl) (fun _ _ _ h => h) (by rfl) (fun w' hb' => ?_) ?_
            rotate_left
            · (try go_simp); (try with_reducible rfl)
            try simp only [Act.put, List.setIfInBounds_toArray, List.set_cons_zero, List.set_cons_succ]
            refine g_take (i := 13) (d := (some 124)) (v := ?_) rfl rfl (by kernel_rfl) (fun _ _ _ h => h) (by rfl) (fun w' hb' => ?_) ?_
            rotate_left
            · (refine load_partO_op _ _ (.tmp 123) ?_ ?_ (sn_store (fun i hi => (hb'.cell (p := ⟨b, off + m * 36 + i, none⟩) hb).trans (hcm i hi))) Tryd.underlying28 ?_ (infoSA x) <;> rfl); (try go_simp); (try with_reducible rfl)
            try simp only [Act.put, List.setIfInBounds_toArray, List.set_cons_zero, List.set_cons_succ]
            refine g_run (i := 14) rfl (by kernel_rfl) (by rfl) (fun K hK => ?_)
            rw [HDX.out]; go_simp; refine (SM.out _ (Below.drew hS)).mono ?_; rintro e u1 ⟨rfl, gg⟩; have hS := chain (Below.drew hS) gg; refine hK _ _ ⟨gg, ?_⟩; clear hK K gg
            try simp only [Act.put, List.setIfInBounds_toArray, List.set_cons_zero, List.set_cons_succ]
            refine g_take (i := 15) (d := (some 126)) (v := ?_) rfl rfl (by kernel_rfl) (fun _ _ _ h => h) (by rfl) (fun w' hb' => ?_) ?_
            rotate_left
            · (try go_simp); (try with_reducible rfl)
            try simp only [Act.put, List.setIfInBounds_toArray, List.set_cons_zero, List.set_cons_succ]
            refine g_take (i := 16) (d := (some 127)) (v := ?_) rfl rfl (by kernel_rfl) (fun _ _ _ h => h) (by rfl) (fun w' hb' => ?_) ?_
            rotate_left
            · (try go_simp); (try with_reducible rfl)
            try simp only [Act.put, List.setIfInBounds_toArray, List.set_cons_zero, List.set_cons_succ]
            refine g_take (i := 17) (d := (some 128)) (v := ?_) rfl rfl (by kernel_rfl) (fun _ _ _ h => h) (by rfl) (fun w' hb' => ?_) ?_
            rotate_left
            · (try go_simp); (try with_reducible rfl)
            try simp only [Act.put, List.setIfInBounds_toArray, List.set_cons_zero, List.set_cons_succ]
            refine g_take (i := 18) (d := (some 129)) (v := ?_) rfl rfl (by kernel_rfl) (fun _ _ _ h => h) (by rfl) (fun w' hb' => ?_) ?_
            rotate_left
            · (try go_simp); (try with_reducible rfl)
            try simp only [Act.put, List.setIfInBounds_toArray, List.set_cons_zero, List.set_cons_succ]
            refine g_take (i := 19) (d := (some 130)) (v := ?_) rfl rfl (by kernel_rfl) (fun _ _ _ h => h) (by rfl) (fun w' hb' => ?_) ?_
            rotate_left
            · (try go_simp); (try with_reducible rfl)
            try simp only [Act.put, List.setIfInBounds_toArray, List.set_cons_zero, List.set_cons_succ]
            refine g_take (i := 20) (d := (some 131)) (v := ?_) rfl rfl (by kernel_rfl) (fun _ _ _ h => h) (by rfl) (fun w' hb' => ?_) ?_
            rotate_left
            · (try go_simp); (try with_reducible rfl)
            try simp only [Act.put, List.setIfInBounds_toArray, List.set_cons_zero, List.set_cons_succ]
            refine g_run (i := 21) rfl (by kernel_rfl) (by rfl) (fun K hK => ?_)
            go_simp; refine (AW.out _ hS).mono ?_; rintro e u2 ⟨rfl, gg⟩; have hS := chain hS gg; refine hK _ _ ⟨gg, ?_⟩; clear hK K gg
            try simp only [Act.put, List.setIfInBounds_toArray, List.set_cons_zero, List.set_cons_succ]
            refine g_take (i := 22) (d := (some 133)) (v := ?_) rfl rfl (by kernel_rfl) (fun _ _ _ h => h) (by rfl) (fun w' hb' => ?_) ?_
            rotate_left
            · (try go_simp); (try with_reducible rfl)
            try simp only [Act.put, List.setIfInBounds_toArray, List.set_cons_zero, List.set_cons_succ]
            refine g_take (i := 23) (d := (some 4)) (v := ?_) rfl rfl (by kernel_rfl) (fun _ _ _ h => h) (by rfl) (fun w' hb' => ?_) ?_
            rotate_left
            · (try go_simp); (try with_reducible rfl)
            try simp only [Act.put, List.setIfInBounds_toArray, List.set_cons_zero, List.set_cons_succ]
            refine g_done (by kernel_rfl) ?_
            go_wp2_with fail
            go_ret
            exact ⟨rfl, chain BW.out hS⟩
theorem snapfinds_row (v : Value) (L : List Sn) (q : Int) (w : World) (h : RdK 36 snC w v L) (hrs : RdSn w L) (hsz : SzSn L) (hq : (Lit.int .i64 q).wf = true) (tab : TabAt w) :
    Calls Tryd.prog 10 #[v, .int .i64 q] w fun e w' => e = .returned (.bool true) ∧ Below w.heap.size w w' := snapfinds_any v L q w tab h hrs hsz
end Go.Proofs.YtbdfcgffkonbiaaDoor
