/- Choose: Has, mayChange, May where it says yes. Written by wip/tools/gen31d.py. -/
import Derived.Test.YtgmblgpfgdfnaaaQMM31
import Derived.Test.YtgmblgpfgdfnaaaQMM17
import Derived.Test.YtgmblgpfgdfnaaaQMM5
import Derived.Test.YtgmblgpfgdfnaaaQMM19
namespace Go.Proofs.Ytgmblgpfgdfnaaa
open Go Go.RowKit
set_option linter.unusedVariables false
set_option linter.unusedSimpArgs false
set_option maxRecDepth 100000

theorem nodup_le {α : Type} [DecidableEq α] : ∀ (l m : List α), l.Nodup → (∀ x ∈ l, x ∈ m) → l.length ≤ m.length
  | [], m, _, _ => by simp
  | x :: r, m, h, hs => by
    rw [List.nodup_cons] at h
    have hx : x ∈ m := hs x (by simp)
    have h2 := nodup_le r (m.erase x) h.2 (fun y hy => (List.mem_erase_of_ne (fun e => h.1 (by rw [← e]; exact hy))).2 (hs y (List.mem_cons_of_mem _ hy)))
    rw [List.length_erase_of_mem hx] at h2
    have := List.length_pos_of_mem hx
    rw [List.length_cons]
    omega
/-- Changes that may be chosen from. -/
structure MayP (n : Int) (l : List Cg) : Prop where
  f0 : fN n ≠ 0
  len : 2 * fN n + 1 ≤ l.length
  ok : ∀ c ∈ l, cgB n c = true
  dist : l.Pairwise (fun a b => a.fr ≠ b.fr)
theorem cgB_parts {n : Int} {c : Cg} (h : cgB n c = true) : 0 ≤ c.fr ∧ c.fr < n ∧ (c.st = 0 ∨ dueB c.st = true) ∧ c.st ≤ 2147483647 ∧ ceB c.st c.cs c.st = true ∧ 0 ≤ c.st := by
  unfold cgB at h
  simp only [Bool.and_eq_true, Bool.or_eq_true, decide_eq_true_eq] at h
  refine ⟨h.1, h.2.1, h.2.2.1, h.2.2.2.1, h.2.2.2.2, ?_⟩
  rcases h.2.2.1 with e | e
  · omega
  · unfold dueB at e
    simp only [Bool.and_eq_true, decide_eq_true_eq] at e
    omega
theorem MayP.sub {n : Int} {s l : List Cg} (h : MayP n l) (hs : s.Sublist l) (hl : 2 * fN n + 1 ≤ s.length) : MayP n s :=
  ⟨h.f0, hl, fun c hc => h.ok c (hs.subset hc), h.dist.sublist hs⟩
theorem may_n {n : Int} {l : List Cg} (h : MayP n l) : n = 3 * fN n + 1 ∧ 1 ≤ fN n ∧ fN n ≤ 5 := by
  have := fN_cases n
  have := h.f0
  omega
theorem whoC_no {n : Int} {l : List Cg} (h : MayP n l) {k : Nat} (hk : k < l.length) : hasZ (ofZ ((l.take k).map Cg.fr) 0) l[k].fr = false := by
  have hp := cgB_parts (h.ok l[k] (List.getElem_mem hk))
  have hn := may_n h
  unfold hasZ
  have e : (l[k].fr.toNat : Int) = l[k].fr := by omega
  rw [ofZ_bit _ _ _ (by omega), e]
  have hne : ¬ l[k].fr ∈ (l.take k).map Cg.fr := by
    rw [List.mem_map]
    rintro ⟨c, hc, hcf⟩
    obtain ⟨j, hj, rfl⟩ := List.mem_iff_getElem.1 hc
    rw [List.length_take] at hj
    rw [List.getElem_take] at hcf
    exact List.pairwise_iff_getElem.1 h.dist j k (by omega) hk (by omega) hcf
  rw [decide_eq_false hne]
  simp
theorem whoC_up {l : List Cg} {k : Nat} (hk : k < l.length) : ofZ ((l.take (k + 1)).map Cg.fr) 0 = ofZ ((l.take k).map Cg.fr) 0 ||| bitZ l[k].fr := by
  rw [List.take_succ_eq_append_getElem hk, List.map_append, List.map_singleton, ofZ_snoc]
theorem whoC_strong {n : Int} {l : List Cg} (h : MayP n l) : enoughB (ofZ (l.map Cg.fr) 0) n (strongZ n) = true := by
  have hn := may_n h
  have hl := h.len
  unfold enoughB strongZ
  rw [if_neg h.f0]
  simp only [Bool.and_eq_true, decide_eq_true_eq]
  refine ⟨by omega, ?_⟩
  have hc : l.length ≤ popK 64 (ofZ (l.map Cg.fr) 0 &&& allZ n) := by
    rw [← list_len]
    have := nodup_le (l.map fun c => c.fr.toNat) (listN (ofZ (l.map Cg.fr) 0 &&& allZ n)) ?_ ?_
    · rwa [List.length_map] at this
    · unfold List.Nodup
      rw [List.pairwise_map]
      refine h.dist.imp_of_mem ?_
      intro a b ha hb hab e
      have h1 := cgB_parts (h.ok a ha)
      have h2 := cgB_parts (h.ok b hb)
      omega
    · intro x hx
      obtain ⟨c, hc, rfl⟩ := List.mem_map.1 hx
      have h1 := cgB_parts (h.ok c hc)
      rw [mem_list]
      refine ⟨by omega, ?_⟩
      rw [Nat.testBit_and, ofZ_bit _ _ _ (by omega)]
      have e : (c.fr.toNat : Int) = c.fr := by omega
      have e2 := has_all n c.fr.toNat (by omega)
      rw [hasZ_in _ _ (by omega)] at e2
      rw [e2, e, decide_eq_true (List.mem_map_of_mem hc)]
      simp; omega
  omega
set_option maxRecDepth 100000 in
theorem has_any (s : Nat) (hs : s < 18446744073709551616) (n : Int) (w : World) :
    Calls Try.prog 58 #[.int .u64 (s : Int), .int .i64 n] w fun e w' => e = .returned (.bool (hasZ s n)) ∧ w = w' := by
  have e := u64_and_nat s (bitZ n) hs (bitZ_lt n)
  have B := bit_any n
  rw [← has_eq, ← e]
  clear e
  generalize bitZ n = b at B ⊢
  go_enter Try.func58, Try.ntmps58
  go_wp2_with fail
  refine (B _).mono ?_
  rintro e w1 ⟨rfl, rfl⟩
  go_wp2_with fail
  go_ret
  exact ⟨rfl, rfl⟩
theorem ce_at {st : Int} {cs : List Ce} {last : Int} {k : Nat} (hk : k < cs.length) (h : ceB st (cs.drop k) last = true) : last < cs[k].sq ∧ cs[k].sq ≤ st + 16 ∧ 0 ≤ cs[k].vw ∧ cs[k].body.length ≤ 65536 ∧ ceB st (cs.drop (k + 1)) cs[k].sq = true := by
  rw [List.drop_eq_getElem_cons hk] at h
  unfold ceB at h
  simpa only [Bool.and_eq_true, decide_eq_true_eq] using h
set_option maxHeartbeats 2000000 in
theorem mayChange_yes (n : Int) (x : Cg) (w : World) (hx : cgB n x = true) (h : RdCs w (.slice x.cv.a x.cv.n x.cv.k) x.cs) : Calls Try.prog 59 #[cgV x] w fun e w' => e = .returned (.bool true) ∧ Below w.heap.size w w' := by
  obtain ⟨h1, h2, h3, h4, h5, h6⟩ := cgB_parts hx
  obtain ⟨fr, vw, st, rt, ⟨pa, pn, pk⟩, ⟨ca, cn, ck⟩, cs⟩ := x
  unfold cgV
  simp only at h1 h2 h3 h4 h5 h6 h ⊢
  obtain ⟨hcn, hck, hck2⟩ := rdcs_len h
  subst hcn
  have HCE := Lib.hid h5
  obtain ⟨W0, hW0⟩ : ∃ W, W = w.alloc (.cells #[.int .i64 fr, .int .i64 vw, .int .i64 st, .int .i64 rt, .slice pa pn pk, .slice ca cs.length ck] 56) := ⟨_, rfl⟩
  have q0 : W0.heap[w.heap.size]? = some (.cells #[.int .i64 fr, .int .i64 vw, .int .i64 st, .int .i64 rt, .slice pa pn pk, .slice ca cs.length ck] 56 (0, 0)) := by rw [hW0]; exact heap_alloc_new _ _
  have bel0 : Below w.heap.size w W0 := by rw [hW0]; exact (Below.refl w.heap.size w).alloc (Nat.le_refl _) _
  have HRD := Lib.hid (h.below bel0 (Nat.le_refl _))
  obtain ⟨d0, d1, d2, d3, d4, d5, df⟩ := block_cells6 q0
  have Q0 := Lib.hid q0
  have BEL0 := Lib.hid bel0
  clear h h5 hx
  have DU0 := fun w' => due_any st w'
  obtain ⟨D0, hD0⟩ : ∃ D, D = dueB st := ⟨_, rfl⟩
  rw [← hD0] at DU0 h3
  obtain ⟨z, hz⟩ : ∃ z, z = decide (st = 0) := ⟨_, rfl⟩
  have DU := Lib.hid DU0
  clear DU0 hD0 bel0 q0
  obtain ⟨X, hX⟩ : ∃ X : Bool, X = ((!(st == 0)) && !D0) := ⟨_, rfl⟩
  by_cases hst : st = 0
  · subst hst
    subst hW0
    go_enter Try.func59, Try.ntmps59
    go_wp2_with fail
    obtain ⟨W0, hW0⟩ : ∃ W, W = w.alloc (.cells #[.int .i64 fr, .int .i64 vw, .int .i64 0, .int .i64 rt, .slice pa pn pk, .slice ca cs.length ck] 56) := ⟨_, rfl⟩
    rw [← hW0] at Q0 BEL0 HRD ⊢
    clear hW0 d0 d1 d2 d3 d4 d5 df
    go_loopw [3, 25] (fun la i wr => ∃ (k : Nat) (last : Int), k ≤ cs.length ∧ i = .int .i64 (k : Int) ∧ la = .int .i64 last ∧ Hid (ceB 0 (cs.drop k) last = true) ∧ Below W0.heap.size W0 wr) (fun _ i _ => cs.length - (intOf i).toNat)
    case atStart => exact ⟨0, 0, Nat.zero_le _, rfl, rfl, HCE, Below.refl _ _⟩
    case round =>
      obtain ⟨k, last, hk, rfl, rfl, hce, bel⟩ := hrel
      by_cases hlt : k < cs.length
      · obtain ⟨pb, po, rfl, hpb, C0, C1, C2, C3, C4⟩ := rdce_cells HRD.out k hlt
        have c0 := (bel.cell (p := ⟨pb, po + k * 5, none⟩) hpb).trans C0
        have c1 := (bel.cell (p := ⟨pb, po + k * 5 + 1, none⟩) hpb).trans C1
        have c2 := (bel.cell (p := ⟨pb, po + k * 5 + 2, none⟩) hpb).trans C2
        have c3 := (bel.cell (p := ⟨pb, po + k * 5 + 3, none⟩) hpb).trans C3
        have c4 := (bel.cell (p := ⟨pb, po + k * 5 + 4, none⟩) hpb).trans C4
        obtain ⟨e1, e2, e3, e4, e5⟩ := ce_at hlt hce.out
        obtain ⟨x, hx⟩ : ∃ x, x = cs[k] := ⟨_, rfl⟩
        rw [← hx] at c0 c1 c2 c3 c4 e1 e2 e3 e4 e5
        obtain ⟨a, b, c, d, ⟨va, vn, vk⟩⟩ := x
        simp only at c0 c1 c2 c3 c4 e1 e2 e3 e4 e5
        obtain ⟨D, hD⟩ : ∃ D, D = str d := ⟨_, rfl⟩
        have hds : D.size ≤ 65536 := by rw [hD, str_size]; exact e4
        rw [← hD] at c3
        have HE := Lib.hid e5
        clear hx C0 C1 C2 C3 C4 hD e4 e5
        have p1 := (bel.block _ (lt_of_block Q0.out)).trans Q0.out
        obtain ⟨d0, d1, d2, d3, d4, d5, df⟩ := block_cells6 p1
        obtain ⟨W1, hW1⟩ : ∃ W, W = wr.alloc (.cells #[.int .i64 a, .int .i64 b, .int .i64 c, .string D, .slice va vn vk] 58) := ⟨_, rfl⟩
        have x1 := heap_alloc_new wr (.cells #[.int .i64 a, .int .i64 b, .int .i64 c, .string D, .slice va vn vk] 58)
        have bx := (Below.refl wr.heap.size wr).alloc (Nat.le_refl _) (.cells #[.int .i64 a, .int .i64 b, .int .i64 c, .string D, .slice va vn vk] 58)
        have p2 := (bx.block _ (lt_of_block p1)).trans p1
        obtain ⟨e0, f1, f2, f3, f4, ef⟩ := block_cells5 x1
        obtain ⟨g0, g1', g2', g3', g4', g5', gf⟩ := block_cells6 p2
        have B2 := chain bel bx
        clear p1 p2 x1 hW1
        go_wp2_with fail
        exact ⟨⟨k + 1, a, by omega, by push_cast; rfl, rfl, HE, B2⟩, by simp [intOf]; omega⟩
      · obtain rfl : k = cs.length := by omega
        go_wp2_with fail
        go_ret
        exact ⟨rfl, chain BEL0.out bel⟩
  · have hD : D0 = true := by rcases h3 with e | e; exact absurd e hst; exact e
    subst hD
    subst hW0
    have hn0 : (st == 0) = false := by simpa using hst
    have hn1 : (st != 0) = true := by simpa using hst
    go_enter Try.func59, Try.ntmps59
    go_wp2_with (first | ((with_reducible refine (DU.out _).mono ?_); rintro e w1 ⟨rfl, rfl⟩))
    rw [decide_eq_false (show ¬ (2147483647 : Int) < st by omega)]
    obtain ⟨W0, hW0⟩ : ∃ W, W = w.alloc (.cells #[.int .i64 fr, .int .i64 vw, .int .i64 st, .int .i64 rt, .slice pa pn pk, .slice ca cs.length ck] 56) := ⟨_, rfl⟩
    rw [← hW0] at Q0 BEL0 HRD ⊢
    clear hW0 d0 d1 d2 d3 d4 d5 df
    go_loopw [3, 25] (fun la i wr => ∃ (k : Nat) (last : Int), k ≤ cs.length ∧ i = .int .i64 (k : Int) ∧ la = .int .i64 last ∧ Hid (ceB st (cs.drop k) last = true) ∧ Below W0.heap.size W0 wr) (fun _ i _ => cs.length - (intOf i).toNat)
    case atStart => exact ⟨0, st, Nat.zero_le _, rfl, rfl, HCE, Below.refl _ _⟩
    case round =>
      obtain ⟨k, last, hk, rfl, rfl, hce, bel⟩ := hrel
      by_cases hlt : k < cs.length
      · obtain ⟨pb, po, rfl, hpb, C0, C1, C2, C3, C4⟩ := rdce_cells HRD.out k hlt
        have c0 := (bel.cell (p := ⟨pb, po + k * 5, none⟩) hpb).trans C0
        have c1 := (bel.cell (p := ⟨pb, po + k * 5 + 1, none⟩) hpb).trans C1
        have c2 := (bel.cell (p := ⟨pb, po + k * 5 + 2, none⟩) hpb).trans C2
        have c3 := (bel.cell (p := ⟨pb, po + k * 5 + 3, none⟩) hpb).trans C3
        have c4 := (bel.cell (p := ⟨pb, po + k * 5 + 4, none⟩) hpb).trans C4
        obtain ⟨e1, e2, e3, e4, e5⟩ := ce_at hlt hce.out
        obtain ⟨x, hx⟩ : ∃ x, x = cs[k] := ⟨_, rfl⟩
        rw [← hx] at c0 c1 c2 c3 c4 e1 e2 e3 e4 e5
        obtain ⟨a, b, c, d, ⟨va, vn, vk⟩⟩ := x
        simp only at c0 c1 c2 c3 c4 e1 e2 e3 e4 e5
        obtain ⟨D, hD⟩ : ∃ D, D = str d := ⟨_, rfl⟩
        have hds : D.size ≤ 65536 := by rw [hD, str_size]; exact e4
        rw [← hD] at c3
        have HE := Lib.hid e5
        clear hx C0 C1 C2 C3 C4 hD e4 e5
        have p1 := (bel.block _ (lt_of_block Q0.out)).trans Q0.out
        obtain ⟨d0, d1, d2, d3, d4, d5, df⟩ := block_cells6 p1
        obtain ⟨W1, hW1⟩ : ∃ W, W = wr.alloc (.cells #[.int .i64 a, .int .i64 b, .int .i64 c, .string D, .slice va vn vk] 58) := ⟨_, rfl⟩
        have x1 := heap_alloc_new wr (.cells #[.int .i64 a, .int .i64 b, .int .i64 c, .string D, .slice va vn vk] 58)
        have bx := (Below.refl wr.heap.size wr).alloc (Nat.le_refl _) (.cells #[.int .i64 a, .int .i64 b, .int .i64 c, .string D, .slice va vn vk] 58)
        have p2 := (bx.block _ (lt_of_block p1)).trans p1
        obtain ⟨e0, f1, f2, f3, f4, ef⟩ := block_cells5 x1
        obtain ⟨g0, g1', g2', g3', g4', g5', gf⟩ := block_cells6 p2
        have B2 := chain bel bx
        clear p1 p2 x1 hW1
        go_wp2_with fail
        exact ⟨⟨k + 1, a, by omega, by push_cast; rfl, rfl, HE, B2⟩, by simp [intOf]; omega⟩
      · obtain rfl : k = cs.length := by omega
        go_wp2_with fail
        go_ret
        exact ⟨rfl, chain BEL0.out bel⟩
end Go.Proofs.Ytgmblgpfgdfnaaa
