/- Slots: who says that a slot is prepared, by the program. Written by wip/tools/gen29v.py. -/
import Derived.Test.YtgmblgpfgdfnaaaDoorQSPC22
import Derived.Test.YtgmblgpfgdfnaaaDoorQSPC6
namespace Go.Proofs.YtgmblgpfgdfnaaaDoor
open Go Go.RowKit
set_option linter.unusedVariables false
set_option linter.unusedSimpArgs false
set_option maxRecDepth 100000
structure Sm where
  fr : Int
  kd : Int
  vw : Int
  sq : Int
  tm : Int
def smC (x : Sm) : List Value := [.int .i64 x.fr, .int .i64 x.kd, .int .i64 x.vw, .int .i64 x.sq, .int .i64 x.tm]
theorem smC_len (x : Sm) : (smC x).length = 5 := rfl
theorem smC_one (x : Sm) : ∀ u ∈ smC x, u.oneCell' = true := by
  intro u hu
  simp only [smC, List.mem_cons, List.not_mem_nil, or_false] at hu
  rcases hu with rfl | rfl | rfl | rfl | rfl <;> rfl
theorem stmt_info : (Tryd.prog.info? 62).map (fun i => (i.zero, i.size, i.bytes)) = some (some (.agg #[.int .i64 0, .int .i64 0, .int .i64 0, .int .i64 0, .int .i64 0]), 5, 40) := by kernel_rfl
theorem block_cells5 {w : World} {B : Nat} {a0 a1 a2 a3 a4 : Value} {t : TypeId} (h : w.heap[B]? = some (.cells #[a0, a1, a2, a3, a4] t (0, 0))) :
    w.cell? ⟨B, 0, none⟩ = some a0 ∧ w.cell? ⟨B, 1, none⟩ = some a1 ∧ w.cell? ⟨B, 2, none⟩ = some a2 ∧ w.cell? ⟨B, 3, none⟩ = some a3 ∧ w.cell? ⟨B, 4, none⟩ = some a4 ∧ ∀ i, w.frozen? ⟨B, i, none⟩ = false := by
  refine ⟨?_, ?_, ?_, ?_, ?_, ?_⟩
  all_goals simp [World.cell?, World.frozen?, h]
theorem below_grownN {w w1 w2 : World} {B : Nat} {r : Option Nat} (h : Below B w w1) (g : w1.grownBy w2 r) (hB : B ≤ w1.heap.size) (hk : ∀ q, r = some q → B ≤ q) : Below B w w2 := h.grown g hB hk
/-- The statements that say that a slot is prepared. -/
def voiL (s : Sl) (seq n : Int) : List Sm := ⟨primZ s.vw n, 2, s.vw, seq, s.tm⟩ :: (listN (prN s n)).map fun p : Nat => ⟨(p : Int), 3, s.vw, seq, s.tm⟩
def OwnM (w : World) (l : List Sm) (e : Ending) (w' : World) : Prop := ∃ a c, e = .returned (.slice a l.length c) ∧ w'.ownsRow w.heap.size 62 5 (.slice a l.length c) l.length (l.flatMap smC) ∧ Below w.heap.size w w'
set_option maxHeartbeats 1000000 in
theorem voices_yes (s : Sl) (vP vC : Value) (seq n : Int) (w : World) (h : RdS w s vP vC) (hn : -9223372036854775808 ≤ n ∧ n ≤ 9223372036854775807) (hp : prepB s n = true) (hT : TabAt w) : Calls Tryd.prog 34 #[sV s vP vC, .int .i64 seq, .int .i64 n] w (OwnM w (voiL s seq n)) := by
  obtain ⟨i0, hi0, hz0, hz1, hz2⟩ := info_parts stmt_info
  have PD0 := fun w' (g : Below w.heap.size w w') => prepared_any s vP vC n w' (h.below g (Nat.le_refl _)) hn
  simp only [hp] at PD0
  have PR := Lib.hid (fun w' => primary_any s.vw n hn.2 w')
  have PP0 := fun w' (g : Below w.heap.size w w') => preparers_any s vP vC n w' (h.below g (Nat.le_refl _)) hn.2
  have LI := Lib.hid (fun w' (g : Below w.heap.size w w') => list_any (prN s n) (prN_lt s n) w' (hT.below g (Nat.lt_of_le_of_lt (Nat.zero_le _) hT.1)))
  obtain ⟨Z, hZ⟩ : ∃ Z, Z = OwnM w (voiL s seq n) := ⟨_, rfl⟩
  rw [← hZ]
  unfold voiL at hZ
  have hll : (listN (prN s n)).length ≤ 64 := by rw [list_len]; exact pop_le _ _
  obtain ⟨LL, hLL⟩ : ∃ LL, LL = listN (prN s n) := ⟨_, rfl⟩
  rw [← hLL] at LI hZ hll
  obtain ⟨pr, hpr⟩ : ∃ pr, pr = prN s n := ⟨_, rfl⟩
  rw [← hpr] at PP0 LI
  obtain ⟨p, hpp⟩ : ∃ p, p = primZ s.vw n := ⟨_, rfl⟩
  rw [← hpp] at PR hZ
  obtain ⟨has, vw, tm, body, ps, cs⟩ := s
  unfold sV at PD0 PP0 ⊢
  simp only at PD0 PP0 PR hZ ⊢
  obtain ⟨S, hS⟩ : ∃ S, S = str body := ⟨_, rfl⟩
  rw [← hS] at PD0 PP0 ⊢
  have HZ := Lib.hid hZ
  have PD := Lib.hid PD0
  have PP := Lib.hid PP0
  have q0 := heap_alloc_new w (.cells #[.bool has, .int .i64 vw, .int .i64 tm, .string S, vP, vC] 24)
  have bel := (Below.refl w.heap.size w).alloc (Nat.le_refl _) (.cells #[.bool has, .int .i64 vw, .int .i64 tm, .string S, vP, vC] 24)
  obtain ⟨d0, d1, d2, d3, d4, d5, df⟩ := block_cells6 q0
  clear h PD0 PP0 hS hZ hp hT hn hLL hpr hpp
  go_enter Tryd.func34, Tryd.ntmps34
  go_wp2_with ((with_reducible refine (PD.out _ bel).mono ?_); rintro e w2 ⟨rfl, g⟩; (replace q0 := (g.block _ (lt_of_block q0)).trans q0); (clear d0 d1 d2 d3 d4 d5 df); (replace bel := chain bel g); clear g)
  replace q0 : (World.drew _).heap[_]? = _ := q0
  have bel0 := bel
  replace bel := bel.drew
  refine t_start 11 (by kernel_rfl) ?_
  refine t_take (i := 0) (d := (some 15)) (v := ?_) rfl rfl (by kernel_rfl) (fun _ _ _ h => h) (by rfl) (fun w' hb' => ?_) ?_
  rotate_left
  · (try go_simp); (try with_reducible rfl)
  try simp only [Act.put, List.setIfInBounds_toArray, List.set_cons_zero, List.set_cons_succ]
  refine t_take (i := 1) (d := (some 16)) (v := ?_) rfl rfl (by kernel_rfl) (fun _ _ _ h => h) (by rfl) (fun w' hb' => ?_) ?_
  rotate_left
  · obtain ⟨d0, d1, d2, d3, d4, d5, df⟩ := block_cells6 ((hb'.block _ (lt_of_block q0)).trans q0); (try go_simp); (try with_reducible rfl)
  try simp only [Act.put, List.setIfInBounds_toArray, List.set_cons_zero, List.set_cons_succ]
  refine t_take (i := 2) (d := (some 17)) (v := ?_) rfl rfl (by kernel_rfl) (fun _ _ _ h => h) (by rfl) (fun w' hb' => ?_) ?_
  rotate_left
  · (try go_simp); (try with_reducible rfl)
  try simp only [Act.put, List.setIfInBounds_toArray, List.set_cons_zero, List.set_cons_succ]
  refine t_take (i := 4) (d := (some 19)) (v := ?_) rfl rfl (by kernel_rfl) (fun _ _ _ h => h) (by rfl) (fun w' hb' => ?_) ?_
  rotate_left
  · (try go_simp); (try with_reducible rfl)
  try simp only [Act.put, List.setIfInBounds_toArray, List.set_cons_zero, List.set_cons_succ]
  refine t_take (i := 5) (d := (some 20)) (v := ?_) rfl rfl (by kernel_rfl) (fun _ _ _ h => h) (by rfl) (fun w' hb' => ?_) ?_
  rotate_left
  · obtain ⟨d0, d1, d2, d3, d4, d5, df⟩ := block_cells6 ((hb'.block _ (lt_of_block q0)).trans q0); (try go_simp); (try with_reducible rfl)
  try simp only [Act.put, List.setIfInBounds_toArray, List.set_cons_zero, List.set_cons_succ]
  refine t_take (i := 6) (d := (some 21)) (v := ?_) rfl rfl (by kernel_rfl) (fun _ _ _ h => h) (by rfl) (fun w' hb' => ?_) ?_
  rotate_left
  · (try go_simp); (try with_reducible rfl)
  try simp only [Act.put, List.setIfInBounds_toArray, List.set_cons_zero, List.set_cons_succ]
  refine t_take (i := 7) (d := (some 22)) (v := ?_) rfl rfl (by kernel_rfl) (fun _ _ _ h => h) (by rfl) (fun w' hb' => ?_) ?_
  rotate_left
  · (try go_simp); (try with_reducible rfl)
  try simp only [Act.put, List.setIfInBounds_toArray, List.set_cons_zero, List.set_cons_succ]
  refine t_take (i := 8) (d := (some 23)) (v := ?_) rfl rfl (by kernel_rfl) (fun _ _ _ h => h) (by rfl) (fun w' hb' => ?_) ?_
  rotate_left
  · obtain ⟨d0, d1, d2, d3, d4, d5, df⟩ := block_cells6 ((hb'.block _ (lt_of_block q0)).trans q0); (try go_simp); (try with_reducible rfl)
  try simp only [Act.put, List.setIfInBounds_toArray, List.set_cons_zero, List.set_cons_succ]
  refine t_run2 (i := 3) (k := 10) rfl rfl (by kernel_rfl) (by kernel_rfl) (by rfl) (by rfl) (fun K hK => ?_) (fun K hK => ?_)
  · skip
    go_simp; refine (PR.out _).mono ?_; rintro e w9 ⟨rfl, rfl⟩; refine hK _ _ ⟨Below.refl _ _, ?_⟩; clear hK K
    try simp only [Act.put, List.setIfInBounds_toArray, List.set_cons_zero, List.set_cons_succ]
    refine t_run2 (i := 9) (k := 10) rfl rfl (by kernel_rfl) (by kernel_rfl) (by rfl) (by rfl) (fun K hK => ?_) (fun K hK => ?_)
    · skip
      go_simp; refine hK _ _ ⟨Below.refl _ _, ?_⟩; clear hK K
      try simp only [Act.put, List.setIfInBounds_toArray, List.set_cons_zero, List.set_cons_succ]
      refine t_run (i := 10) rfl (by kernel_rfl) (by kernel_rfl) (by rfl) (fun K hK => ?_)
      go_simp; refine hK _ _ ⟨(Below.refl _ _).alloc (Nat.le_refl _) _, ?_⟩; clear hK K
      try simp only [Act.put, List.setIfInBounds_toArray, List.set_cons_zero, List.set_cons_succ]
      refine t_last (i := 11) rfl (by kernel_rfl) (by kernel_rfl) (by kernel_rfl) (by rfl) (fun K hK => ?_)
      go_simp; refine hK _ _ ?_; clear hK K
      have q1 : ((w2.alloc (.cells #[.int .i64 p, .int .i64 2, .int .i64 vw, .int .i64 seq, .int .i64 tm] 62)).drew).heap[w2.heap.size]? = some (.cells #[.int .i64 p, .int .i64 2, .int .i64 vw, .int .i64 seq, .int .i64 tm] 62 (0, 0)) := heap_alloc_new w2 _
      have qs : ((w2.alloc (.cells #[.int .i64 p, .int .i64 2, .int .i64 vw, .int .i64 seq, .int .i64 tm] 62)).drew).heap[w.heap.size]? = some (.cells #[.bool has, .int .i64 vw, .int .i64 tm, .string S, vP, vC] 24 (0, 0)) := (heap_alloc_old w2 _ (lt_of_block q0)).trans q0
      have bl : Below w.heap.size w ((w2.alloc (.cells #[.int .i64 p, .int .i64 2, .int .i64 vw, .int .i64 seq, .int .i64 tm] 62)).drew) := (Below.alloc bel0 bel0.size _).drew
      obtain ⟨W3, hW3⟩ : ∃ W3, W3 = (w2.alloc (.cells #[.int .i64 p, .int .i64 2, .int .i64 vw, .int .i64 seq, .int .i64 tm] 62)).drew := ⟨_, rfl⟩
      rw [← hW3] at q1 qs bl ⊢
      have hb7 : w.heap.size < w2.heap.size := lt_of_block q0
      have hs3 : W3.heap.size = w2.heap.size + 1 := by rw [hW3]; show (w2.alloc _).heap.size = _; simp
      clear hW3 q0 bel bel0
      obtain ⟨d0, d1, d2, d3, d4, d5, df⟩ := block_cells6 qs
      obtain ⟨e0, e1, e2, e3, e4, ef⟩ := block_cells5 q1
      have qs4 : ((W3.setCell ⟨w2.heap.size, 1, none⟩ (.int .i64 3)).alloc (.cells #[.int .i64 p, .int .i64 2, .int .i64 vw, .int .i64 seq, .int .i64 tm] 62)).heap[w.heap.size]? = some (.cells #[.bool has, .int .i64 vw, .int .i64 tm, .string S, vP, vC] 24 (0, 0)) := (heap_alloc_old _ _ (by simp; omega)).trans ((set_old (by omega)).trans qs)
      have q4 : ((W3.setCell ⟨w2.heap.size, 1, none⟩ (.int .i64 3)).alloc (.cells #[.int .i64 p, .int .i64 2, .int .i64 vw, .int .i64 seq, .int .i64 tm] 62)).heap[w2.heap.size]? = some (.cells #[.int .i64 p, .int .i64 3, .int .i64 vw, .int .i64 seq, .int .i64 tm] 62 (0, 0)) := (heap_alloc_old _ _ (by simp; omega)).trans (by simpa using set_at (i := 1) (u := .int .i64 3) q1)
      have bl4 : Below w.heap.size w ((W3.setCell ⟨w2.heap.size, 1, none⟩ (.int .i64 3)).alloc (.cells #[.int .i64 p, .int .i64 2, .int .i64 vw, .int .i64 seq, .int .i64 tm] 62)) := (Below.setCell bl (p := ⟨w2.heap.size, 1, none⟩) (by show _ ≤ w2.heap.size; omega) _).alloc (by simp; omega) _
      have ow4 : ((W3.setCell ⟨w2.heap.size, 1, none⟩ (.int .i64 3)).alloc (.cells #[.int .i64 p, .int .i64 2, .int .i64 vw, .int .i64 seq, .int .i64 tm] 62)).ownsRow (w2.heap.size + 1) 62 5 (.slice (some ⟨w2.heap.size + 1, 0, none⟩) 1 1) 1 (smC ⟨p, 2, vw, seq, tm⟩) := by
        have := World.ownsRow_lit (base := w2.heap.size + 1) (e := 62) (size := 5) (W3.setCell ⟨w2.heap.size, 1, none⟩ (.int .i64 3)) #[.int .i64 p, .int .i64 2, .int .i64 vw, .int .i64 seq, .int .i64 tm] 1 (by simp; omega) (by decide) rfl
        have hz : (W3.setCell ⟨w2.heap.size, 1, none⟩ (.int .i64 3)).heap.size = w2.heap.size + 1 := by simp [hs3]
        rw [hz] at this
        exact this
      have hs4 : ((W3.setCell ⟨w2.heap.size, 1, none⟩ (.int .i64 3)).alloc (.cells #[.int .i64 p, .int .i64 2, .int .i64 vw, .int .i64 seq, .int .i64 tm] 62)).heap.size = w2.heap.size + 2 := by simp [hs3]
      go_wp2_with ((with_reducible refine (PP.out _ bl4).mono ?_); rintro e w5 ⟨rfl, g⟩; (replace qs4 := (g.block _ (lt_of_block qs4)).trans qs4); (replace q4 := (g.block _ (lt_of_block q4)).trans q4); (replace bl4 := chain bl4 g); (replace ow4 := own_rows_below ow4 g); (have hs5 := g.size); rw [hs4] at hs5; clear g)
      refine (LI.out _ bl4).mono ?_
      rintro e w6 ⟨v6, rfl, own6, g⟩
      replace q4 := (g.block _ (lt_of_block q4)).trans q4
      replace bl4 := chain bl4 g
      replace ow4 := own_rows_below ow4 g
      have hs6 := Nat.le_trans hs5 g.size
      clear g qs4
      obtain ⟨a6, n6, k6, rfl⟩ := own_val own6
      have hn6 : n6 = LL.length := by
        rcases own6.2 with ⟨h1, h2⟩ | ⟨g, cap, cur, h1, _⟩
        · injection h1 with _ q _; omega
        · injection h1
      subst hn6
      have HE := Lib.hid (show ∀ k (hk : k < LL.length), ∃ gg, a6 = some ⟨gg, 0, none⟩ ∧ w5.heap.size ≤ gg ∧ gg < w6.heap.size ∧ w6.cell? ⟨gg, k, none⟩ = some (.int .i64 ((LL[k] : Nat) : Int)) by
        intro k hk
        rcases own6.2 with ⟨h1, h2⟩ | ⟨g, cap, cur, h1, h0, _⟩
        · omega
        · injection h1 with h1 h2 h3
          subst h1; subst h3
          refine ⟨g, rfl, h0, (own6.lt g rfl).2, ?_⟩
          rw [own6.cellAt k (by omega)]
          simp [iv, hk])
      clear own6 qs q1 d0 d1 d2 d3 d4 d5 df e0 e1 e2 e3 e4 ef
      go_wp2_with fail
      go_loopw [8, 33] (fun o i wr => ∃ (k : Nat) (acc : List Sm) (f : Int), k ≤ LL.length ∧ i = .int .i64 (k : Int) ∧ acc.length = k + 1 ∧ Hid (acc = ⟨p, 2, vw, seq, tm⟩ :: (LL.take k).map fun q : Nat => ⟨(q : Int), 3, vw, seq, tm⟩) ∧ wr.ownsRow (w2.heap.size + 1) 62 5 o acc.length (acc.flatMap smC) ∧ Hid (∀ q, o.ownBlock = some q → q = w2.heap.size + 1 ∨ w6.heap.size ≤ q) ∧ wr.heap[w2.heap.size]? = some (.cells #[.int .i64 f, .int .i64 3, .int .i64 vw, .int .i64 seq, .int .i64 tm] 62 (0, 0)) ∧ Hid (∀ b, b < w6.heap.size → b ≠ w2.heap.size → b ≠ w2.heap.size + 1 → wr.heap[b]? = w6.heap[b]?) ∧ Below w.heap.size w wr ∧ w6.heap.size ≤ wr.heap.size) (fun _ i _ => LL.length - (intOf i).toNat)
      case atStart => exact ⟨0, [⟨p, 2, vw, seq, tm⟩], p, Nat.zero_le _, rfl, rfl, Lib.hid rfl, by simpa using ow4, Lib.hid (fun q h => by simp [Value.ownBlock] at h; exact .inl h.symm), q4, Lib.hid (fun b _ _ _ => rfl), bl4, Nat.le_refl _⟩
      case round =>
        obtain ⟨k, acc, f, hk, rfl, hal, HA, hown, HQ, qr, HK, bel, hsz⟩ := hrel
        obtain ⟨f0, f1, f2, f3, f4, ff⟩ := block_cells5 qr
        by_cases hlt : k < LL.length
        · obtain ⟨gg, rfl, hg1, hg2, hc⟩ := HE.out k hlt
          obtain ⟨x, hx⟩ : ∃ x : Nat, x = LL[k] := ⟨_, rfl⟩
          rw [← hx] at hc
          have c0 : wr.cell? ⟨gg, k, none⟩ = some (.int .i64 (x : Int)) := by
            rw [← hc]
            exact World.cell?_of_block (HK.out gg hg2 (by omega) (by omega))
          have HA' := Lib.hid (show acc ++ [⟨(x : Int), 3, vw, seq, tm⟩] = ⟨p, 2, vw, seq, tm⟩ :: (LL.take (k + 1)).map fun q : Nat => ⟨(q : Int), 3, vw, seq, tm⟩ by
            rw [HA.out, List.take_succ_eq_append_getElem hlt, List.map_append, ← hx]; rfl)
          have hkl : (k : Int) < (LL.length : Int) := by omega
          have GS : wr.grownBy (wr.setCell ⟨w2.heap.size, 0, none⟩ (.int .i64 (x : Int))) (some w2.heap.size) := grown_setB grown_reflB
          have owx : ((wr.setCell ⟨w2.heap.size, 0, none⟩ (.int .i64 (x : Int))).alloc (.cells #[.int .i64 (x : Int), .int .i64 3, .int .i64 vw, .int .i64 seq, .int .i64 tm] 62)).ownsRow (w2.heap.size + 1) 62 5 _ acc.length (acc.flatMap smC) := (hown.kept GS (by
            cases hq : Value.ownBlock _ with
            | none => exact .inl rfl
            | some q => exact .inr fun e => by injection e with e; have := (hown.lt q hq).1; omega)).alloc _
          have qx : ((wr.setCell ⟨w2.heap.size, 0, none⟩ (.int .i64 (x : Int))).alloc (.cells #[.int .i64 (x : Int), .int .i64 3, .int .i64 vw, .int .i64 seq, .int .i64 tm] 62)).heap[wr.heap.size]? = some (.cells #[.int .i64 (x : Int), .int .i64 3, .int .i64 vw, .int .i64 seq, .int .i64 tm] 62 (0, 0)) := by
            have := heap_alloc_new (wr.setCell ⟨w2.heap.size, 0, none⟩ (.int .i64 (x : Int))) (.cells #[.int .i64 (x : Int), .int .i64 3, .int .i64 vw, .int .i64 seq, .int .i64 tm] 62)
            rw [show (wr.setCell ⟨w2.heap.size, 0, none⟩ (.int .i64 (x : Int))).heap.size = wr.heap.size by simp] at this
            exact this
          have qy : ((wr.setCell ⟨w2.heap.size, 0, none⟩ (.int .i64 (x : Int))).alloc (.cells #[.int .i64 (x : Int), .int .i64 3, .int .i64 vw, .int .i64 seq, .int .i64 tm] 62)).heap[w2.heap.size]? = some (.cells #[.int .i64 (x : Int), .int .i64 3, .int .i64 vw, .int .i64 seq, .int .i64 tm] 62 (0, 0)) := (heap_alloc_old _ _ (by simp; omega)).trans (by simpa using set_at (i := 0) (u := .int .i64 (x : Int)) qr)
          have HNW := Lib.hid (show ∀ j u, (smC ⟨(x : Int), 3, vw, seq, tm⟩)[j]? = some u → ((wr.setCell ⟨w2.heap.size, 0, none⟩ (.int .i64 (x : Int))).alloc (.cells #[.int .i64 (x : Int), .int .i64 3, .int .i64 vw, .int .i64 seq, .int .i64 tm] 62)).cell? ((⟨wr.heap.size, 0, none⟩ : Addr).add j) = some u from fun j u hj => by
            rw [Addr.add_lit, Nat.zero_add, block_cell qx j]; simpa [smC] using hj)
          have HOX := Lib.hid owx
          have hsx : ((wr.setCell ⟨w2.heap.size, 0, none⟩ (.int .i64 (x : Int))).alloc (.cells #[.int .i64 (x : Int), .int .i64 3, .int .i64 vw, .int .i64 seq, .int .i64 tm] 62)).heap.size = wr.heap.size + 1 := by simp
          have HKX := Lib.hid (show ∀ b, b < w6.heap.size → b ≠ w2.heap.size → ((wr.setCell ⟨w2.heap.size, 0, none⟩ (.int .i64 (x : Int))).alloc (.cells #[.int .i64 (x : Int), .int .i64 3, .int .i64 vw, .int .i64 seq, .int .i64 tm] 62)).heap[b]? = wr.heap[b]? from fun b h1 h2 => (heap_alloc_old _ _ (by simp; omega)).trans (set_old h2))
          have HBX := Lib.hid (show Below w.heap.size w ((wr.setCell ⟨w2.heap.size, 0, none⟩ (.int .i64 (x : Int))).alloc (.cells #[.int .i64 (x : Int), .int .i64 3, .int .i64 vw, .int .i64 seq, .int .i64 tm] 62)) from (Below.setCell bel (p := ⟨w2.heap.size, 0, none⟩) (by show _ ≤ w2.heap.size; omega) _).alloc (by simp; omega) _)
          clear hx hc owx qx GS HE
          go_wp2_with (at_builtin; refine wpList_append_own_at _ rfl (.tmp 39) (.tmp 41) 59 rfl (w2.heap.size + 1) 62 i0 (.agg #[.int .i64 0, .int .i64 0, .int .i64 0, .int .i64 0, .int .i64 0]) 5 40 Tryd.underlying59 hi0 hz0 hz1 hz2 rfl (by decide) _ _ _ rfl HOX.out ⟨wr.heap.size, 0, none⟩ 1 1 (smC ⟨(x : Int), 3, vw, seq, tm⟩) rfl rfl HNW.out (smC_one _) (by unfold maxLen; omega) (by omega) (by omega) ?_; intro v' w9 o1 g9 o3 o4; clear o3)
          have HN9 : ∀ b, b < w6.heap.size → b ≠ w2.heap.size + 1 → w9.heap[b]? = ((wr.setCell ⟨w2.heap.size, 0, none⟩ (.int .i64 (x : Int))).alloc (.cells #[.int .i64 (x : Int), .int .i64 3, .int .i64 vw, .int .i64 seq, .int .i64 tm] 62)).heap[b]? := fun b h1 h2 => g9.block b (by rw [hsx]; omega) (fun e => by
            rcases HQ.out b e.symm with h3 | h3
            · exact h2 h3
            · omega)
          have HQ9 := Lib.hid (show ∀ q, v'.ownBlock = some q → q = w2.heap.size + 1 ∨ w6.heap.size ≤ q from fun q hq => by
            rcases o4 with e | e
            · rw [e] at hq; exact HQ.out q hq
            · rw [e, hsx] at hq; injection hq with hq; omega)
          have q9 := (HN9 w2.heap.size (by omega) (by omega)).trans qy
          have HK9 := Lib.hid (show ∀ b, b < w6.heap.size → b ≠ w2.heap.size → b ≠ w2.heap.size + 1 → w9.heap[b]? = w6.heap[b]? from fun b h1 h2 h3 => ((HN9 b h1 h3).trans (HKX.out b h1 h2)).trans (HK.out b h1 h2 h3))
          have HB9 := below_grownN HBX.out g9 (by rw [hsx]; omega) (fun q hq => by
            rcases HQ.out q hq with h3 | h3
            · omega
            · omega)
          have hs9 : w6.heap.size ≤ w9.heap.size := by have := g9.size; rw [hsx] at this; omega
          exact ⟨⟨k + 1, acc ++ [⟨(x : Int), 3, vw, seq, tm⟩], (x : Int), by omega, by push_cast; rfl, by simp [hal], HA', by rw [List.length_append, List.flatMap_append]; simpa using o1, HQ9, q9, HK9, HB9, hs9⟩, by simp [intOf]; omega⟩
        · obtain rfl : k = LL.length := by omega
          have HAL := Lib.hid (show acc = ⟨p, 2, vw, seq, tm⟩ :: LL.map fun q : Nat => ⟨(q : Int), 3, vw, seq, tm⟩ by rw [HA.out, List.take_length])
          have HO9 := Lib.hid (own_base hown (show w.heap.size ≤ w2.heap.size + 1 by omega))
          go_wp2_with fail
          have ho := HO9.out
          obtain ⟨a9, n9, c9, e9⟩ := own_val ho
          show Z (.returned _) _
          rw [HZ.out, ← HAL.out]
          have hn9 : n9 = acc.length := by
            rw [e9] at ho
            rcases ho.2 with ⟨h1, h2⟩ | ⟨g, cap, cur, h1, _⟩
            · injection h1 with _ q _; omega
            · injection h1
          rw [e9, hn9] at ho
          exact ⟨a9, c9, by rw [← hn9, ← e9]; rfl, ho, bel⟩
    · skip
      go_simp; refine hK _ _ ⟨(Below.refl _ _).alloc (Nat.le_refl _) _, ?_⟩; clear hK K
      try simp only [Act.put, List.setIfInBounds_toArray, List.set_cons_zero, List.set_cons_succ]
      refine t_run (i := 9) rfl (by kernel_rfl) (by kernel_rfl) (by rfl) (fun K hK => ?_)
      go_simp; refine hK _ _ ⟨Below.refl _ _, ?_⟩; clear hK K
      try simp only [Act.put, List.setIfInBounds_toArray, List.set_cons_zero, List.set_cons_succ]
      refine t_last (i := 11) rfl (by kernel_rfl) (by kernel_rfl) (by kernel_rfl) (by rfl) (fun K hK => ?_)
      go_simp; refine hK _ _ ?_; clear hK K
      have q1 : ((w2.alloc (.cells #[.int .i64 p, .int .i64 2, .int .i64 vw, .int .i64 seq, .int .i64 tm] 62)).drew).heap[w2.heap.size]? = some (.cells #[.int .i64 p, .int .i64 2, .int .i64 vw, .int .i64 seq, .int .i64 tm] 62 (0, 0)) := heap_alloc_new w2 _
      have qs : ((w2.alloc (.cells #[.int .i64 p, .int .i64 2, .int .i64 vw, .int .i64 seq, .int .i64 tm] 62)).drew).heap[w.heap.size]? = some (.cells #[.bool has, .int .i64 vw, .int .i64 tm, .string S, vP, vC] 24 (0, 0)) := (heap_alloc_old w2 _ (lt_of_block q0)).trans q0
      have bl : Below w.heap.size w ((w2.alloc (.cells #[.int .i64 p, .int .i64 2, .int .i64 vw, .int .i64 seq, .int .i64 tm] 62)).drew) := (Below.alloc bel0 bel0.size _).drew
      obtain ⟨W3, hW3⟩ : ∃ W3, W3 = (w2.alloc (.cells #[.int .i64 p, .int .i64 2, .int .i64 vw, .int .i64 seq, .int .i64 tm] 62)).drew := ⟨_, rfl⟩
      rw [← hW3] at q1 qs bl ⊢
      have hb7 : w.heap.size < w2.heap.size := lt_of_block q0
      have hs3 : W3.heap.size = w2.heap.size + 1 := by rw [hW3]; show (w2.alloc _).heap.size = _; simp
      clear hW3 q0 bel bel0
      obtain ⟨d0, d1, d2, d3, d4, d5, df⟩ := block_cells6 qs
      obtain ⟨e0, e1, e2, e3, e4, ef⟩ := block_cells5 q1
      have qs4 : ((W3.setCell ⟨w2.heap.size, 1, none⟩ (.int .i64 3)).alloc (.cells #[.int .i64 p, .int .i64 2, .int .i64 vw, .int .i64 seq, .int .i64 tm] 62)).heap[w.heap.size]? = some (.cells #[.bool has, .int .i64 vw, .int .i64 tm, .string S, vP, vC] 24 (0, 0)) := (heap_alloc_old _ _ (by simp; omega)).trans ((set_old (by omega)).trans qs)
      have q4 : ((W3.setCell ⟨w2.heap.size, 1, none⟩ (.int .i64 3)).alloc (.cells #[.int .i64 p, .int .i64 2, .int .i64 vw, .int .i64 seq, .int .i64 tm] 62)).heap[w2.heap.size]? = some (.cells #[.int .i64 p, .int .i64 3, .int .i64 vw, .int .i64 seq, .int .i64 tm] 62 (0, 0)) := (heap_alloc_old _ _ (by simp; omega)).trans (by simpa using set_at (i := 1) (u := .int .i64 3) q1)
      have bl4 : Below w.heap.size w ((W3.setCell ⟨w2.heap.size, 1, none⟩ (.int .i64 3)).alloc (.cells #[.int .i64 p, .int .i64 2, .int .i64 vw, .int .i64 seq, .int .i64 tm] 62)) := (Below.setCell bl (p := ⟨w2.heap.size, 1, none⟩) (by show _ ≤ w2.heap.size; omega) _).alloc (by simp; omega) _
      have ow4 : ((W3.setCell ⟨w2.heap.size, 1, none⟩ (.int .i64 3)).alloc (.cells #[.int .i64 p, .int .i64 2, .int .i64 vw, .int .i64 seq, .int .i64 tm] 62)).ownsRow (w2.heap.size + 1) 62 5 (.slice (some ⟨w2.heap.size + 1, 0, none⟩) 1 1) 1 (smC ⟨p, 2, vw, seq, tm⟩) := by
        have := World.ownsRow_lit (base := w2.heap.size + 1) (e := 62) (size := 5) (W3.setCell ⟨w2.heap.size, 1, none⟩ (.int .i64 3)) #[.int .i64 p, .int .i64 2, .int .i64 vw, .int .i64 seq, .int .i64 tm] 1 (by simp; omega) (by decide) rfl
        have hz : (W3.setCell ⟨w2.heap.size, 1, none⟩ (.int .i64 3)).heap.size = w2.heap.size + 1 := by simp [hs3]
        rw [hz] at this
        exact this
      have hs4 : ((W3.setCell ⟨w2.heap.size, 1, none⟩ (.int .i64 3)).alloc (.cells #[.int .i64 p, .int .i64 2, .int .i64 vw, .int .i64 seq, .int .i64 tm] 62)).heap.size = w2.heap.size + 2 := by simp [hs3]
      go_wp2_with ((with_reducible refine (PP.out _ bl4).mono ?_); rintro e w5 ⟨rfl, g⟩; (replace qs4 := (g.block _ (lt_of_block qs4)).trans qs4); (replace q4 := (g.block _ (lt_of_block q4)).trans q4); (replace bl4 := chain bl4 g); (replace ow4 := own_rows_below ow4 g); (have hs5 := g.size); rw [hs4] at hs5; clear g)
      refine (LI.out _ bl4).mono ?_
      rintro e w6 ⟨v6, rfl, own6, g⟩
      replace q4 := (g.block _ (lt_of_block q4)).trans q4
      replace bl4 := chain bl4 g
      replace ow4 := own_rows_below ow4 g
      have hs6 := Nat.le_trans hs5 g.size
      clear g qs4
      obtain ⟨a6, n6, k6, rfl⟩ := own_val own6
      have hn6 : n6 = LL.length := by
        rcases own6.2 with ⟨h1, h2⟩ | ⟨g, cap, cur, h1, _⟩
        · injection h1 with _ q _; omega
        · injection h1
      subst hn6
      have HE := Lib.hid (show ∀ k (hk : k < LL.length), ∃ gg, a6 = some ⟨gg, 0, none⟩ ∧ w5.heap.size ≤ gg ∧ gg < w6.heap.size ∧ w6.cell? ⟨gg, k, none⟩ = some (.int .i64 ((LL[k] : Nat) : Int)) by
        intro k hk
        rcases own6.2 with ⟨h1, h2⟩ | ⟨g, cap, cur, h1, h0, _⟩
        · omega
        · injection h1 with h1 h2 h3
          subst h1; subst h3
          refine ⟨g, rfl, h0, (own6.lt g rfl).2, ?_⟩
          rw [own6.cellAt k (by omega)]
          simp [iv, hk])
      clear own6 qs q1 d0 d1 d2 d3 d4 d5 df e0 e1 e2 e3 e4 ef
      go_wp2_with fail
      go_loopw [8, 33] (fun o i wr => ∃ (k : Nat) (acc : List Sm) (f : Int), k ≤ LL.length ∧ i = .int .i64 (k : Int) ∧ acc.length = k + 1 ∧ Hid (acc = ⟨p, 2, vw, seq, tm⟩ :: (LL.take k).map fun q : Nat => ⟨(q : Int), 3, vw, seq, tm⟩) ∧ wr.ownsRow (w2.heap.size + 1) 62 5 o acc.length (acc.flatMap smC) ∧ Hid (∀ q, o.ownBlock = some q → q = w2.heap.size + 1 ∨ w6.heap.size ≤ q) ∧ wr.heap[w2.heap.size]? = some (.cells #[.int .i64 f, .int .i64 3, .int .i64 vw, .int .i64 seq, .int .i64 tm] 62 (0, 0)) ∧ Hid (∀ b, b < w6.heap.size → b ≠ w2.heap.size → b ≠ w2.heap.size + 1 → wr.heap[b]? = w6.heap[b]?) ∧ Below w.heap.size w wr ∧ w6.heap.size ≤ wr.heap.size) (fun _ i _ => LL.length - (intOf i).toNat)
      case atStart => exact ⟨0, [⟨p, 2, vw, seq, tm⟩], p, Nat.zero_le _, rfl, rfl, Lib.hid rfl, by simpa using ow4, Lib.hid (fun q h => by simp [Value.ownBlock] at h; exact .inl h.symm), q4, Lib.hid (fun b _ _ _ => rfl), bl4, Nat.le_refl _⟩
      case round =>
        obtain ⟨k, acc, f, hk, rfl, hal, HA, hown, HQ, qr, HK, bel, hsz⟩ := hrel
        obtain ⟨f0, f1, f2, f3, f4, ff⟩ := block_cells5 qr
        by_cases hlt : k < LL.length
        · obtain ⟨gg, rfl, hg1, hg2, hc⟩ := HE.out k hlt
          obtain ⟨x, hx⟩ : ∃ x : Nat, x = LL[k] := ⟨_, rfl⟩
          rw [← hx] at hc
          have c0 : wr.cell? ⟨gg, k, none⟩ = some (.int .i64 (x : Int)) := by
            rw [← hc]
            exact World.cell?_of_block (HK.out gg hg2 (by omega) (by omega))
          have HA' := Lib.hid (show acc ++ [⟨(x : Int), 3, vw, seq, tm⟩] = ⟨p, 2, vw, seq, tm⟩ :: (LL.take (k + 1)).map fun q : Nat => ⟨(q : Int), 3, vw, seq, tm⟩ by
            rw [HA.out, List.take_succ_eq_append_getElem hlt, List.map_append, ← hx]; rfl)
          have hkl : (k : Int) < (LL.length : Int) := by omega
          have GS : wr.grownBy (wr.setCell ⟨w2.heap.size, 0, none⟩ (.int .i64 (x : Int))) (some w2.heap.size) := grown_setB grown_reflB
          have owx : ((wr.setCell ⟨w2.heap.size, 0, none⟩ (.int .i64 (x : Int))).alloc (.cells #[.int .i64 (x : Int), .int .i64 3, .int .i64 vw, .int .i64 seq, .int .i64 tm] 62)).ownsRow (w2.heap.size + 1) 62 5 _ acc.length (acc.flatMap smC) := (hown.kept GS (by
            cases hq : Value.ownBlock _ with
            | none => exact .inl rfl
            | some q => exact .inr fun e => by injection e with e; have := (hown.lt q hq).1; omega)).alloc _
          have qx : ((wr.setCell ⟨w2.heap.size, 0, none⟩ (.int .i64 (x : Int))).alloc (.cells #[.int .i64 (x : Int), .int .i64 3, .int .i64 vw, .int .i64 seq, .int .i64 tm] 62)).heap[wr.heap.size]? = some (.cells #[.int .i64 (x : Int), .int .i64 3, .int .i64 vw, .int .i64 seq, .int .i64 tm] 62 (0, 0)) := by
            have := heap_alloc_new (wr.setCell ⟨w2.heap.size, 0, none⟩ (.int .i64 (x : Int))) (.cells #[.int .i64 (x : Int), .int .i64 3, .int .i64 vw, .int .i64 seq, .int .i64 tm] 62)
            rw [show (wr.setCell ⟨w2.heap.size, 0, none⟩ (.int .i64 (x : Int))).heap.size = wr.heap.size by simp] at this
            exact this
          have qy : ((wr.setCell ⟨w2.heap.size, 0, none⟩ (.int .i64 (x : Int))).alloc (.cells #[.int .i64 (x : Int), .int .i64 3, .int .i64 vw, .int .i64 seq, .int .i64 tm] 62)).heap[w2.heap.size]? = some (.cells #[.int .i64 (x : Int), .int .i64 3, .int .i64 vw, .int .i64 seq, .int .i64 tm] 62 (0, 0)) := (heap_alloc_old _ _ (by simp; omega)).trans (by simpa using set_at (i := 0) (u := .int .i64 (x : Int)) qr)
          have HNW := Lib.hid (show ∀ j u, (smC ⟨(x : Int), 3, vw, seq, tm⟩)[j]? = some u → ((wr.setCell ⟨w2.heap.size, 0, none⟩ (.int .i64 (x : Int))).alloc (.cells #[.int .i64 (x : Int), .int .i64 3, .int .i64 vw, .int .i64 seq, .int .i64 tm] 62)).cell? ((⟨wr.heap.size, 0, none⟩ : Addr).add j) = some u from fun j u hj => by
            rw [Addr.add_lit, Nat.zero_add, block_cell qx j]; simpa [smC] using hj)
          have HOX := Lib.hid owx
          have hsx : ((wr.setCell ⟨w2.heap.size, 0, none⟩ (.int .i64 (x : Int))).alloc (.cells #[.int .i64 (x : Int), .int .i64 3, .int .i64 vw, .int .i64 seq, .int .i64 tm] 62)).heap.size = wr.heap.size + 1 := by simp
          have HKX := Lib.hid (show ∀ b, b < w6.heap.size → b ≠ w2.heap.size → ((wr.setCell ⟨w2.heap.size, 0, none⟩ (.int .i64 (x : Int))).alloc (.cells #[.int .i64 (x : Int), .int .i64 3, .int .i64 vw, .int .i64 seq, .int .i64 tm] 62)).heap[b]? = wr.heap[b]? from fun b h1 h2 => (heap_alloc_old _ _ (by simp; omega)).trans (set_old h2))
          have HBX := Lib.hid (show Below w.heap.size w ((wr.setCell ⟨w2.heap.size, 0, none⟩ (.int .i64 (x : Int))).alloc (.cells #[.int .i64 (x : Int), .int .i64 3, .int .i64 vw, .int .i64 seq, .int .i64 tm] 62)) from (Below.setCell bel (p := ⟨w2.heap.size, 0, none⟩) (by show _ ≤ w2.heap.size; omega) _).alloc (by simp; omega) _)
          clear hx hc owx qx GS HE
          go_wp2_with (at_builtin; refine wpList_append_own_at _ rfl (.tmp 39) (.tmp 41) 59 rfl (w2.heap.size + 1) 62 i0 (.agg #[.int .i64 0, .int .i64 0, .int .i64 0, .int .i64 0, .int .i64 0]) 5 40 Tryd.underlying59 hi0 hz0 hz1 hz2 rfl (by decide) _ _ _ rfl HOX.out ⟨wr.heap.size, 0, none⟩ 1 1 (smC ⟨(x : Int), 3, vw, seq, tm⟩) rfl rfl HNW.out (smC_one _) (by unfold maxLen; omega) (by omega) (by omega) ?_; intro v' w9 o1 g9 o3 o4; clear o3)
          have HN9 : ∀ b, b < w6.heap.size → b ≠ w2.heap.size + 1 → w9.heap[b]? = ((wr.setCell ⟨w2.heap.size, 0, none⟩ (.int .i64 (x : Int))).alloc (.cells #[.int .i64 (x : Int), .int .i64 3, .int .i64 vw, .int .i64 seq, .int .i64 tm] 62)).heap[b]? := fun b h1 h2 => g9.block b (by rw [hsx]; omega) (fun e => by
            rcases HQ.out b e.symm with h3 | h3
            · exact h2 h3
            · omega)
          have HQ9 := Lib.hid (show ∀ q, v'.ownBlock = some q → q = w2.heap.size + 1 ∨ w6.heap.size ≤ q from fun q hq => by
            rcases o4 with e | e
            · rw [e] at hq; exact HQ.out q hq
            · rw [e, hsx] at hq; injection hq with hq; omega)
          have q9 := (HN9 w2.heap.size (by omega) (by omega)).trans qy
          have HK9 := Lib.hid (show ∀ b, b < w6.heap.size → b ≠ w2.heap.size → b ≠ w2.heap.size + 1 → w9.heap[b]? = w6.heap[b]? from fun b h1 h2 h3 => ((HN9 b h1 h3).trans (HKX.out b h1 h2)).trans (HK.out b h1 h2 h3))
          have HB9 := below_grownN HBX.out g9 (by rw [hsx]; omega) (fun q hq => by
            rcases HQ.out q hq with h3 | h3
            · omega
            · omega)
          have hs9 : w6.heap.size ≤ w9.heap.size := by have := g9.size; rw [hsx] at this; omega
          exact ⟨⟨k + 1, acc ++ [⟨(x : Int), 3, vw, seq, tm⟩], (x : Int), by omega, by push_cast; rfl, by simp [hal], HA', by rw [List.length_append, List.flatMap_append]; simpa using o1, HQ9, q9, HK9, HB9, hs9⟩, by simp [intOf]; omega⟩
        · obtain rfl : k = LL.length := by omega
          have HAL := Lib.hid (show acc = ⟨p, 2, vw, seq, tm⟩ :: LL.map fun q : Nat => ⟨(q : Int), 3, vw, seq, tm⟩ by rw [HA.out, List.take_length])
          have HO9 := Lib.hid (own_base hown (show w.heap.size ≤ w2.heap.size + 1 by omega))
          go_wp2_with fail
          have ho := HO9.out
          obtain ⟨a9, n9, c9, e9⟩ := own_val ho
          show Z (.returned _) _
          rw [HZ.out, ← HAL.out]
          have hn9 : n9 = acc.length := by
            rw [e9] at ho
            rcases ho.2 with ⟨h1, h2⟩ | ⟨g, cap, cur, h1, _⟩
            · injection h1 with _ q _; omega
            · injection h1
          rw [e9, hn9] at ho
          exact ⟨a9, c9, by rw [← hn9, ← e9]; rfl, ho, bel⟩
  · skip
    go_simp; refine hK _ _ ⟨(Below.refl _ _).alloc (Nat.le_refl _) _, ?_⟩; clear hK K
    try simp only [Act.put, List.setIfInBounds_toArray, List.set_cons_zero, List.set_cons_succ]
    refine t_run (i := 3) rfl (by kernel_rfl) (by kernel_rfl) (by rfl) (fun K hK => ?_)
    go_simp; refine (PR.out _).mono ?_; rintro e w9 ⟨rfl, rfl⟩; refine hK _ _ ⟨Below.refl _ _, ?_⟩; clear hK K
    try simp only [Act.put, List.setIfInBounds_toArray, List.set_cons_zero, List.set_cons_succ]
    refine t_run (i := 9) rfl (by kernel_rfl) (by kernel_rfl) (by rfl) (fun K hK => ?_)
    go_simp; refine hK _ _ ⟨Below.refl _ _, ?_⟩; clear hK K
    try simp only [Act.put, List.setIfInBounds_toArray, List.set_cons_zero, List.set_cons_succ]
    refine t_last (i := 11) rfl (by kernel_rfl) (by kernel_rfl) (by kernel_rfl) (by rfl) (fun K hK => ?_)
    go_simp; refine hK _ _ ?_; clear hK K
    have q1 : ((w2.alloc (.cells #[.int .i64 p, .int .i64 2, .int .i64 vw, .int .i64 seq, .int .i64 tm] 62)).drew).heap[w2.heap.size]? = some (.cells #[.int .i64 p, .int .i64 2, .int .i64 vw, .int .i64 seq, .int .i64 tm] 62 (0, 0)) := heap_alloc_new w2 _
    have qs : ((w2.alloc (.cells #[.int .i64 p, .int .i64 2, .int .i64 vw, .int .i64 seq, .int .i64 tm] 62)).drew).heap[w.heap.size]? = some (.cells #[.bool has, .int .i64 vw, .int .i64 tm, .string S, vP, vC] 24 (0, 0)) := (heap_alloc_old w2 _ (lt_of_block q0)).trans q0
    have bl : Below w.heap.size w ((w2.alloc (.cells #[.int .i64 p, .int .i64 2, .int .i64 vw, .int .i64 seq, .int .i64 tm] 62)).drew) := (Below.alloc bel0 bel0.size _).drew
    obtain ⟨W3, hW3⟩ : ∃ W3, W3 = (w2.alloc (.cells #[.int .i64 p, .int .i64 2, .int .i64 vw, .int .i64 seq, .int .i64 tm] 62)).drew := ⟨_, rfl⟩
    rw [← hW3] at q1 qs bl ⊢
    have hb7 : w.heap.size < w2.heap.size := lt_of_block q0
    have hs3 : W3.heap.size = w2.heap.size + 1 := by rw [hW3]; show (w2.alloc _).heap.size = _; simp
    clear hW3 q0 bel bel0
    obtain ⟨d0, d1, d2, d3, d4, d5, df⟩ := block_cells6 qs
    obtain ⟨e0, e1, e2, e3, e4, ef⟩ := block_cells5 q1
    have qs4 : ((W3.setCell ⟨w2.heap.size, 1, none⟩ (.int .i64 3)).alloc (.cells #[.int .i64 p, .int .i64 2, .int .i64 vw, .int .i64 seq, .int .i64 tm] 62)).heap[w.heap.size]? = some (.cells #[.bool has, .int .i64 vw, .int .i64 tm, .string S, vP, vC] 24 (0, 0)) := (heap_alloc_old _ _ (by simp; omega)).trans ((set_old (by omega)).trans qs)
    have q4 : ((W3.setCell ⟨w2.heap.size, 1, none⟩ (.int .i64 3)).alloc (.cells #[.int .i64 p, .int .i64 2, .int .i64 vw, .int .i64 seq, .int .i64 tm] 62)).heap[w2.heap.size]? = some (.cells #[.int .i64 p, .int .i64 3, .int .i64 vw, .int .i64 seq, .int .i64 tm] 62 (0, 0)) := (heap_alloc_old _ _ (by simp; omega)).trans (by simpa using set_at (i := 1) (u := .int .i64 3) q1)
    have bl4 : Below w.heap.size w ((W3.setCell ⟨w2.heap.size, 1, none⟩ (.int .i64 3)).alloc (.cells #[.int .i64 p, .int .i64 2, .int .i64 vw, .int .i64 seq, .int .i64 tm] 62)) := (Below.setCell bl (p := ⟨w2.heap.size, 1, none⟩) (by show _ ≤ w2.heap.size; omega) _).alloc (by simp; omega) _
    have ow4 : ((W3.setCell ⟨w2.heap.size, 1, none⟩ (.int .i64 3)).alloc (.cells #[.int .i64 p, .int .i64 2, .int .i64 vw, .int .i64 seq, .int .i64 tm] 62)).ownsRow (w2.heap.size + 1) 62 5 (.slice (some ⟨w2.heap.size + 1, 0, none⟩) 1 1) 1 (smC ⟨p, 2, vw, seq, tm⟩) := by
      have := World.ownsRow_lit (base := w2.heap.size + 1) (e := 62) (size := 5) (W3.setCell ⟨w2.heap.size, 1, none⟩ (.int .i64 3)) #[.int .i64 p, .int .i64 2, .int .i64 vw, .int .i64 seq, .int .i64 tm] 1 (by simp; omega) (by decide) rfl
      have hz : (W3.setCell ⟨w2.heap.size, 1, none⟩ (.int .i64 3)).heap.size = w2.heap.size + 1 := by simp [hs3]
      rw [hz] at this
      exact this
    have hs4 : ((W3.setCell ⟨w2.heap.size, 1, none⟩ (.int .i64 3)).alloc (.cells #[.int .i64 p, .int .i64 2, .int .i64 vw, .int .i64 seq, .int .i64 tm] 62)).heap.size = w2.heap.size + 2 := by simp [hs3]
    go_wp2_with ((with_reducible refine (PP.out _ bl4).mono ?_); rintro e w5 ⟨rfl, g⟩; (replace qs4 := (g.block _ (lt_of_block qs4)).trans qs4); (replace q4 := (g.block _ (lt_of_block q4)).trans q4); (replace bl4 := chain bl4 g); (replace ow4 := own_rows_below ow4 g); (have hs5 := g.size); rw [hs4] at hs5; clear g)
    refine (LI.out _ bl4).mono ?_
    rintro e w6 ⟨v6, rfl, own6, g⟩
    replace q4 := (g.block _ (lt_of_block q4)).trans q4
    replace bl4 := chain bl4 g
    replace ow4 := own_rows_below ow4 g
    have hs6 := Nat.le_trans hs5 g.size
    clear g qs4
    obtain ⟨a6, n6, k6, rfl⟩ := own_val own6
    have hn6 : n6 = LL.length := by
      rcases own6.2 with ⟨h1, h2⟩ | ⟨g, cap, cur, h1, _⟩
      · injection h1 with _ q _; omega
      · injection h1
    subst hn6
    have HE := Lib.hid (show ∀ k (hk : k < LL.length), ∃ gg, a6 = some ⟨gg, 0, none⟩ ∧ w5.heap.size ≤ gg ∧ gg < w6.heap.size ∧ w6.cell? ⟨gg, k, none⟩ = some (.int .i64 ((LL[k] : Nat) : Int)) by
      intro k hk
      rcases own6.2 with ⟨h1, h2⟩ | ⟨g, cap, cur, h1, h0, _⟩
      · omega
      · injection h1 with h1 h2 h3
        subst h1; subst h3
        refine ⟨g, rfl, h0, (own6.lt g rfl).2, ?_⟩
        rw [own6.cellAt k (by omega)]
        simp [iv, hk])
    clear own6 qs q1 d0 d1 d2 d3 d4 d5 df e0 e1 e2 e3 e4 ef
    go_wp2_with fail
    go_loopw [8, 33] (fun o i wr => ∃ (k : Nat) (acc : List Sm) (f : Int), k ≤ LL.length ∧ i = .int .i64 (k : Int) ∧ acc.length = k + 1 ∧ Hid (acc = ⟨p, 2, vw, seq, tm⟩ :: (LL.take k).map fun q : Nat => ⟨(q : Int), 3, vw, seq, tm⟩) ∧ wr.ownsRow (w2.heap.size + 1) 62 5 o acc.length (acc.flatMap smC) ∧ Hid (∀ q, o.ownBlock = some q → q = w2.heap.size + 1 ∨ w6.heap.size ≤ q) ∧ wr.heap[w2.heap.size]? = some (.cells #[.int .i64 f, .int .i64 3, .int .i64 vw, .int .i64 seq, .int .i64 tm] 62 (0, 0)) ∧ Hid (∀ b, b < w6.heap.size → b ≠ w2.heap.size → b ≠ w2.heap.size + 1 → wr.heap[b]? = w6.heap[b]?) ∧ Below w.heap.size w wr ∧ w6.heap.size ≤ wr.heap.size) (fun _ i _ => LL.length - (intOf i).toNat)
    case atStart => exact ⟨0, [⟨p, 2, vw, seq, tm⟩], p, Nat.zero_le _, rfl, rfl, Lib.hid rfl, by simpa using ow4, Lib.hid (fun q h => by simp [Value.ownBlock] at h; exact .inl h.symm), q4, Lib.hid (fun b _ _ _ => rfl), bl4, Nat.le_refl _⟩
    case round =>
      obtain ⟨k, acc, f, hk, rfl, hal, HA, hown, HQ, qr, HK, bel, hsz⟩ := hrel
      obtain ⟨f0, f1, f2, f3, f4, ff⟩ := block_cells5 qr
      by_cases hlt : k < LL.length
      · obtain ⟨gg, rfl, hg1, hg2, hc⟩ := HE.out k hlt
        obtain ⟨x, hx⟩ : ∃ x : Nat, x = LL[k] := ⟨_, rfl⟩
        rw [← hx] at hc
        have c0 : wr.cell? ⟨gg, k, none⟩ = some (.int .i64 (x : Int)) := by
          rw [← hc]
          exact World.cell?_of_block (HK.out gg hg2 (by omega) (by omega))
        have HA' := Lib.hid (show acc ++ [⟨(x : Int), 3, vw, seq, tm⟩] = ⟨p, 2, vw, seq, tm⟩ :: (LL.take (k + 1)).map fun q : Nat => ⟨(q : Int), 3, vw, seq, tm⟩ by
          rw [HA.out, List.take_succ_eq_append_getElem hlt, List.map_append, ← hx]; rfl)
        have hkl : (k : Int) < (LL.length : Int) := by omega
        have GS : wr.grownBy (wr.setCell ⟨w2.heap.size, 0, none⟩ (.int .i64 (x : Int))) (some w2.heap.size) := grown_setB grown_reflB
        have owx : ((wr.setCell ⟨w2.heap.size, 0, none⟩ (.int .i64 (x : Int))).alloc (.cells #[.int .i64 (x : Int), .int .i64 3, .int .i64 vw, .int .i64 seq, .int .i64 tm] 62)).ownsRow (w2.heap.size + 1) 62 5 _ acc.length (acc.flatMap smC) := (hown.kept GS (by
          cases hq : Value.ownBlock _ with
          | none => exact .inl rfl
          | some q => exact .inr fun e => by injection e with e; have := (hown.lt q hq).1; omega)).alloc _
        have qx : ((wr.setCell ⟨w2.heap.size, 0, none⟩ (.int .i64 (x : Int))).alloc (.cells #[.int .i64 (x : Int), .int .i64 3, .int .i64 vw, .int .i64 seq, .int .i64 tm] 62)).heap[wr.heap.size]? = some (.cells #[.int .i64 (x : Int), .int .i64 3, .int .i64 vw, .int .i64 seq, .int .i64 tm] 62 (0, 0)) := by
          have := heap_alloc_new (wr.setCell ⟨w2.heap.size, 0, none⟩ (.int .i64 (x : Int))) (.cells #[.int .i64 (x : Int), .int .i64 3, .int .i64 vw, .int .i64 seq, .int .i64 tm] 62)
          rw [show (wr.setCell ⟨w2.heap.size, 0, none⟩ (.int .i64 (x : Int))).heap.size = wr.heap.size by simp] at this
          exact this
        have qy : ((wr.setCell ⟨w2.heap.size, 0, none⟩ (.int .i64 (x : Int))).alloc (.cells #[.int .i64 (x : Int), .int .i64 3, .int .i64 vw, .int .i64 seq, .int .i64 tm] 62)).heap[w2.heap.size]? = some (.cells #[.int .i64 (x : Int), .int .i64 3, .int .i64 vw, .int .i64 seq, .int .i64 tm] 62 (0, 0)) := (heap_alloc_old _ _ (by simp; omega)).trans (by simpa using set_at (i := 0) (u := .int .i64 (x : Int)) qr)
        have HNW := Lib.hid (show ∀ j u, (smC ⟨(x : Int), 3, vw, seq, tm⟩)[j]? = some u → ((wr.setCell ⟨w2.heap.size, 0, none⟩ (.int .i64 (x : Int))).alloc (.cells #[.int .i64 (x : Int), .int .i64 3, .int .i64 vw, .int .i64 seq, .int .i64 tm] 62)).cell? ((⟨wr.heap.size, 0, none⟩ : Addr).add j) = some u from fun j u hj => by
          rw [Addr.add_lit, Nat.zero_add, block_cell qx j]; simpa [smC] using hj)
        have HOX := Lib.hid owx
        have hsx : ((wr.setCell ⟨w2.heap.size, 0, none⟩ (.int .i64 (x : Int))).alloc (.cells #[.int .i64 (x : Int), .int .i64 3, .int .i64 vw, .int .i64 seq, .int .i64 tm] 62)).heap.size = wr.heap.size + 1 := by simp
        have HKX := Lib.hid (show ∀ b, b < w6.heap.size → b ≠ w2.heap.size → ((wr.setCell ⟨w2.heap.size, 0, none⟩ (.int .i64 (x : Int))).alloc (.cells #[.int .i64 (x : Int), .int .i64 3, .int .i64 vw, .int .i64 seq, .int .i64 tm] 62)).heap[b]? = wr.heap[b]? from fun b h1 h2 => (heap_alloc_old _ _ (by simp; omega)).trans (set_old h2))
        have HBX := Lib.hid (show Below w.heap.size w ((wr.setCell ⟨w2.heap.size, 0, none⟩ (.int .i64 (x : Int))).alloc (.cells #[.int .i64 (x : Int), .int .i64 3, .int .i64 vw, .int .i64 seq, .int .i64 tm] 62)) from (Below.setCell bel (p := ⟨w2.heap.size, 0, none⟩) (by show _ ≤ w2.heap.size; omega) _).alloc (by simp; omega) _)
        clear hx hc owx qx GS HE
        go_wp2_with (at_builtin; refine wpList_append_own_at _ rfl (.tmp 39) (.tmp 41) 59 rfl (w2.heap.size + 1) 62 i0 (.agg #[.int .i64 0, .int .i64 0, .int .i64 0, .int .i64 0, .int .i64 0]) 5 40 Tryd.underlying59 hi0 hz0 hz1 hz2 rfl (by decide) _ _ _ rfl HOX.out ⟨wr.heap.size, 0, none⟩ 1 1 (smC ⟨(x : Int), 3, vw, seq, tm⟩) rfl rfl HNW.out (smC_one _) (by unfold maxLen; omega) (by omega) (by omega) ?_; intro v' w9 o1 g9 o3 o4; clear o3)
        have HN9 : ∀ b, b < w6.heap.size → b ≠ w2.heap.size + 1 → w9.heap[b]? = ((wr.setCell ⟨w2.heap.size, 0, none⟩ (.int .i64 (x : Int))).alloc (.cells #[.int .i64 (x : Int), .int .i64 3, .int .i64 vw, .int .i64 seq, .int .i64 tm] 62)).heap[b]? := fun b h1 h2 => g9.block b (by rw [hsx]; omega) (fun e => by
          rcases HQ.out b e.symm with h3 | h3
          · exact h2 h3
          · omega)
        have HQ9 := Lib.hid (show ∀ q, v'.ownBlock = some q → q = w2.heap.size + 1 ∨ w6.heap.size ≤ q from fun q hq => by
          rcases o4 with e | e
          · rw [e] at hq; exact HQ.out q hq
          · rw [e, hsx] at hq; injection hq with hq; omega)
        have q9 := (HN9 w2.heap.size (by omega) (by omega)).trans qy
        have HK9 := Lib.hid (show ∀ b, b < w6.heap.size → b ≠ w2.heap.size → b ≠ w2.heap.size + 1 → w9.heap[b]? = w6.heap[b]? from fun b h1 h2 h3 => ((HN9 b h1 h3).trans (HKX.out b h1 h2)).trans (HK.out b h1 h2 h3))
        have HB9 := below_grownN HBX.out g9 (by rw [hsx]; omega) (fun q hq => by
          rcases HQ.out q hq with h3 | h3
          · omega
          · omega)
        have hs9 : w6.heap.size ≤ w9.heap.size := by have := g9.size; rw [hsx] at this; omega
        exact ⟨⟨k + 1, acc ++ [⟨(x : Int), 3, vw, seq, tm⟩], (x : Int), by omega, by push_cast; rfl, by simp [hal], HA', by rw [List.length_append, List.flatMap_append]; simpa using o1, HQ9, q9, HK9, HB9, hs9⟩, by simp [intOf]; omega⟩
      · obtain rfl : k = LL.length := by omega
        have HAL := Lib.hid (show acc = ⟨p, 2, vw, seq, tm⟩ :: LL.map fun q : Nat => ⟨(q : Int), 3, vw, seq, tm⟩ by rw [HA.out, List.take_length])
        have HO9 := Lib.hid (own_base hown (show w.heap.size ≤ w2.heap.size + 1 by omega))
        go_wp2_with fail
        have ho := HO9.out
        obtain ⟨a9, n9, c9, e9⟩ := own_val ho
        show Z (.returned _) _
        rw [HZ.out, ← HAL.out]
        have hn9 : n9 = acc.length := by
          rw [e9] at ho
          rcases ho.2 with ⟨h1, h2⟩ | ⟨g, cap, cur, h1, _⟩
          · injection h1 with _ q _; omega
          · injection h1
        rw [e9, hn9] at ho
        exact ⟨a9, c9, by rw [← hn9, ← e9]; rfl, ho, bel⟩
end Go.Proofs.YtgmblgpfgdfnaaaDoor
