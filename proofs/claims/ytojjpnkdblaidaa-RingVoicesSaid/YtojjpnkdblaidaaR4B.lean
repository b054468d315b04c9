/- Has, by the ring: a look into its map. Written by wip/tools/gen4b.py. -/
import Derived.Test.YtojjpnkdblaidaaR4A
import Derived.Test.YtojjpnkdblaidaaReg
namespace Go.Proofs.Ytojjpnkdblaidaa
open Go Go.RowKit Go.Maps
set_option linter.unusedVariables false
set_option linter.unusedSimpArgs false
theorem RG.kept {w w' : World} {base B M n : Nat} {bad : Nat → Bool} {sv : Value} {L : List St} (h : RG w base B M n bad sv L)
    (g : ∀ k, k < w.heap.size → (k = B ∨ k = M ∨ sv.ownBlock = some k) → w'.heap[k]? = w.heap[k]?) : RG w' base B M n bad sv L := by
  obtain ⟨cs, h1, h2⟩ := h.blk
  refine ⟨h.hn, h.wf, h.par, h.len, h.bB, h.bM, ⟨cs, (g B (lt_of_block h1) (.inl rfl)).trans h1, h2⟩, ?_, ?_⟩
  · obtain ⟨es, clock, h3, h4⟩ := h.map
    exact ⟨es, clock, (g M (lt_of_block h3) (.inr (.inl rfl))).trans h3, h4⟩
  · refine ⟨h.row.1, ?_⟩
    rcases h.row.2 with hn | ⟨k, cap, cur, rfl, hb, hgg, rest⟩
    · exact .inl hn
    · exact .inr ⟨k, cap, cur, rfl, hb, (g k (lt_of_block hgg) (.inr (.inr rfl))).trans hgg, rest⟩
theorem RG.below {w w' : World} {base B M n : Nat} {bad : Nat → Bool} {sv : Value} {L : List St} (h : RG w base B M n bad sv L) (g : Below w.heap.size w w') : RG w' base B M n bad sv L :=
  h.kept fun k hk _ => g.block k hk
theorem cells5 {w : World} {B : Nat} {a0 a1 a2 a3 a4 : Value} {t : TypeId} (h : w.heap[B]? = some (.cells #[a0, a1, a2, a3, a4] t (0, 0))) :
    w.cell? ⟨B, 0, none⟩ = some a0 ∧ w.cell? ⟨B, 1, none⟩ = some a1 ∧ w.cell? ⟨B, 2, none⟩ = some a2 ∧ w.cell? ⟨B, 3, none⟩ = some a3 ∧ w.cell? ⟨B, 4, none⟩ = some a4 ∧ ∀ i, w.frozen? ⟨B, i, none⟩ = false := by
  refine ⟨?_, ?_, ?_, ?_, ?_, ?_⟩
  all_goals simp [World.cell?, World.frozen?, h]
theorem look_run {w : World} {base B M n : Nat} {bad : Nat → Bool} {sv : Value} {L : List St} (h : RG w base B M n bad sv L) (s : St) (hs : s.Wf) :
    (Instr.lookup 52 (.map (some M)) (.agg #[.int .i64 s.a, .int .i64 s.b, .int .i64 s.c, .int .i64 s.d, .int .i64 s.e]) true).run Try.prog w = .ok (.tuple #[.agg #[], .bool (decide (s ∈ L))]) w := by
  obtain ⟨v, ps, h1, h2⟩ := h.map.look_ok law Try.underlying52 (z := .agg #[]) (by kernel_rfl) unitElem_mk (key_st s hs)
  obtain ⟨rfl, _⟩ := unitElem_inv h2
  rw [has_setD L s h.wf hs] at h1
  exact h1
set_option maxRecDepth 100000 in
theorem has_any (base B M n : Nat) (bad : Nat → Bool) (sv : Value) (L : List St) (s : St) (hs : s.Wf) (w : World) (h : RG w base B M n bad sv L) :
    Calls Try.prog 13 #[.pointer (some ⟨B, 0, none⟩), s.v] w fun e w' => e = .returned (.bool (decide (s ∈ L))) ∧ Below w.heap.size w w' := by
  unfold St.v
  go_enter Try.func13, Try.ntmps13
  go_wp2_with fail
  obtain ⟨W, hW⟩ : ∃ W, W = w.alloc (.cells #[.int .i64 s.a, .int .i64 s.b, .int .i64 s.c, .int .i64 s.d, .int .i64 s.e] 39) := ⟨_, rfl⟩
  rw [← hW]
  have Be : Below w.heap.size w W := by rw [hW]; exact (Below.refl _ _).alloc (Nat.le_refl _) _
  have hq : W.heap[w.heap.size]? = some (.cells #[.int .i64 s.a, .int .i64 s.b, .int .i64 s.c, .int .i64 s.d, .int .i64 s.e] 39 (0, 0)) := by rw [hW]; exact heap_alloc_new _ _
  have lq := lt_of_block hq
  have HS := Lib.hid hs
  clear hW hs
  refine g_start (by kernel_rfl) ?_
  refine g_take (i := 0) (d := (some 8)) (v := ?_) rfl rfl (by kernel_rfl) (fun _ _ _ h => h) (by rfl) (fun w' hb' => ?_) ?_
  rotate_left
  · (try go_simp); (try with_reducible rfl)
  try simp only [Act.put, List.setIfInBounds_toArray, List.set_cons_zero, List.set_cons_succ]
  refine g_take (i := 1) (d := (some 9)) (v := ?_) rfl rfl (by kernel_rfl) (fun _ _ _ h => h) (by rfl) (fun w' hb' => ?_) ?_
  rotate_left
  · (try go_simp); (try with_reducible rfl)
  try simp only [Act.put, List.setIfInBounds_toArray, List.set_cons_zero, List.set_cons_succ]
  refine g_take (i := 2) (d := (some 10)) (v := ?_) rfl rfl (by kernel_rfl) (fun _ _ _ h => h) (by rfl) (fun w' hb' => ?_) ?_
  rotate_left
  · (try go_simp); (try with_reducible rfl)
  try simp only [Act.put, List.setIfInBounds_toArray, List.set_cons_zero, List.set_cons_succ]
  refine g_take (i := 3) (d := (some 11)) (v := ?_) rfl rfl (by kernel_rfl) (fun _ _ _ h => h) (by rfl) (fun w' hb' => ?_) ?_
  rotate_left
  · have hc := (h.below (chain Be.drew hb')).cellm; (try go_simp); (try with_reducible rfl)
  try simp only [Act.put, List.setIfInBounds_toArray, List.set_cons_zero, List.set_cons_succ]
  refine g_take (i := 4) (d := (some 12)) (v := ?_) rfl rfl (by kernel_rfl) (fun _ _ _ h => h) (by rfl) (fun w' hb' => ?_) ?_
  rotate_left
  · have hc := cells5 ((hb'.block _ lq).trans hq); (try go_simp); (try with_reducible rfl)
  try simp only [Act.put, List.setIfInBounds_toArray, List.set_cons_zero, List.set_cons_succ]
  refine g_take (i := 5) (d := (some 13)) (v := ?_) rfl rfl (by kernel_rfl) (fun _ _ _ h => h) (by rfl) (fun w' hb' => ?_) ?_
  rotate_left
  · have hc := look_run (h.below (chain Be.drew hb')) s HS.out; (try go_simp); (try with_reducible rfl)
  try simp only [Act.put, List.setIfInBounds_toArray, List.set_cons_zero, List.set_cons_succ]
  refine g_take (i := 6) (d := (some 7)) (v := ?_) rfl rfl (by kernel_rfl) (fun _ _ _ h => h) (by rfl) (fun w' hb' => ?_) ?_
  rotate_left
  · (try go_simp); (try with_reducible rfl)
  try simp only [Act.put, List.setIfInBounds_toArray, List.set_cons_zero, List.set_cons_succ]
  refine g_take (i := 7) (d := (some 14)) (v := ?_) rfl rfl (by kernel_rfl) (fun _ _ _ h => h) (by rfl) (fun w' hb' => ?_) ?_
  rotate_left
  · (try go_simp); (try with_reducible rfl)
  try simp only [Act.put, List.setIfInBounds_toArray, List.set_cons_zero, List.set_cons_succ]
  refine g_take (i := 8) (d := (some 15)) (v := ?_) rfl rfl (by kernel_rfl) (fun _ _ _ h => h) (by rfl) (fun w' hb' => ?_) ?_
  rotate_left
  · (try go_simp); (try with_reducible rfl)
  try simp only [Act.put, List.setIfInBounds_toArray, List.set_cons_zero, List.set_cons_succ]
  refine g_run (i := 9) rfl (by kernel_rfl) (by rfl) (fun K hK => ?_)
  go_simp; refine hK _ _ ⟨(Below.refl _ _).alloc (Nat.le_refl _) _, ?_⟩; clear hK K
  try simp only [Act.put, List.setIfInBounds_toArray, List.set_cons_zero, List.set_cons_succ]
  refine g_run (i := 10) rfl (by kernel_rfl) (by rfl) (fun K hK => ?_)
  go_simp; refine hK _ _ ⟨Below.refl _ _, ?_⟩; clear hK K
  try simp only [Act.put, List.setIfInBounds_toArray, List.set_cons_zero, List.set_cons_succ]
  refine g_take (i := 11) (d := (some 6)) (v := ?_) rfl rfl (by kernel_rfl) (fun _ _ _ h => h) (by rfl) (fun w' hb' => ?_) ?_
  rotate_left
  · (try go_simp); (try with_reducible rfl)
  try simp only [Act.put, List.setIfInBounds_toArray, List.set_cons_zero, List.set_cons_succ]
  refine g_done (by kernel_rfl) ?_
  go_wp2_with fail
  go_ret
  exact ⟨rfl, (Be.alloc Be.size _).drew⟩
end Go.Proofs.Ytojjpnkdblaidaa
