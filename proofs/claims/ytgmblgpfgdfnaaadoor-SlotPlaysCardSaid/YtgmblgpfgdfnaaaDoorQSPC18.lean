/- Slots: copied; small lemmas on memory. Written by wip/tools/gen29h.py. -/
import Derived.Test.YtgmblgpfgdfnaaaDoorQSPC15
import Derived.Test.YtgmblgpfgdfnaaaDoorQSPC16
import Derived.Test.YtgmblgpfgdfnaaaDoorQSPC17
import Derived.Laws.ResultCell
import Derived.Laws.Rows
namespace Go.Proofs.YtgmblgpfgdfnaaaDoor
open Go Go.RowKit
set_option linter.unusedVariables false
set_option linter.unusedSimpArgs false
set_option maxRecDepth 100000
theorem set6_new {w : World} {B : Nat} {a0 a1 a2 a3 a4 a5 u0 u1 u2 u3 u4 u5 : Value} {t : TypeId} (h : w.heap[B]? = some (.cells #[a0, a1, a2, a3, a4, a5] t (0, 0))) :
    ((((((w.setCell ⟨B, 0, none⟩ u0).setCell ⟨B, 1, none⟩ u1).setCell ⟨B, 2, none⟩ u2).setCell ⟨B, 3, none⟩ u3).setCell ⟨B, 4, none⟩ u4).setCell ⟨B, 5, none⟩ u5).heap[B]? = some (.cells #[u0, u1, u2, u3, u4, u5] t (0, 0)) := by
  simpa using set_at (i := 5) (u := u5) (set_at (i := 4) (u := u4) (set_at (i := 3) (u := u3) (set_at (i := 2) (u := u2) (set_at (i := 1) (u := u1) (set_at (i := 0) (u := u0) h)))))
theorem set6_old {w : World} {B k : Nat} {u0 u1 u2 u3 u4 u5 : Value} (h : k ≠ B) :
    ((((((w.setCell ⟨B, 0, none⟩ u0).setCell ⟨B, 1, none⟩ u1).setCell ⟨B, 2, none⟩ u2).setCell ⟨B, 3, none⟩ u3).setCell ⟨B, 4, none⟩ u4).setCell ⟨B, 5, none⟩ u5).heap[k]? = w.heap[k]? := by
  rw [set_old h, set_old h, set_old h, set_old h, set_old h, set_old h]
theorem set6_grown {w : World} {B : Nat} {u0 u1 u2 u3 u4 u5 : Value} : w.grownBy ((((((w.setCell ⟨B, 0, none⟩ u0).setCell ⟨B, 1, none⟩ u1).setCell ⟨B, 2, none⟩ u2).setCell ⟨B, 3, none⟩ u3).setCell ⟨B, 4, none⟩ u4).setCell ⟨B, 5, none⟩ u5) (some B) :=
  grown_setB (grown_setB (grown_setB (grown_setB (grown_setB (grown_setB grown_reflB)))))
theorem grown_none {w w' : World} {r : Option Nat} (g : Below w.heap.size w w') : w.grownBy w' r := ⟨g.os, g.tape, g.output, g.size, fun k hk _ => g.block k hk⟩
/-- Two lists of votes of a call's own, not in one row. -/
structure Two (w : World) (base : Nat) (vP vC : Value) (ps cs : List Vt) : Prop where
  p : w.ownsRow base 26 3 vP ps.length (ps.flatMap vtC)
  c : w.ownsRow base 26 3 vC cs.length (cs.flatMap vtC)
  apart : ∀ g, vP.ownBlock = some g → vC.ownBlock ≠ some g
theorem Two.kept {w w' : World} {base k : Nat} {vP vC : Value} {ps cs : List Vt} (h : Two w base vP vC ps cs) (g : w.grownBy w' (some k)) (hk : k < base) : Two w' base vP vC ps cs := by
  have f : ∀ v n xs, w.ownsRow base 26 3 v n xs → v.ownBlock = none ∨ v.ownBlock ≠ some k := fun v n xs ho => by
    cases hb : v.ownBlock with
    | none => exact .inl rfl
    | some q => refine .inr fun e => ?_; injection e with e; have := (ho.lt q hb).1; omega
  exact ⟨h.p.kept g (f _ _ _ h.p), h.c.kept g (f _ _ _ h.c), h.apart⟩
theorem Two.rp {w : World} {base : Nat} {vP vC : Value} {ps cs : List Vt} (h : Two w base vP vC ps cs) : RdT w vP ps := own_rdk vtC_len h.p
theorem Two.rc {w : World} {base : Nat} {vP vC : Value} {ps cs : List Vt} (h : Two w base vP vC ps cs) : RdT w vC cs := own_rdk vtC_len h.c
theorem Two.base {w : World} {base b : Nat} {vP vC : Value} {ps cs : List Vt} (h : Two w base vP vC ps cs) (hb : b ≤ base) : Two w b vP vC ps cs := ⟨own_base h.p hb, own_base h.c hb, h.apart⟩
theorem below_grownB {w w1 w2 : World} {B k : Nat} (h : Below B w w1) (g : w1.grownBy w2 (some k)) (hB : B ≤ w1.heap.size) (hk : B ≤ k) : Below B w w2 := h.grown g hB (fun q e => by injection e with e; omega)
theorem own_val {w : World} {base : Nat} {e : TypeId} {s : Nat} {v : Value} {n : Nat} {xs : List Value} (h : w.ownsRow base e s v n xs) : ∃ a n c, v = Value.slice a n c := by
  rcases h.2 with ⟨h1, _⟩ | ⟨g, cap, cur, h1, _⟩
  · exact ⟨_, _, _, h1⟩
  · exact ⟨_, _, _, h1⟩
theorem slot_size : (Tryd.prog.info? 24).map (·.size) = some 6 := by kernel_rfl
theorem results_cell_row_tmp {P : Program} {fn : Func} {p u : Tmp} {ty : TypeId} (h : fn.results = #[.cell p ty, .tmp u]) (tmps : Array Value) (w : World) (g : Nat) (t : TypeId) (cs : Array Value) (fr : Nat × Nat) (d : TypeDesc)
    (hp : tmps.getD p undef = .pointer (some ⟨g, 0, none⟩)) (hg : w.heap[g]? = some (.cells cs t fr))
    (hu : P.underlying ty = some d) (hd : (match d with | .struct _ | .array _ _ => true | _ => false) = true) (hi : (P.info? ty).map (·.size) = some cs.size) :
    (results fn tmps).run P w = .ok (.tuple #[.agg cs, tmps.getD u undef]) w := by
  rw [results_cell_tmp h, hp]
  simp [asAddr, run_loadVar_row w g t ty cs fr d hg hu hd hi]
theorem own_rows_below {w w' : World} {base : Nat} {e : TypeId} {s : Nat} {v : Value} {n : Nat} {xs : List Value} (h : w.ownsRow base e s v n xs) (g : Below w.heap.size w w') : w'.ownsRow base e s v n xs :=
  h.kept (row := none) (grown_none g) (by cases v.ownBlock <;> simp)
set_option maxHeartbeats 1000000 in
theorem copied_any (s : Sl) (vP vC : Value) (w : World) (h : RdS w s vP vC) (h1 : s.ps.length ≤ 1000) (h2 : s.cs.length ≤ 1000) : Calls Tryd.prog 26 #[sV s vP vC] w fun e w' => ∃ vP' vC', e = .returned (sV s vP' vC') ∧ Two w' w.heap.size vP' vC' s.ps s.cs ∧ Below w.heap.size w w' := by
  have CP0 := fun w' (g : Below w.heap.size w w') => clone_any vP s.ps w' (h.p.below g (Nat.le_refl _)) h1
  have CC0 := fun w' (g : Below w.heap.size w w') => clone_any vC s.cs w' (h.c.below g (Nat.le_refl _)) h2
  obtain ⟨has, vw, tm, body, ps, cs⟩ := s
  unfold OwnT at CP0 CC0
  unfold sV
  simp only at CP0 CC0 ⊢
  obtain ⟨S, hS⟩ : ∃ S, S = str body := ⟨_, rfl⟩
  rw [← hS]
  have CP := Lib.hid CP0
  have CC := Lib.hid CC0
  obtain ⟨Z, hZ⟩ : ∃ Z : Ending → World → Prop, Z = fun e w' => ∃ vP' vC', e = .returned (.agg #[.bool has, .int .i64 vw, .int .i64 tm, .string S, vP', vC']) ∧ Two w' w.heap.size vP' vC' ps cs ∧ Below w.heap.size w w' := ⟨_, rfl⟩
  rw [← hZ]
  have HZ := Lib.hid hZ
  clear h CP0 CC0 hS h1 h2 hZ
  go_enter Tryd.func26, Tryd.ntmps26
  go_wp2_with fail
  have q0 : (((w.alloc (.cells #[.bool has, .int .i64 vw, .int .i64 tm, .string S, vP, vC] 24)).alloc (.cells #[.bool false, .int .i64 0, .int .i64 0, .string ⟨#[]⟩, .slice none 0 0, .slice none 0 0] 24)).drew).heap[w.heap.size]? = some (.cells #[.bool has, .int .i64 vw, .int .i64 tm, .string S, vP, vC] 24 (0, 0)) := (heap_alloc_old (w.alloc (.cells #[.bool has, .int .i64 vw, .int .i64 tm, .string S, vP, vC] 24)) (.cells #[.bool false, .int .i64 0, .int .i64 0, .string ⟨#[]⟩, .slice none 0 0, .slice none 0 0] 24) (by simp)).trans (heap_alloc_new w _)
  have q1 : (((w.alloc (.cells #[.bool has, .int .i64 vw, .int .i64 tm, .string S, vP, vC] 24)).alloc (.cells #[.bool false, .int .i64 0, .int .i64 0, .string ⟨#[]⟩, .slice none 0 0, .slice none 0 0] 24)).drew).heap[w.heap.size + 1]? = some (.cells #[.bool false, .int .i64 0, .int .i64 0, .string ⟨#[]⟩, .slice none 0 0, .slice none 0 0] 24 (0, 0)) := by
    exact (two_allocs w (.cells #[.bool has, .int .i64 vw, .int .i64 tm, .string S, vP, vC] 24) (.cells #[.bool false, .int .i64 0, .int .i64 0, .string ⟨#[]⟩, .slice none 0 0, .slice none 0 0] 24)).2.1
  have BL : Below w.heap.size w (((w.alloc (.cells #[.bool has, .int .i64 vw, .int .i64 tm, .string S, vP, vC] 24)).alloc (.cells #[.bool false, .int .i64 0, .int .i64 0, .string ⟨#[]⟩, .slice none 0 0, .slice none 0 0] 24)).drew) := (((Below.refl _ _).alloc (Nat.le_refl _) _).alloc (by simp) _).drew
  refine t_start 7 (by kernel_rfl) ?_
  refine t_take (i := 0) (d := (some 3)) (v := ?_) rfl rfl (by kernel_rfl) (fun _ _ _ h => h) (by rfl) (fun w' hb' => ?_) ?_
  rotate_left
  · (try go_simp); (try with_reducible rfl)
  try simp only [Act.put, List.setIfInBounds_toArray, List.set_cons_zero, List.set_cons_succ]
  refine t_take (i := 1) (d := (some 4)) (v := ?_) rfl rfl (by kernel_rfl) (fun _ _ _ h => h) (by rfl) (fun w' hb' => ?_) ?_
  rotate_left
  · obtain ⟨d0, d1, d2, d3, d4, d5, df⟩ := block_cells6 ((hb'.block _ (lt_of_block q0)).trans q0); (try go_simp); (try with_reducible rfl)
  try simp only [Act.put, List.setIfInBounds_toArray, List.set_cons_zero, List.set_cons_succ]
  refine t_take (i := 3) (d := (some 6)) (v := ?_) rfl rfl (by kernel_rfl) (fun _ _ _ h => h) (by rfl) (fun w' hb' => ?_) ?_
  rotate_left
  · (try go_simp); (try with_reducible rfl)
  try simp only [Act.put, List.setIfInBounds_toArray, List.set_cons_zero, List.set_cons_succ]
  refine t_take (i := 4) (d := (some 7)) (v := ?_) rfl rfl (by kernel_rfl) (fun _ _ _ h => h) (by rfl) (fun w' hb' => ?_) ?_
  rotate_left
  · obtain ⟨d0, d1, d2, d3, d4, d5, df⟩ := block_cells6 ((hb'.block _ (lt_of_block q0)).trans q0); (try go_simp); (try with_reducible rfl)
  try simp only [Act.put, List.setIfInBounds_toArray, List.set_cons_zero, List.set_cons_succ]
  refine t_run (i := 2) rfl (by kernel_rfl) (by kernel_rfl) (by rfl) (fun K hK => ?_)
  go_simp; refine (CP.out _ BL).mono ?_; rintro e w2 ⟨v2, rfl, own2, g⟩; obtain ⟨a2, n2, k2, rfl⟩ := own_val own2; have q2 := (g.block _ (lt_of_block q0)).trans q0; have BL2 := chain BL g; refine hK _ _ ⟨g, ?_⟩; clear hK K
  try simp only [Act.put, List.setIfInBounds_toArray, List.set_cons_zero, List.set_cons_succ]
  refine t_take (i := 6) (d := (some 9)) (v := ?_) rfl rfl (by kernel_rfl) (fun _ _ _ h => h) (by rfl) (fun w' hb' => ?_) ?_
  rotate_left
  · (try go_simp); (try with_reducible rfl)
  try simp only [Act.put, List.setIfInBounds_toArray, List.set_cons_zero, List.set_cons_succ]
  refine t_run (i := 5) rfl (by kernel_rfl) (by kernel_rfl) (by rfl) (fun K hK => ?_)
  go_simp; refine (CC.out _ BL2).mono ?_; rintro e w3 ⟨v3, rfl, own3, g3⟩; obtain ⟨a3, n3, k3, rfl⟩ := own_val own3; have q3 := (g3.block _ (lt_of_block q2)).trans q2; have BL3 := chain BL2 g3; refine hK _ _ ⟨g3, ?_⟩; clear hK K
  try simp only [Act.put, List.setIfInBounds_toArray, List.set_cons_zero, List.set_cons_succ]
  refine t_into ?_
  refine t_tail (i := 7) rfl (by kernel_rfl) (by kernel_rfl) (by rfl) (fun K hK => ?_)
  obtain ⟨d0, d1, d2, d3, d4, d5, df⟩ := block_cells6 q3; go_simp; refine hK _ _ ?_; clear hK K d0 d1 d2 d3 d4 d5 df
  try simp only [Act.put, List.setIfInBounds_toArray, List.set_cons_zero, List.set_cons_succ]
  refine t_tail (i := 8) rfl (by kernel_rfl) (by kernel_rfl) (by rfl) (fun K hK => ?_)
  go_simp; refine hK _ _ ?_; clear hK K
  try simp only [Act.put, List.setIfInBounds_toArray, List.set_cons_zero, List.set_cons_succ]
  refine t_tail (i := 9) rfl (by kernel_rfl) (by kernel_rfl) (by rfl) (fun K hK => ?_)
  have q4 : (w3.setCell ⟨w.heap.size, 4, none⟩ (.slice a2 n2 k2)).heap[w.heap.size]? = some (.cells #[.bool has, .int .i64 vw, .int .i64 tm, .string S, .slice a2 n2 k2, vC] 24 (0, 0)) := (by simpa using set_at (i := 4) (u := .slice a2 n2 k2) q3); obtain ⟨d0, d1, d2, d3, d4, d5, df⟩ := block_cells6 q4; go_simp; refine hK _ _ ?_; clear hK K d0 d1 d2 d3 d4 d5 df
  try simp only [Act.put, List.setIfInBounds_toArray, List.set_cons_zero, List.set_cons_succ]
  refine t_over (by kernel_rfl) ?_
  have q5 : ((w3.setCell ⟨w.heap.size, 4, none⟩ (.slice a2 n2 k2)).setCell ⟨w.heap.size, 5, none⟩ (.slice a3 n3 k3)).heap[w.heap.size]? = some (.cells #[.bool has, .int .i64 vw, .int .i64 tm, .string S, .slice a2 n2 k2, .slice a3 n3 k3] 24 (0, 0)) := by simpa using set_at (i := 5) (u := (.slice a3 n3 k3)) (set_at (i := 4) (u := (.slice a2 n2 k2)) q3)
  have q6 : ((w3.setCell ⟨w.heap.size, 4, none⟩ (.slice a2 n2 k2)).setCell ⟨w.heap.size, 5, none⟩ (.slice a3 n3 k3)).heap[w.heap.size + 1]? = some (.cells #[.bool false, .int .i64 0, .int .i64 0, .string ⟨#[]⟩, .slice none 0 0, .slice none 0 0] 24 (0, 0)) := by
    rw [set_old (by omega), set_old (by omega)]; exact (g3.block _ (lt_of_block ((g.block _ (lt_of_block q1)).trans q1))).trans ((g.block _ (lt_of_block q1)).trans q1)
  have hs1 : w.heap.size + 2 ≤ w2.heap.size := by have := lt_of_block ((g.block _ (lt_of_block q1)).trans q1); omega
  have TW : Two w3 (w.heap.size + 2) (.slice a2 n2 k2) (.slice a3 n3 k3) ps cs := by
    refine ⟨own_base (own_rows_below own2 g3) (by simp), own_base own3 hs1, fun k hk e => ?_⟩
    have h1 := (own2.lt k hk).2
    have h2 := (own3.lt k e).1
    omega
  have hs3 : w.heap.size + 2 ≤ w3.heap.size := Nat.le_trans hs1 g3.size
  have G5 : w3.grownBy ((w3.setCell ⟨w.heap.size, 4, none⟩ (.slice a2 n2 k2)).setCell ⟨w.heap.size, 5, none⟩ (.slice a3 n3 k3)) (some w.heap.size) := grown_setB (grown_setB grown_reflB)
  have TW5 := TW.kept G5 (by omega)
  have BL5 := below_grownB BL3 G5 (by omega) (Nat.le_refl _)
  clear TW G5 BL3 BL2 own2 own3 g g3 q0 q1 q2 q3 BL hs1
  obtain ⟨W5, hW5⟩ : ∃ W5, W5 = (w3.setCell ⟨w.heap.size, 4, none⟩ (.slice a2 n2 k2)).setCell ⟨w.heap.size, 5, none⟩ (.slice a3 n3 k3) := ⟨_, rfl⟩
  have hs5 : w.heap.size + 2 ≤ W5.heap.size := by rw [hW5]; simpa using hs3
  rw [← hW5] at q5 q6 TW5 BL5 ⊢
  clear hW5 hs3
  obtain ⟨f0, f1, f2, f3, f4, f5, ff⟩ := block_cells6 q5
  obtain ⟨e0, e1, e2, e3, e4, e5, ef⟩ := block_cells6 q6
  have FIN := TW5.kept (set6_grown (w := W5) (B := w.heap.size + 1) (u0 := .bool has) (u1 := .int .i64 vw) (u2 := .int .i64 tm) (u3 := .string S) (u4 := (.slice a2 n2 k2)) (u5 := (.slice a3 n3 k3))) (by omega)
  have FIB := below_grownB BL5 (set6_grown (w := W5) (B := w.heap.size + 1) (u0 := .bool has) (u1 := .int .i64 vw) (u2 := .int .i64 tm) (u3 := .string S) (u4 := (.slice a2 n2 k2)) (u5 := (.slice a3 n3 k3))) (by omega) (by omega)
  have FIN := Lib.hid FIN
  have FIB := Lib.hid FIB
  have Q9 := Lib.hid (set6_new (u0 := .bool has) (u1 := .int .i64 vw) (u2 := .int .i64 tm) (u3 := .string S) (u4 := (.slice a2 n2 k2)) (u5 := (.slice a3 n3 k3)) q6)
  clear TW5 BL5 q5
  go_wp2_with fail
  refine bodyPost_ret (results_cell_row rfl _ _ _ _ _ (0, 0) _ rfl Q9.out Tryd.underlying24 rfl slot_size) rfl ?_
  show Z (.returned _) _
  rw [HZ.out]
  exact ⟨_, _, rfl, FIN.out.base (by omega), FIB.out⟩
end Go.Proofs.YtgmblgpfgdfnaaaDoor
