/- Slots: Prepare, Commit, Propose, by the program. Written by wip/tools/gen29j.py. -/
import Derived.Test.YtgmblgpfgdfnaaaDoorQSPC20
import Derived.Test.YtgmblgpfgdfnaaaDoorQSPC21
import Derived.Laws.Tables
namespace Go.Proofs.YtgmblgpfgdfnaaaDoor
open Go Go.RowKit
set_option linter.unusedVariables false
set_option linter.unusedSimpArgs false
set_option maxRecDepth 100000
theorem three_allocs (w : World) (a b c : Obj) : (((w.alloc a).alloc b).alloc c).heap[w.heap.size]? = some a ∧ (((w.alloc a).alloc b).alloc c).heap[w.heap.size + 1]? = some b ∧ (((w.alloc a).alloc b).alloc c).heap[w.heap.size + 2]? = some c ∧ Below w.heap.size w (((w.alloc a).alloc b).alloc c) := by
  obtain ⟨h1, h2, h3, _⟩ := two_allocs w a b
  refine ⟨(heap_alloc_old _ _ (by omega)).trans h1, (heap_alloc_old _ _ (by omega)).trans h2, ?_, (((Below.refl _ _).alloc (Nat.le_refl _) _).alloc (by simp) _).alloc (by simp; omega) _⟩
  rw [← h3]; exact heap_alloc_new _ _
/-- What comes back is a slot and an error's number; what was there stays. -/
def GivesP (w : World) (s : Sl) (code : Nat) (e : Ending) (w' : World) : Prop := ∃ a1 n1 c1 a2 n2 c2, e = .returned (.tuple #[sV s (.slice a1 n1 c1) (.slice a2 n2 c2), .int .i64 (code : Int)]) ∧ OwnS w' w.heap.size s (.slice a1 n1 c1) (.slice a2 n2 c2) ∧ Below w.heap.size w w'
theorem rdt_val {w : World} {v : Value} {l : List Vt} (h : RdT w v l) : ∃ a n c, v = .slice a n c := by
  obtain ⟨ao, cap, h1, _⟩ := h
  exact ⟨_, _, _, h1⟩
set_option maxHeartbeats 1000000 in
theorem prep_any (s : Sl) (vP vC : Value) (v : Vt) (w : World) (h : RdS w s vP vC) : Calls Tryd.prog 9 #[sV s vP vC, vtV v] w (GivesP w (prepR s v) (castE s s.ps v)) := by
  obtain ⟨t0, t1, t2, t3⟩ := three_allocs w (.cells #[.bool s.has, .int .i64 s.vw, .int .i64 s.tm, .string (str s.body), vP, vC] 24) (.cells #[.int .i64 v.fr, .int .i64 v.vw, .int .i64 v.tm] 26) (.cells #[.bool false, .int .i64 0, .int .i64 0, .string ⟨#[]⟩, .slice none 0 0, .slice none 0 0] 24)
  have CA0 := cast_prep s vP vC v w.heap.size _ t0 (h.below t3 (Nat.le_refl _))
  obtain ⟨R, hR⟩ : ∃ R, R = prepR s v := ⟨_, rfl⟩
  obtain ⟨E, hE⟩ : ∃ E, E = castE s s.ps v := ⟨_, rfl⟩
  rw [← hR, ← hE] at CA0 ⊢
  obtain ⟨Z, hZ⟩ : ∃ Z, Z = GivesP w R E := ⟨_, rfl⟩
  rw [← hZ]
  have HZ := Lib.hid hZ
  obtain ⟨has, vw, tm, body, ps, cs⟩ := s
  obtain ⟨a, b, c⟩ := v
  obtain ⟨has2, vw2, tm2, body2, ps2, cs2⟩ := R
  unfold GivesSl vtV at CA0
  unfold sV at CA0 ⊢
  unfold vtV
  simp only at CA0 t0 t1 t2 t3 ⊢
  obtain ⟨S, hS⟩ : ∃ S, S = str body := ⟨_, rfl⟩
  rw [← hS] at CA0 t0 t1 t2 t3 ⊢
  obtain ⟨S2, hS2⟩ : ∃ S2, S2 = str body2 := ⟨_, rfl⟩
  rw [← hS2] at CA0
  have HS2 := Lib.hid hS2
  have CA := Lib.hid CA0
  have HBL := Lib.hid h.b
  clear CA0 h hZ hS hR hE hS2
  go_enter Tryd.func9, Tryd.ntmps9
  go_wp2_with ((with_reducible refine (CA.out).mono ?_); rintro e w2 ⟨v2, v3, rfl, rd, g⟩; (obtain ⟨a2, n2, k2, rfl⟩ := own_val rd.p); (obtain ⟨a3, n3, k3, rfl⟩ := own_val rd.c); (have q2 := (g.block _ (lt_of_block t2) (by simp)).trans t2); (obtain ⟨z0, z1, z2, z3, z4, z5, zf⟩ := block_cells6 q2); (have QZ := Lib.hid (set6_new (u0 := .bool has2) (u1 := .int .i64 vw2) (u2 := .int .i64 tm2) (u3 := .string S2) (u4 := .slice a2 n2 k2) (u5 := .slice a3 n3 k3) q2)); (have HG := Lib.hid g); (have HR := Lib.hid rd); clear g rd q2 t0 t1 t2)
  refine bodyPost_ret (results_cell_row_tmp rfl _ _ _ _ _ (0, 0) _ rfl QZ.out Tryd.underlying24 rfl slot_size) rfl ?_
  show Z (.returned _) _
  rw [HZ.out]
  have hb2 : Below w.heap.size w w2 := t3.trans ⟨HG.out.os, HG.out.tape, HG.out.output, HG.out.size, fun k hk => HG.out.block k (Nat.lt_of_lt_of_le hk t3.size) (by simp; omega)⟩
  refine ⟨a2, n2, k2, a3, n3, k3, by rw [HS2.out]; rfl, ?_, ?_⟩
  · exact (HR.out.kept (set6_grown (w := w2) (B := w.heap.size + 2) (u0 := .bool has2) (u1 := .int .i64 vw2) (u2 := .int .i64 tm2) (u3 := .string S2) (u4 := .slice a2 n2 k2) (u5 := .slice a3 n3 k3)) (by simp)).base (by simp; omega)
  · exact below_grownB hb2 (set6_grown (w := w2) (B := w.heap.size + 2) (u0 := .bool has2) (u1 := .int .i64 vw2) (u2 := .int .i64 tm2) (u3 := .string S2) (u4 := .slice a2 n2 k2) (u5 := .slice a3 n3 k3)) hb2.size (by omega)
set_option maxHeartbeats 1000000 in
theorem com_any (s : Sl) (vP vC : Value) (v : Vt) (w : World) (h : RdS w s vP vC) : Calls Tryd.prog 10 #[sV s vP vC, vtV v] w (GivesP w (comR s v) (castE s s.cs v)) := by
  obtain ⟨t0, t1, t2, t3⟩ := three_allocs w (.cells #[.bool s.has, .int .i64 s.vw, .int .i64 s.tm, .string (str s.body), vP, vC] 24) (.cells #[.int .i64 v.fr, .int .i64 v.vw, .int .i64 v.tm] 26) (.cells #[.bool false, .int .i64 0, .int .i64 0, .string ⟨#[]⟩, .slice none 0 0, .slice none 0 0] 24)
  have CA0 := cast_com s vP vC v w.heap.size _ t0 (h.below t3 (Nat.le_refl _))
  obtain ⟨R, hR⟩ : ∃ R, R = comR s v := ⟨_, rfl⟩
  obtain ⟨E, hE⟩ : ∃ E, E = castE s s.cs v := ⟨_, rfl⟩
  rw [← hR, ← hE] at CA0 ⊢
  obtain ⟨Z, hZ⟩ : ∃ Z, Z = GivesP w R E := ⟨_, rfl⟩
  rw [← hZ]
  have HZ := Lib.hid hZ
  obtain ⟨has, vw, tm, body, ps, cs⟩ := s
  obtain ⟨a, b, c⟩ := v
  obtain ⟨has2, vw2, tm2, body2, ps2, cs2⟩ := R
  unfold GivesSl vtV at CA0
  unfold sV at CA0 ⊢
  unfold vtV
  simp only at CA0 t0 t1 t2 t3 ⊢
  obtain ⟨S, hS⟩ : ∃ S, S = str body := ⟨_, rfl⟩
  rw [← hS] at CA0 t0 t1 t2 t3 ⊢
  obtain ⟨S2, hS2⟩ : ∃ S2, S2 = str body2 := ⟨_, rfl⟩
  rw [← hS2] at CA0
  have HS2 := Lib.hid hS2
  have CA := Lib.hid CA0
  have HBL := Lib.hid h.b
  clear CA0 h hZ hS hR hE hS2
  go_enter Tryd.func10, Tryd.ntmps10
  go_wp2_with ((with_reducible refine (CA.out).mono ?_); rintro e w2 ⟨v2, v3, rfl, rd, g⟩; (obtain ⟨a2, n2, k2, rfl⟩ := own_val rd.p); (obtain ⟨a3, n3, k3, rfl⟩ := own_val rd.c); (have q2 := (g.block _ (lt_of_block t2) (by simp)).trans t2); (obtain ⟨z0, z1, z2, z3, z4, z5, zf⟩ := block_cells6 q2); (have QZ := Lib.hid (set6_new (u0 := .bool has2) (u1 := .int .i64 vw2) (u2 := .int .i64 tm2) (u3 := .string S2) (u4 := .slice a2 n2 k2) (u5 := .slice a3 n3 k3) q2)); (have HG := Lib.hid g); (have HR := Lib.hid rd); clear g rd q2 t0 t1 t2)
  refine bodyPost_ret (results_cell_row_tmp rfl _ _ _ _ _ (0, 0) _ rfl QZ.out Tryd.underlying24 rfl slot_size) rfl ?_
  show Z (.returned _) _
  rw [HZ.out]
  have hb2 : Below w.heap.size w w2 := t3.trans ⟨HG.out.os, HG.out.tape, HG.out.output, HG.out.size, fun k hk => HG.out.block k (Nat.lt_of_lt_of_le hk t3.size) (by simp; omega)⟩
  refine ⟨a2, n2, k2, a3, n3, k3, by rw [HS2.out]; rfl, ?_, ?_⟩
  · exact (HR.out.kept (set6_grown (w := w2) (B := w.heap.size + 2) (u0 := .bool has2) (u1 := .int .i64 vw2) (u2 := .int .i64 tm2) (u3 := .string S2) (u4 := .slice a2 n2 k2) (u5 := .slice a3 n3 k3)) (by simp)).base (by simp; omega)
  · exact below_grownB hb2 (set6_grown (w := w2) (B := w.heap.size + 2) (u0 := .bool has2) (u1 := .int .i64 vw2) (u2 := .int .i64 tm2) (u3 := .string S2) (u4 := .slice a2 n2 k2) (u5 := .slice a3 n3 k3)) hb2.size (by omega)
end Go.Proofs.YtgmblgpfgdfnaaaDoor
