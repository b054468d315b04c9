/- Choose: changes as they lie in memory; text, stmts. Written by wip/tools/gen31b.py. -/
import Derived.Test.YtgmblgpfgdfnaaaQMM22
import Derived.Test.YtgmblgpfgdfnaaaQMM29
namespace Go.Proofs.Ytgmblgpfgdfnaaa
open Go Go.RowKit
set_option linter.unusedVariables false
set_option linter.unusedSimpArgs false
set_option maxRecDepth 100000

def Sv.ok (s : Sv) : Prop := s.n ≤ s.k ∧ s.k ≤ maxLen
def ceC (x : Ce) : List Value := [.int .i64 x.sq, .int .i64 x.vw, .int .i64 x.tm, .string (str x.body), .slice x.vo.a x.vo.n x.vo.k]
def ceV (x : Ce) : Value := .agg #[.int .i64 x.sq, .int .i64 x.vw, .int .i64 x.tm, .string (str x.body), .slice x.vo.a x.vo.n x.vo.k]
theorem ceC_len (x : Ce) : (ceC x).length = 5 := rfl
theorem ceC_one (x : Ce) : ∀ u ∈ ceC x, u.oneCell' = true := by
  intro u hu
  simp only [ceC, List.mem_cons, List.not_mem_nil, or_false] at hu
  rcases hu with rfl | rfl | rfl | rfl | rfl <;> rfl
def cgC (x : Cg) : List Value := [.int .i64 x.fr, .int .i64 x.vw, .int .i64 x.st, .int .i64 x.rt, .slice x.pr.a x.pr.n x.pr.k, .slice x.cv.a x.cv.n x.cv.k]
def cgV (x : Cg) : Value := .agg #[.int .i64 x.fr, .int .i64 x.vw, .int .i64 x.st, .int .i64 x.rt, .slice x.pr.a x.pr.n x.pr.k, .slice x.cv.a x.cv.n x.cv.k]
theorem cgC_len (x : Cg) : (cgC x).length = 6 := rfl
theorem cgC_one (x : Cg) : ∀ u ∈ cgC x, u.oneCell' = true := by
  intro u hu
  simp only [cgC, List.mem_cons, List.not_mem_nil, or_false] at hu
  rcases hu with rfl | rfl | rfl | rfl | rfl | rfl <;> rfl
theorem cert_info : (Try.prog.info? 58).map (fun i => (i.zero, i.size, i.bytes)) = some (some (.agg #[.int .i64 0, .int .i64 0, .int .i64 0, .string (str []), .slice none 0 0]), 5, 64) := by kernel_rfl
theorem change_info : (Try.prog.info? 56).map (fun i => (i.zero, i.size, i.bytes)) = some (some (.agg #[.int .i64 0, .int .i64 0, .int .i64 0, .int .i64 0, .slice none 0 0, .slice none 0 0]), 6, 80) := by kernel_rfl
/-- Certificates, and changes, as they lie in memory. -/
def RdCs (w : World) (v : Value) (l : List Ce) : Prop := RdK 5 ceC w v l ∧ ∀ c ∈ l, c.vo.ok ∧ c.body.length ≤ maxLen
def RdCg (w : World) (v : Value) (l : List Cg) : Prop := RdK 6 cgC w v l ∧ ∀ c ∈ l, c.pr.ok ∧ RdCs w (.slice c.cv.a c.cv.n c.cv.k) c.cs
theorem RdCs.below {w w' : World} {v : Value} {l : List Ce} (h : RdCs w v l) {B : Nat} (hb : Below B w w') (hB : w.heap.size ≤ B) : RdCs w' v l := ⟨RdK.below h.1 hb hB, h.2⟩
theorem RdCg.below {w w' : World} {v : Value} {l : List Cg} (h : RdCg w v l) {B : Nat} (hb : Below B w w') (hB : w.heap.size ≤ B) : RdCg w' v l := ⟨RdK.below h.1 hb hB, fun c hc => ⟨(h.2 c hc).1, (h.2 c hc).2.below hb hB⟩⟩
theorem rdcs_len {w : World} {a : Option Addr} {n k : Nat} {l : List Ce} (h : RdCs w (.slice a n k) l) : n = l.length ∧ n ≤ k ∧ k ≤ 9223372036854775807 := by
  obtain ⟨ao', cap', h1, h2, h3, _⟩ := h.1
  cases h1
  exact ⟨rfl, h2, h3⟩
theorem rdce_cells {w : World} {ao : Option Addr} {n cap : Nat} {l : List Ce} (h : RdCs w (.slice ao n cap) l) (j : Nat) (hj : j < l.length) :
    ∃ b off, ao = some ⟨b, off, none⟩ ∧ b < w.heap.size ∧ w.cell? ⟨b, off + j * 5, none⟩ = some (.int .i64 l[j].sq) ∧ w.cell? ⟨b, off + j * 5 + 1, none⟩ = some (.int .i64 l[j].vw) ∧ w.cell? ⟨b, off + j * 5 + 2, none⟩ = some (.int .i64 l[j].tm) ∧ w.cell? ⟨b, off + j * 5 + 3, none⟩ = some (.string (str l[j].body)) ∧ w.cell? ⟨b, off + j * 5 + 4, none⟩ = some (.slice l[j].vo.a l[j].vo.n l[j].vo.k) := by
  obtain ⟨b, off, h1, h2, h3⟩ := RdK.cell ceC_len h.1 j hj
  exact ⟨b, off, h1, h2, h3 0 (by omega), by rw [Nat.add_assoc]; exact h3 1 (by omega), by rw [Nat.add_assoc]; exact h3 2 (by omega), by rw [Nat.add_assoc]; exact h3 3 (by omega), by rw [Nat.add_assoc]; exact h3 4 (by omega)⟩
theorem rdcg_cells {w : World} {ao : Option Addr} {n cap : Nat} {l : List Cg} (h : RdCg w (.slice ao n cap) l) (j : Nat) (hj : j < l.length) :
    ∃ b off, ao = some ⟨b, off, none⟩ ∧ b < w.heap.size ∧ w.cell? ⟨b, off + j * 6, none⟩ = some (.int .i64 l[j].fr) ∧ w.cell? ⟨b, off + j * 6 + 1, none⟩ = some (.int .i64 l[j].vw) ∧ w.cell? ⟨b, off + j * 6 + 2, none⟩ = some (.int .i64 l[j].st) ∧ w.cell? ⟨b, off + j * 6 + 3, none⟩ = some (.int .i64 l[j].rt) ∧ w.cell? ⟨b, off + j * 6 + 4, none⟩ = some (.slice l[j].pr.a l[j].pr.n l[j].pr.k) ∧ w.cell? ⟨b, off + j * 6 + 5, none⟩ = some (.slice l[j].cv.a l[j].cv.n l[j].cv.k) := by
  obtain ⟨b, off, h1, h2, h3⟩ := RdK.cell cgC_len h.1 j hj
  exact ⟨b, off, h1, h2, h3 0 (by omega), by rw [Nat.add_assoc]; exact h3 1 (by omega), by rw [Nat.add_assoc]; exact h3 2 (by omega), by rw [Nat.add_assoc]; exact h3 3 (by omega), by rw [Nat.add_assoc]; exact h3 4 (by omega), by rw [Nat.add_assoc]; exact h3 5 (by omega)⟩
theorem rdcg_val {w : World} {v : Value} {l : List Cg} (r : RdCg w v l) : ∃ a c, v = Value.slice a l.length c ∧ l.length ≤ c ∧ c ≤ 9223372036854775807 := by
  obtain ⟨⟨ao, cap, rfl, h2, h3, _⟩, _⟩ := r
  exact ⟨_, _, rfl, h2, h3⟩
theorem block_cells5 {w : World} {B : Nat} {a0 a1 a2 a3 a4 : Value} {t : TypeId} (h : w.heap[B]? = some (.cells #[a0, a1, a2, a3, a4] t (0, 0))) :
    w.cell? ⟨B, 0, none⟩ = some a0 ∧ w.cell? ⟨B, 1, none⟩ = some a1 ∧ w.cell? ⟨B, 2, none⟩ = some a2 ∧ w.cell? ⟨B, 3, none⟩ = some a3 ∧ w.cell? ⟨B, 4, none⟩ = some a4 ∧ ∀ i, w.frozen? ⟨B, i, none⟩ = false := by
  refine ⟨?_, ?_, ?_, ?_, ?_, ?_⟩
  all_goals simp [World.cell?, World.frozen?, h]
theorem block_cells6 {w : World} {B : Nat} {a0 a1 a2 a3 a4 a5 : Value} {t : TypeId} (h : w.heap[B]? = some (.cells #[a0, a1, a2, a3, a4, a5] t (0, 0))) :
    w.cell? ⟨B, 0, none⟩ = some a0 ∧ w.cell? ⟨B, 1, none⟩ = some a1 ∧ w.cell? ⟨B, 2, none⟩ = some a2 ∧ w.cell? ⟨B, 3, none⟩ = some a3 ∧ w.cell? ⟨B, 4, none⟩ = some a4 ∧ w.cell? ⟨B, 5, none⟩ = some a5 ∧ ∀ i, w.frozen? ⟨B, i, none⟩ = false := by
  refine ⟨?_, ?_, ?_, ?_, ?_, ?_, ?_⟩
  all_goals simp [World.cell?, World.frozen?, h]
theorem str_cut31 (l : List UInt8) (n : Nat) : (str l).extract 0 n = str (l.take n) := by
  apply ByteArray.ext
  simp [str, ByteArray.data_extract]
theorem text_any (l : List UInt8) (w : World) (h : l.length ≤ maxLen) : Calls Try.prog 55 #[.string (str l)] w fun e w' => (∃ t : List UInt8, e = .returned (.string (str t)) ∧ t.length ≤ maxLen) ∧ w = w' := by
  have h1 : (str l).size = l.length := str_size l
  have hm := h
  unfold maxLen at h
  have tl : ∀ n, (l.take n).length ≤ maxLen := fun n => by rw [List.length_take]; omega
  by_cases hl : 3000 < l.length
  · by_cases hk : l.length ≤ 65536
    · have h2 := str_cut31 l 3000
      go_enter Try.func55, Try.ntmps55
      go_wp2_with fail
      go_ret
      exact ⟨⟨l.take 3000, by rw [← h2]; rfl, tl _⟩, rfl⟩
    · by_cases hj : 65540 < l.length
      · have h2 := str_cut31 l 65540
        go_enter Try.func55, Try.ntmps55
        go_wp2_with fail
        go_ret
        exact ⟨⟨l.take 65540, by rw [← h2]; rfl, tl _⟩, rfl⟩
      · go_enter Try.func55, Try.ntmps55
        go_wp2_with fail
        go_ret
        exact ⟨⟨l, rfl, hm⟩, rfl⟩
  · have hj : ¬ 65540 < l.length := by omega
    go_enter Try.func55, Try.ntmps55
    go_wp2_with fail
    go_ret
    exact ⟨⟨l, rfl, hm⟩, rfl⟩
theorem stmts_any (s : Sv) (w : World) (h : s.ok) : Calls Try.prog 54 #[.slice s.a s.n s.k] w fun e w' => (∃ t : Sv, e = .returned (.slice t.a t.n t.k) ∧ t.ok) ∧ w = w' := by
  obtain ⟨a, n, k⟩ := s
  obtain ⟨h1, h2⟩ := h
  simp only at h1 h2
  have hm := h2
  unfold maxLen at h2
  by_cases hl : 66 < n
  · go_enter Try.func54, Try.ntmps54
    go_wp2_with fail
    go_ret
    exact ⟨⟨⟨_, 66, k⟩, rfl, show 66 ≤ k by omega, hm⟩, rfl⟩
  · go_enter Try.func54, Try.ntmps54
    go_wp2_with fail
    go_ret
    exact ⟨⟨⟨a, n, k⟩, rfl, h1, hm⟩, rfl⟩
end Go.Proofs.Ytgmblgpfgdfnaaa
