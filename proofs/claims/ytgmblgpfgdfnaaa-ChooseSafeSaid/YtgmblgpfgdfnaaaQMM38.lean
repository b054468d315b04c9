/- Choose: at, whatever the number. -/
import Derived.Test.YtgmblgpfgdfnaaaQMM37
import Derived.Laws.EntriesVeiled
namespace Go.Proofs.Ytgmblgpfgdfnaaa
open Go Go.RowKit
set_option linter.unusedVariables false
set_option linter.unusedSimpArgs false
set_option maxRecDepth 100000

attribute [local go_sem] Oper.semAt_some
theorem six_allocs (w W : World) (a b c d e f : Obj) (hW : W = (((((w.alloc a).alloc b).alloc c).alloc d).alloc e).alloc f) :
    W.heap[w.heap.size]? = some a ∧ W.heap[w.heap.size + 1]? = some b ∧ W.heap[w.heap.size + 1 + 1]? = some c ∧ W.heap[w.heap.size + 1 + 1 + 1]? = some d ∧ W.heap[w.heap.size + 1 + 1 + 1 + 1]? = some e ∧ W.heap[w.heap.size + 1 + 1 + 1 + 1 + 1]? = some f ∧ W.heap.size = w.heap.size + 1 + 1 + 1 + 1 + 1 + 1 := by
  subst hW
  have h1 : (w.alloc a).heap.size = w.heap.size + 1 := World.size_alloc ..
  have n1 := heap_alloc_new w a
  generalize hw1 : w.alloc a = w1 at *
  have n2 := heap_alloc_new w1 b
  have o1 : (w1.alloc b).heap[w.heap.size]? = some a := (heap_alloc_old w1 b (by omega)).trans n1
  have h2 : (w1.alloc b).heap.size = w1.heap.size + 1 := World.size_alloc ..
  generalize hw2 : w1.alloc b = w2 at *
  have n3 := heap_alloc_new w2 c
  have p1 : (w2.alloc c).heap[w.heap.size]? = some a := (heap_alloc_old w2 c (by omega)).trans o1
  have p2 : (w2.alloc c).heap[w1.heap.size]? = some b := (heap_alloc_old w2 c (by omega)).trans n2
  have h3 : (w2.alloc c).heap.size = w2.heap.size + 1 := World.size_alloc ..
  generalize hw3 : w2.alloc c = w3 at *
  have n4 := heap_alloc_new w3 d
  have q1 : (w3.alloc d).heap[w.heap.size]? = some a := (heap_alloc_old w3 d (by omega)).trans p1
  have q2 : (w3.alloc d).heap[w1.heap.size]? = some b := (heap_alloc_old w3 d (by omega)).trans p2
  have q3 : (w3.alloc d).heap[w2.heap.size]? = some c := (heap_alloc_old w3 d (by omega)).trans n3
  have h4 : (w3.alloc d).heap.size = w3.heap.size + 1 := World.size_alloc ..
  generalize hw4 : w3.alloc d = w4 at *
  have n5 := heap_alloc_new w4 e
  have r1 : (w4.alloc e).heap[w.heap.size]? = some a := (heap_alloc_old w4 e (by omega)).trans q1
  have r2 : (w4.alloc e).heap[w1.heap.size]? = some b := (heap_alloc_old w4 e (by omega)).trans q2
  have r3 : (w4.alloc e).heap[w2.heap.size]? = some c := (heap_alloc_old w4 e (by omega)).trans q3
  have r4 : (w4.alloc e).heap[w3.heap.size]? = some d := (heap_alloc_old w4 e (by omega)).trans n4
  have h5 : (w4.alloc e).heap.size = w4.heap.size + 1 := World.size_alloc ..
  generalize hw5 : w4.alloc e = w5 at *
  have n6 := heap_alloc_new w5 f
  have s1 : (w5.alloc f).heap[w.heap.size]? = some a := (heap_alloc_old w5 f (by omega)).trans r1
  have s2 : (w5.alloc f).heap[w1.heap.size]? = some b := (heap_alloc_old w5 f (by omega)).trans r2
  have s3 : (w5.alloc f).heap[w2.heap.size]? = some c := (heap_alloc_old w5 f (by omega)).trans r3
  have s4 : (w5.alloc f).heap[w3.heap.size]? = some d := (heap_alloc_old w5 f (by omega)).trans r4
  have s5 : (w5.alloc f).heap[w4.heap.size]? = some e := (heap_alloc_old w5 f (by omega)).trans n5
  have h6 : (w5.alloc f).heap.size = w5.heap.size + 1 := World.size_alloc ..
  rw [h1] at h2 s2
  rw [h2] at h3 s3
  rw [h3] at h4 s4
  rw [h4] at h5 s5
  rw [h5] at h6 n6
  exact ⟨s1, s2, s3, s4, s5, n6, h6⟩
/-- What the loop of at keeps. -/
def InvT (M : Nat) (w : World) (seq : Int) (xs : List Ce) (W : World) : Prop :=
  (W.heap[M]? = some (.cells #[.int .i64 seq] 3 (0, 0)) ∧ W.heap[M + 1]? = some (.cells #[.int .i64 0, .int .i64 0, .string (str []), .bool false] 63 (0, 0)) ∧
    W.heap[M + 1 + 1]? = some (.cells (choA seq (pickO seq xs)) 63 (0, 0)) ∧ W.heap[M + 1 + 1 + 1]? = some (.cells #[.int .i64 (viewO (pickO seq xs))] 3 (0, 0)) ∧
    W.heap[M + 1 + 1 + 1 + 1]? = some (.cells #[.func (.func 60) #[] #[.pointer (some ⟨M, 0, none⟩), .pointer (some ⟨M + 1 + 1, 0, none⟩), .pointer (some ⟨M + 1 + 1 + 1, 0, none⟩)]] 105 (0, 0))) ∧ Below M w W
theorem InvT.below {M : Nat} {w : World} {seq : Int} (s : List Ce) (A B : World) (h : InvT M w seq s A) (b : Below A.heap.size A B) : InvT M w seq s B := by
  obtain ⟨⟨h0, h1, h2, h3, h4⟩, hb⟩ := h
  have k : ∀ {j : Nat} {o : Obj}, A.heap[j]? = some o → B.heap[j]? = some o := fun e => (b.block _ (lt_of_block e)).trans e
  exact ⟨⟨k h0, k h1, k h2, k h3, k h4⟩, hb.trans (b.mono (by have := lt_of_block h0; omega))⟩
theorem InvT.from (M : Nat) (w : World) (seq : Int) (hM : M ≤ w.heap.size) (B : Nat) (hB : M ≤ B) : OwnFrom B (InvT M w seq) := by
  rintro s X Y row ⟨⟨h0, h1, h2, h3, h4⟩, hb⟩ hg hrow
  have k : ∀ {j : Nat} {c : Array Value} {t : TypeId} {z : Nat × Nat}, X.heap[j]? = some (.cells c t z) → Y.heap[j]? = some (.cells c t z) := fun {j c t z} e => by
    refine (hg.block j (lt_of_block e) ?_).trans e
    intro e'
    obtain ⟨_, o, ho, hc⟩ := hrow j e'.symm
    rw [e] at ho; cases ho; cases hc
  exact ⟨⟨k h0, k h1, k h2, k h3, k h4⟩, hb.grown hg (Nat.le_trans hM hb.size) fun j e => Nat.le_trans hB (hrow j e).1⟩
theorem choA_cells (seq : Int) (o : Option Ce) : ∃ (a : Int) (t : ByteArray) (b : Bool), choA seq o = #[.int .i64 seq, .int .i64 a, .string t, .bool b] := by
  cases o <;> exact ⟨_, _, _, rfl⟩
theorem choice_cells : (Try.prog.info? 63).map (fun x => x.size) = some 4 := by kernel_rfl
set_option maxHeartbeats 2000000 in
theorem at_any (l : List Cg) (v : Value) (seq : Int) (w : World) (h : RdCg w v l) : Calls Try.prog 45 #[v, .int .i64 seq] w fun e w' => e = .returned (.agg (choA seq (pickO seq (allC l)))) ∧ Below w.heap.size w w' := by
  refine (callsIn_wide (n := 7)).1 ?_
  obtain ⟨ao, cap, rfl, hcl, hcm⟩ := rdcg_val h
  have HRD := Lib.hid h
  obtain ⟨N, hN⟩ : ∃ N, N = l.length := ⟨_, rfl⟩
  rw [← hN] at HRD hcl ⊢
  have HN := Lib.hid hN
  obtain ⟨Z, hZ⟩ : ∃ Z : Ending → World → Prop, Z = fun e w' => e = .returned (.agg (choA seq (pickO seq (allC l)))) ∧ Below w.heap.size w w' := ⟨_, rfl⟩
  rw [← hZ]
  have HZ := Lib.hid hZ
  clear h hN hZ
  refine callsIn_of_wp_marks Try.func45 rfl trivial ?_ rfl
  simp only [Try.ntmps45, List.size_toArray, List.length_cons, List.length_nil, Nat.reduceAdd, Nat.reduceSub, Array.replicate_succ, Array.replicate_zero, List.push_toArray, List.append_toArray, List.nil_append, List.cons_append]
  gi_wp2_with (refine ⟨trivial, ?_⟩; gi_at_call 56; refine (callsIn_wide.2 (certs_any ao N cap _)).mono ?_; rintro e w9 ⟨rfl, rfl⟩)
  obtain ⟨q0, q1, q2, q3, q4, q5, qs⟩ := six_allocs w _ (Obj.cells #[Value.int IntKind.i64 seq] 3) (Obj.cells #[Value.int IntKind.i64 0, Value.int IntKind.i64 0, Value.string { data := #[] }, Value.bool false] 63) (Obj.cells #[Value.int IntKind.i64 seq, Value.int IntKind.i64 0, Value.string { data := #[] }, Value.bool true] 63) (Obj.cells #[Value.int IntKind.i64 0] 3) (Obj.cells #[.func (.func 60) #[] #[.pointer (some ⟨w.heap.size, 0, none⟩), .pointer (some ⟨w.heap.size + 1 + 1, 0, none⟩), .pointer (some ⟨w.heap.size + 1 + 1 + 1, 0, none⟩)]] 105) (Obj.cells #[Value.slice ao N cap] 48) rfl
  have b0 := ((((((Below.refl _ w).alloc (Nat.le_refl _) (Obj.cells #[Value.int IntKind.i64 seq] 3)).alloc (by simp) (Obj.cells #[Value.int IntKind.i64 0, Value.int IntKind.i64 0, Value.string { data := #[] }, Value.bool false] 63)).alloc (by simp; omega) (Obj.cells #[Value.int IntKind.i64 seq, Value.int IntKind.i64 0, Value.string { data := #[] }, Value.bool true] 63)).alloc (by simp; omega) (Obj.cells #[Value.int IntKind.i64 0] 3)).alloc (by simp; omega) (Obj.cells #[.func (.func 60) #[] #[.pointer (some ⟨w.heap.size, 0, none⟩), .pointer (some ⟨w.heap.size + 1 + 1, 0, none⟩), .pointer (some ⟨w.heap.size + 1 + 1 + 1, 0, none⟩)]] 105)).alloc (by simp; omega) (Obj.cells #[Value.slice ao N cap] 48)
  obtain ⟨W0, hW0⟩ : ∃ W, W = (((((w.alloc (Obj.cells #[Value.int IntKind.i64 seq] 3)).alloc (Obj.cells #[Value.int IntKind.i64 0, Value.int IntKind.i64 0, Value.string { data := #[] }, Value.bool false] 63)).alloc (Obj.cells #[Value.int IntKind.i64 seq, Value.int IntKind.i64 0, Value.string { data := #[] }, Value.bool true] 63)).alloc (Obj.cells #[Value.int IntKind.i64 0] 3)).alloc (Obj.cells #[.func (.func 60) #[] #[.pointer (some ⟨w.heap.size, 0, none⟩), .pointer (some ⟨w.heap.size + 1 + 1, 0, none⟩), .pointer (some ⟨w.heap.size + 1 + 1 + 1, 0, none⟩)]] 105)).alloc (Obj.cells #[Value.slice ao N cap] 48) := ⟨_, rfl⟩
  rw [← hW0] at q0 q1 q2 q3 q4 q5 qs b0 ⊢
  have QS := Lib.hid qs
  have HR0 : RdCg w (.slice ao N cap) l := HRD.out
  clear hW0 qs
  refine range_lawM rfl (by decide) (gf := 75) (lb := #[.pointer (some ⟨w.heap.size + 1 + 1 + 1 + 1 + 1, 0, none⟩)]) rfl trivial (enters_of Try.func75 (by kernel_rfl) rfl) (fun _ => rfl)
    (certs_gives (7 - 1) (by decide) (w.heap.size + 1 + 1 + 1 + 1 + 1) (.slice ao N cap) l w W0 HR0 b0 q5)
    (fun A B h => TwA.keeps h _) (fun h k hs => Below.trans (h hs) (k (Nat.le_trans hs (h hs).size))) (kpM_put (by rw [QS.out]; omega))
    (InvT w.heap.size w seq) (fun _ _ _ => False) (InvT.from _ _ _ (Nat.le_refl _) _ (by rw [QS.out]; omega)) (fun _ _ _ _ _ h _ _ => h) (fun s A B h b => InvT.below s A B h b) (fun _ _ _ _ h _ => h)
    ⟨⟨q0, q1, q2, q3, q4⟩, b0⟩
    (fun x W => { tmps := #[.slice ao N cap, .int .i64 seq, undef, .pointer (some ⟨w.heap.size, 0, none⟩), .pointer (some ⟨w.heap.size + 1, 0, none⟩), .pointer (some ⟨w.heap.size + 1 + 1, 0, none⟩), .pointer (some ⟨w.heap.size + 1 + 1 + 1, 0, none⟩), .pointer (some ⟨w.heap.size + 1 + 1 + 1 + 1, 0, none⟩), .pointer (some ⟨W.heap.size, 0, none⟩), .int .i64 seq, .agg #[.int .i64 seq, .int .i64 0, .string { data := #[] }, .bool true], .func (.func 60) #[] #[.pointer (some ⟨w.heap.size, 0, none⟩), .pointer (some ⟨w.heap.size + 1 + 1, 0, none⟩), .pointer (some ⟨w.heap.size + 1 + 1 + 1, 0, none⟩)], .slice ao N cap, .func (.func 75) #[] #[.pointer (some ⟨w.heap.size + 1 + 1 + 1 + 1 + 1, 0, none⟩)], ceV x, undef, undef, undef, undef], defers := [] })
    (fun x W => W.alloc (.cells #[.int .i64 x.sq, .int .i64 x.vw, .int .i64 x.tm, .string (str x.body), .slice x.vo.a x.vo.n x.vo.k] 58))
    (fun x W => (Below.refl _ W).alloc (Nat.le_refl _) _) (fun x W hs => (Below.refl _ W).alloc hs _) (fun s A B h b => InvT.below s A B h b) ?assign ?body ?done ?stop
  case assign =>
    intro l x W K hK
    obtain ⟨a, b, c, d, ⟨va, vn, vk⟩⟩ := x
    unfold ceV at hK ⊢
    simp only at hK ⊢
    gi_wp2
    exact hK
  case body =>
    rintro l pre x W X ⟨⟨h0, h1, h2, h3, h4⟩, hb⟩ hlt hW hn
    obtain ⟨a, b, c, d, ⟨va, vn, vk⟩⟩ := x
    have BE0 := better_any ⟨a, b, c, d, ⟨va, vn, vk⟩⟩ seq (pickO seq pre) w.heap.size (w.heap.size + 1 + 1) (w.heap.size + 1 + 1 + 1) X h0 h2 h3 (by omega) (by omega) (by omega)
    rw [← pick_snoc] at BE0
    have HS := Lib.hid (show True from trivial)
    unfold ceV at BE0 ⊢
    simp only at BE0 hn ⊢
    obtain ⟨D, hD⟩ : ∃ D, D = str d := ⟨_, rfl⟩
    rw [← hD] at BE0 hn ⊢
    rw [heap_alloc_new] at hn
    obtain ⟨e0, e1, e2, e3, e4, ef⟩ := block_cells5 hn
    obtain ⟨f0, ff⟩ := block_cells1 h4
    have BE := Lib.hid BE0
    have H1 := Lib.hid h1
    have H4 := Lib.hid h4
    have H0 := Lib.hid h0
    have HB := Lib.hid hb
    clear BE0 hD hn h0 h1 h2 h3 h4 hb
    gi_wp2_with (refine ⟨trivial, ?_⟩; gi_at_call 60; refine (callsIn_wide.2 BE.out).mono ?_; rintro e w9 ⟨rfl, k2, k3, g2⟩)
    have hsz : w.heap.size + 1 < X.heap.size := lt_of_block H1.out
    have hM : w.heap.size < X.heap.size := by omega
    have hB2 : Below w.heap.size X w9 := g2.below (Below.refl _ _) (by omega) (by omega) (by omega)
    exact ⟨g2.keeps (by rw [QS.out]; omega) (by rw [QS.out]; omega), fun _ => hB2, ⟨⟨(g2.block (lt_of_block H0.out) (by omega) (by omega)).trans H0.out, (g2.block (lt_of_block H1.out) (by omega) (by omega)).trans H1.out, k2, k3, (g2.block (lt_of_block H4.out) (by omega) (by omega)).trans H4.out⟩, HB.out.trans hB2⟩⟩
  case done =>
    rintro D ys W hD rfl ⟨⟨h0, h1, h2, h3, h4⟩, hb⟩ hK
    obtain ⟨a1, a2, a3, hc⟩ := choA_cells seq (pickO seq (allC l))
    rw [hc] at h2
    obtain ⟨c0, c1, c2, c3, cf⟩ := block_cells4 h2
    obtain ⟨d0, d1, d2, d3, df⟩ := block_cells4 h1
    have HH1 := Lib.hid h1
    have HC := Lib.hid hc
    have HB := Lib.hid hb
    clear h0 h1 h2 h3 h4 hc hb
    gi_wp2
    have hD3 : D ≠ w.heap.size + 1 := by have := QS.out; omega
    obtain ⟨WF, hWF⟩ : ∃ X, X = ((((W.setCell ⟨w.heap.size + 1, 0, none⟩ (.int .i64 seq)).setCell ⟨w.heap.size + 1, 1, none⟩ (.int .i64 a1)).setCell ⟨w.heap.size + 1, 2, none⟩ (.string a2)).setCell ⟨w.heap.size + 1, 3, none⟩ (.bool a3)) := ⟨_, rfl⟩
    have f1 : WF.heap[D]? = some (.deferred (some [])) := by rw [hWF]; exact (set4_old hD3).trans hK
    have f2 : WF.heap[w.heap.size + 1]? = some (.cells #[.int .i64 seq, .int .i64 a1, .string a2, .bool a3] 63 (0, 0)) := by rw [hWF]; exact set4_new HH1.out
    have f3 : Below w.heap.size w WF := by
      rw [hWF]
      exact (((HB.out.setCell (p := ⟨w.heap.size + 1, 0, none⟩) (by simp) _).setCell (p := ⟨w.heap.size + 1, 1, none⟩) (by simp) _).setCell (p := ⟨w.heap.size + 1, 2, none⟩) (by simp) _).setCell (p := ⟨w.heap.size + 1, 3, none⟩) (by simp) _
    rw [← hWF]
    clear hWF
    refine ⟨by simp, .inl ⟨_, _, rfl, run_takeDeferred f1, ?_⟩⟩
    refine ⟨_, results_cell_row rfl _ _ _ 63 #[.int .i64 seq, .int .i64 a1, .string a2, .bool a3] (0, 0) _ rfl ((World.putObj_heap_other (by omega)).trans f2) Try.underlying63 rfl choice_cells, ?_⟩
    rw [HZ.out, HC.out]
    exact ⟨rfl, f3.trans (kpM_put (w := w) (Nat.le_refl _) WF D _ _ (by have := QS.out; omega) f1 rfl rfl f3.size)⟩
  case stop =>
    rintro D c pre W _ _ h _
    exact h.elim
end Go.Proofs.Ytgmblgpfgdfnaaa
