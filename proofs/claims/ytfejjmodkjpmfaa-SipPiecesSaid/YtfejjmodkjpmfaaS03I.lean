/- The walk of the law SipTags. Written by wip/tools/gen3i.py. -/
import Derived.Test.YtfejjmodkjpmfaaS03H
import Derived.Test.YtfejjmodkjpmfaaS03O
namespace Go.Proofs.Ytfejjmodkjpmfaa
open Go.RowKit
set_option linter.unusedVariables false
set_option linter.unusedSimpArgs false
theorem cv {w : World} {v : Value} {l : List UInt8} (h : Rd w v l) : (convert 25 9 v).run Try.prog w = .ok (.string (str l)) w :=
  conv_rd h 25 5 9 Try.underlying25 Try.underlying5 Try.underlying9
set_option maxRecDepth 100000 in
set_option maxHeartbeats 2000000 in
theorem tags_row (k0 k1 : Nat) (v : Value) (l : List UInt8) (T : Int) (W : World) (h0 : k0 < 18446744073709551616) (h1 : k1 < 18446744073709551616) (h : Rd W v l) (hw : (Lit.int .u64 T).wf = true) :
    Calls Try.prog 3 #[.agg #[.int .u64 (k0 : Int), .int .u64 (k1 : Int)], v, .int .u64 T] W fun e w' => e = .returned (.bool true) ∧ Below W.heap.size W w' := by
  have Sr := fun v l hl w hd => reftag_any k0 k1 h0 h1 v l hl w hd
  have St := fun v l hl w hd => sip_any k0 k1 h0 h1 v l hl w hd
  have Sc := fun v l hl T w hd => check_any k0 k1 h0 h1 v l hl T w hd
  clear h0 h1 hw
  go_enter Try.func3, Try.ntmps3
  go_wp2_with fail
  have zk : (W.alloc (.cells #[.int .u64 (k0 : Int), .int .u64 (k1 : Int)] 24)).heap[W.heap.size]? = some (.cells #[.int .u64 (k0 : Int), .int .u64 (k1 : Int)] 24 (0, 0)) := heap_alloc_new _ _
  have Bel : Below W.heap.size W (W.alloc (.cells #[.int .u64 (k0 : Int), .int .u64 (k1 : Int)] 24)) := (Below.refl _ _).alloc (Nat.le_refl _) _
  generalize W.alloc (.cells #[.int .u64 (k0 : Int), .int .u64 (k1 : Int)] 24) = w0 at zk Bel ⊢
  have rd := h.below Bel (Nat.le_refl _)
  clear h
  refine (few_any v l _ rd).mono ?_
  rintro e w1 ⟨⟨v', rfl, rd0⟩, rfl⟩
  have hl6 : (l.take 600).length ≤ 600 := by simp; omega
  generalize l.take 600 = m at rd0 hl6
  clear rd
  have Sr := fun w hd => Sr v' m (by omega) w hd
  have St := fun w hd => St v' m (by omega) w hd
  have Sc1 := fun w hd => Sc v' m (by omega) (sipN k0 k1 m : Int) w hd
  have Sc2 := fun w hd => Sc v' m (by omega) T w hd
  clear Sc
  generalize sipN k0 k1 m = s at Sr St Sc1 Sc2
  rw [show ((s : Int) == (s : Int)) = true from by simp] at Sc1
  have hcv := cv rd0
  obtain ⟨ka, kb, kf⟩ := block_cells2 zk
  clear kf
  by_cases hT : T = (s : Int)
  · subst hT
    rw [show ((s : Int) == (s : Int)) = true from by simp] at Sc2
    go_wp2_with fail
    refine (Sr _ rd0).mono ?_
    rintro e w1 ⟨rfl, g⟩
    have zk : w1.heap[W.heap.size]? = some (.cells #[.int .u64 (k0 : Int), .int .u64 (k1 : Int)] 24 (0, 0)) := (g.block _ (lt_of_block zk)).trans zk
    have rd1 := rd0.below g (Nat.le_refl _)
    have Bel := chain Bel g
    clear g ka kb hcv
    obtain ⟨ka, kb, kf⟩ := block_cells2 zk
    clear kf
    have hcv := cv rd1
    go_wp2_with fail
    refine (St _ rd1).mono ?_
    rintro e w2 ⟨rfl, g⟩
    have zk : w2.heap[W.heap.size]? = some (.cells #[.int .u64 (k0 : Int), .int .u64 (k1 : Int)] 24 (0, 0)) := (g.block _ (lt_of_block zk)).trans zk
    have rd2 := rd1.below g (Nat.le_refl _)
    have Bel := chain Bel g
    clear g ka kb hcv
    obtain ⟨ka, kb, kf⟩ := block_cells2 zk
    clear kf
    have hcv := cv rd2
    go_wp2_with fail
    refine (Sc1 _ rd2).mono ?_
    rintro e w3 ⟨rfl, g⟩
    have zk : w3.heap[W.heap.size]? = some (.cells #[.int .u64 (k0 : Int), .int .u64 (k1 : Int)] 24 (0, 0)) := (g.block _ (lt_of_block zk)).trans zk
    have rd3 := rd2.below g (Nat.le_refl _)
    have Bel := chain Bel g
    clear g ka kb hcv
    obtain ⟨ka, kb, kf⟩ := block_cells2 zk
    clear kf
    have hcv := cv rd3
    go_wp2_with fail
    refine (Sc2 _ rd3).mono ?_
    rintro e w4 ⟨rfl, g⟩
    have zk : w4.heap[W.heap.size]? = some (.cells #[.int .u64 (k0 : Int), .int .u64 (k1 : Int)] 24 (0, 0)) := (g.block _ (lt_of_block zk)).trans zk
    have rd4 := rd3.below g (Nat.le_refl _)
    have Bel := chain Bel g
    clear g ka kb hcv
    obtain ⟨ka, kb, kf⟩ := block_cells2 zk
    clear kf
    have hcv := cv rd4
    go_wp2_with fail
    refine (awake_any _).mono ?_
    rintro e w5 ⟨rfl, g⟩
    have Bel := chain Bel g
    go_wp2_with fail
    go_ret
    exact ⟨rfl, Bel⟩
  · have q1 : (T == (s : Int)) = false := by simpa using hT
    have q2 : decide (T = (s : Int)) = false := by simpa using hT
    rw [show ((s : Int) == T) = false from by simpa using fun e => hT e.symm] at Sc2
    go_wp2_with fail
    refine (Sr _ rd0).mono ?_
    rintro e w1 ⟨rfl, g⟩
    have zk : w1.heap[W.heap.size]? = some (.cells #[.int .u64 (k0 : Int), .int .u64 (k1 : Int)] 24 (0, 0)) := (g.block _ (lt_of_block zk)).trans zk
    have rd1 := rd0.below g (Nat.le_refl _)
    have Bel := chain Bel g
    clear g ka kb hcv
    obtain ⟨ka, kb, kf⟩ := block_cells2 zk
    clear kf
    have hcv := cv rd1
    go_wp2_with fail
    refine (St _ rd1).mono ?_
    rintro e w2 ⟨rfl, g⟩
    have zk : w2.heap[W.heap.size]? = some (.cells #[.int .u64 (k0 : Int), .int .u64 (k1 : Int)] 24 (0, 0)) := (g.block _ (lt_of_block zk)).trans zk
    have rd2 := rd1.below g (Nat.le_refl _)
    have Bel := chain Bel g
    clear g ka kb hcv
    obtain ⟨ka, kb, kf⟩ := block_cells2 zk
    clear kf
    have hcv := cv rd2
    go_wp2_with fail
    refine (Sc1 _ rd2).mono ?_
    rintro e w3 ⟨rfl, g⟩
    have zk : w3.heap[W.heap.size]? = some (.cells #[.int .u64 (k0 : Int), .int .u64 (k1 : Int)] 24 (0, 0)) := (g.block _ (lt_of_block zk)).trans zk
    have rd3 := rd2.below g (Nat.le_refl _)
    have Bel := chain Bel g
    clear g ka kb hcv
    obtain ⟨ka, kb, kf⟩ := block_cells2 zk
    clear kf
    have hcv := cv rd3
    go_wp2_with fail
    refine (Sc2 _ rd3).mono ?_
    rintro e w4 ⟨rfl, g⟩
    have zk : w4.heap[W.heap.size]? = some (.cells #[.int .u64 (k0 : Int), .int .u64 (k1 : Int)] 24 (0, 0)) := (g.block _ (lt_of_block zk)).trans zk
    have rd4 := rd3.below g (Nat.le_refl _)
    have Bel := chain Bel g
    clear g ka kb hcv
    obtain ⟨ka, kb, kf⟩ := block_cells2 zk
    clear kf
    have hcv := cv rd4
    go_wp2_with fail
    refine (awake_any _).mono ?_
    rintro e w5 ⟨rfl, g⟩
    have Bel := chain Bel g
    go_wp2_with fail
    go_ret
    exact ⟨rfl, Bel⟩
end Go.Proofs.Ytfejjmodkjpmfaa
