/- Clash: which wants may be, which of them clash, by the program. Written by wip/tools/gen23b.py. -/
import Derived.Test.YtjmfiekgpoonjaaDoorQLGC4
import Derived.Test.YtjmfiekgpoonjaaDoorQLGC7
import Derived.Test.YtjmfiekgpoonjaaDoorQLGC9
import Derived.Test.YtjmfiekgpoonjaaDoorQLGC10
namespace Go.Proofs.YtjmfiekgpoonjaaDoor
open Go Go.RowKit
set_option linter.unusedVariables false
set_option linter.unusedSimpArgs false
def SzS (l : List (List UInt8)) : Prop := ∀ s ∈ l, s.length ≤ maxLen
def SzW (a : Wt) : Prop := SzS a.r ∧ SzS a.w
theorem any_not (l : List (List UInt8)) : (l.any fun s => !patB s) = !l.all patB := by
  induction l with
  | nil => rfl
  | cons x l ih => rw [List.any_cons, List.all_cons, ih]; cases patB x <;> rfl

set_option maxRecDepth 100000 in
theorem may1_any (s : List UInt8) (hs : s.length ≤ maxLen) : Ret 53 #[.string (str s)] (.bool (!patB s)) := by
  intro w tab
  have H := Lib.hid (pattern_any s hs)
  have bel := Below.refl w.heap.size w
  generalize patB s = R at H
  go_enter Tryd.func53, Tryd.ntmps53
  go_wp2_with ((with_reducible refine (H.out.at _ tab).mono ?_); rintro e w1 ⟨rfl, g⟩; have bel := chain bel g; clear g)
  go_ret
  exact ⟨rfl, bel⟩
theorem cno_any (v : Value) (l : List (List UInt8)) (w : World) (tab : TabAt w) (h : RdS w v l) (hz : SzS l) :
    Calls Tryd.prog 55 #[v, .func (.func 53) #[] #[]] w fun e w' => e = .returned (.bool (!l.all patB)) ∧ Below w.heap.size w w' := by
  rw [← any_not]
  exact containsS 53 #[] (enters_of Tryd.func53 (by kernel_rfl) rfl) v l _ w h (fun s hs W g => may1_any s (hz s hs) W (tab.below g))
set_option maxRecDepth 100000 in
theorem cmay_any (vr vw : Value) (a : Wt) (w : World) (tab : TabAt w) (hr : RdS w vr a.r) (hw : RdS w vw a.w) (hz : SzW a) :
    Calls Tryd.prog 36 #[.agg #[vr, vw]] w fun e w' => e = .returned (.bool (mayW a)) ∧ Below w.heap.size w w' := by
  have A1 := fun W (g : Below w.heap.size w W) => cno_any vr a.r W (tab.below g) (hr.below g (Nat.le_refl _)) hz.1
  have A2 := fun W (g : Below w.heap.size w W) => cno_any vw a.w W (tab.below g) (hw.below g (Nat.le_refl _)) hz.2
  obtain ⟨R1, h1⟩ : ∃ R, R = a.r.all patB := ⟨_, rfl⟩
  obtain ⟨R2, h2⟩ : ∃ R, R = a.w.all patB := ⟨_, rfl⟩
  rw [show mayW a = (R1 && R2) by rw [h1, h2]; rfl]
  rw [← h1] at A1
  rw [← h2] at A2
  have H1 := Lib.hid A1
  have H2 := Lib.hid A2
  have q1 := heap_alloc_new w (.cells #[vr, vw] 24)
  have bel := (Below.refl w.heap.size w).alloc (Nat.le_refl _) (.cells #[vr, vw] 24)
  obtain ⟨c0, c1, cf⟩ := block_cells2 q1
  clear A1 A2 h1 h2 hr hw hz tab
  cases R1 <;> cases R2
  all_goals
    go_enter Tryd.func36, Tryd.ntmps36
    go_wp2_with (first | ((with_reducible refine (H1.out _ bel).mono ?_); rintro e w1 ⟨rfl, g⟩; have bel := chain bel g; have q1 := (g.block _ (lt_of_block q1)).trans q1; obtain ⟨c0, c1, cf⟩ := block_cells2 q1; clear g) | ((with_reducible refine (H2.out _ bel).mono ?_); rintro e w1 ⟨rfl, g⟩; have bel := chain bel g; clear g))
    go_ret
    exact ⟨rfl, bel⟩
set_option maxRecDepth 100000 in
theorem meet2_any (s q : List UInt8) (B : Nat) (w : World) (tab : TabAt w) (hs : s.length ≤ maxLen) (hq : q.length ≤ maxLen) (c : w.cell? ⟨B, 0, none⟩ = some (.string (str s))) :
    Calls Tryd.prog 66 #[.string (str q), .pointer (some ⟨B, 0, none⟩)] w fun e w' => e = .returned (.bool (mtB s q)) ∧ Below w.heap.size w w' := by
  have H0 := meet_any s q hs hq
  have bel := Below.refl w.heap.size w
  rw [show (patB s && patB q && (Lib.hasPrefix s q || Lib.hasPrefix q s)) = mtB s q from rfl] at H0
  have H := Lib.hid H0
  clear H0
  generalize mtB s q = R at H
  go_enter Tryd.func66, Tryd.ntmps66
  go_wp2_with ((with_reducible refine (H.out.at _ tab).mono ?_); rintro e w1 ⟨rfl, g⟩; have bel := chain bel g; clear g)
  go_ret
  exact ⟨rfl, bel⟩
set_option maxRecDepth 100000 in
theorem meet1_any (s : List UInt8) (m : List (List UInt8)) (vm : Value) (B : Nat) (w : World) (tab : TabAt w) (hs : s.length ≤ maxLen) (hm : SzS m) (h : RdS w vm m) (c : w.cell? ⟨B, 0, none⟩ = some vm) :
    Calls Tryd.prog 65 #[.string (str s), .pointer (some ⟨B, 0, none⟩)] w fun e w' => e = .returned (.bool (m.any fun q => mtB s q)) ∧ Below w.heap.size w w' := by
  have lB := World.block_lt_of_cell? w ⟨B, 0, none⟩ c
  have q1 := heap_alloc_new w (.cells #[.string (str s)] 9)
  have bel := (Below.refl w.heap.size w).alloc (Nat.le_refl _) (.cells #[.string (str s)] 9)
  have c1 := (bel.cell (p := ⟨B, 0, none⟩) lB).trans c
  have C := containsS 66 #[.pointer (some ⟨w.heap.size, 0, none⟩)] (enters_of Tryd.func66 (by kernel_rfl) rfl) vm m (fun q => mtB s q) (w.alloc (.cells #[.string (str s)] 9)) (h.below bel (Nat.le_refl _))
    (fun q hq W g => meet2_any s q w.heap.size W ((tab.below bel).below g) hs (hm q hq) (by
      have := block_cell ((g.block _ (lt_of_block q1)).trans q1) 0
      simpa using this))
  have H := Lib.hid C
  obtain ⟨R, hR⟩ : ∃ R, R = m.any fun q => mtB s q := ⟨_, rfl⟩
  rw [← hR] at H ⊢
  clear C hR q1 hm h tab c1
  go_enter Tryd.func65, Tryd.ntmps65
  go_wp2_with ((with_reducible refine (H.out).mono ?_); rintro e w1 ⟨rfl, g⟩; have bel := chain bel g; clear g)
  go_ret
  exact ⟨rfl, bel⟩
set_option maxRecDepth 100000 in
theorem cmeet_any (vl vm : Value) (l m : List (List UInt8)) (w : World) (tab : TabAt w) (hl : RdS w vl l) (hm : RdS w vm m) (zl : SzS l) (zm : SzS m) :
    Calls Tryd.prog 56 #[vl, vm] w fun e w' => e = .returned (.bool (someB l m)) ∧ Below w.heap.size w w' := by
  obtain ⟨ao, cap, rfl, -, -, -⟩ := hm.open
  have q1 := heap_alloc_new w (.cells #[.slice ao m.length cap] 22)
  have bel := (Below.refl w.heap.size w).alloc (Nat.le_refl _) (.cells #[.slice ao m.length cap] 22)
  have C := containsS 65 #[.pointer (some ⟨w.heap.size, 0, none⟩)] (enters_of Tryd.func65 (by kernel_rfl) rfl) vl l (fun p => m.any fun q => mtB p q) (w.alloc (.cells #[.slice ao m.length cap] 22)) (hl.below bel (Nat.le_refl _))
    (fun s hs W g => meet1_any s m (.slice ao m.length cap) w.heap.size W ((tab.below bel).below g) (zl s hs) zm ((hm.below bel (Nat.le_refl _)).below g (Nat.le_refl _)) (by
      have := block_cell ((g.block _ (lt_of_block q1)).trans q1) 0
      simpa using this))
  have H := Lib.hid C
  rw [show (l.any fun p => m.any fun q => mtB p q) = someB l m from rfl] at H
  obtain ⟨R, hR⟩ : ∃ R, R = someB l m := ⟨_, rfl⟩
  rw [← hR] at H ⊢
  clear C hR q1 tab hl hm zl zm
  go_enter Tryd.func56, Tryd.ntmps56
  go_wp2_with ((with_reducible refine (H.out).mono ?_); rintro e w1 ⟨rfl, g⟩; have bel := chain bel g; clear g)
  go_ret
  exact ⟨rfl, bel⟩
set_option maxRecDepth 100000 in
set_option maxHeartbeats 1000000 in
theorem cclash_any (ar aw br bw : Value) (a b : Wt) (w : World) (tab : TabAt w) (h1 : RdS w ar a.r) (h2 : RdS w aw a.w) (h3 : RdS w br b.r) (h4 : RdS w bw b.w) (za : SzW a) (zb : SzW b) :
    Calls Tryd.prog 37 #[.agg #[ar, aw], .agg #[br, bw]] w fun e w' => e = .returned (.bool (clB a b)) ∧ Below w.heap.size w w' := by
  have A1 := fun W (g : Below w.heap.size w W) => cmeet_any aw bw a.w b.w W (tab.below g) (h2.below g (Nat.le_refl _)) (h4.below g (Nat.le_refl _)) za.2 zb.2
  have A2 := fun W (g : Below w.heap.size w W) => cmeet_any aw br a.w b.r W (tab.below g) (h2.below g (Nat.le_refl _)) (h3.below g (Nat.le_refl _)) za.2 zb.1
  have A3 := fun W (g : Below w.heap.size w W) => cmeet_any ar bw a.r b.w W (tab.below g) (h1.below g (Nat.le_refl _)) (h4.below g (Nat.le_refl _)) za.1 zb.2
  rw [show clB a b = (someB a.w b.w || someB a.w b.r || someB a.r b.w) from rfl]
  generalize someB a.w b.w = R1 at A1 ⊢
  generalize someB a.w b.r = R2 at A2 ⊢
  generalize someB a.r b.w = R3 at A3 ⊢
  have H1 := Lib.hid A1
  have H2 := Lib.hid A2
  have H3 := Lib.hid A3
  obtain ⟨q1, q2, -, -⟩ := two_allocs w (.cells #[ar, aw] 24) (.cells #[br, bw] 24)
  have bel := ((Below.refl w.heap.size w).alloc (Nat.le_refl _) (.cells #[ar, aw] 24)).alloc (by simp) (.cells #[br, bw] 24)
  obtain ⟨c0, c1, cf⟩ := block_cells2 q1
  obtain ⟨d0, d1, df⟩ := block_cells2 q2
  clear A1 A2 A3 h1 h2 h3 h4 za zb tab
  cases R1 <;> cases R2 <;> cases R3
  all_goals
    go_enter Tryd.func37, Tryd.ntmps37
    go_wp2_with (first | ((with_reducible refine (H1.out _ bel).mono ?_); rintro e w1 ⟨rfl, g⟩; have bel := chain bel g; have q1 := (g.block _ (lt_of_block q1)).trans q1; obtain ⟨c0, c1, cf⟩ := block_cells2 q1; have q2 := (g.block _ (lt_of_block q2)).trans q2; obtain ⟨d0, d1, df⟩ := block_cells2 q2; clear g) | ((with_reducible refine (H2.out _ bel).mono ?_); rintro e w1 ⟨rfl, g⟩; have bel := chain bel g; have q1 := (g.block _ (lt_of_block q1)).trans q1; obtain ⟨c0, c1, cf⟩ := block_cells2 q1; have q2 := (g.block _ (lt_of_block q2)).trans q2; obtain ⟨d0, d1, df⟩ := block_cells2 q2; clear g) | ((with_reducible refine (H3.out _ bel).mono ?_); rintro e w1 ⟨rfl, g⟩; have bel := chain bel g; clear g))
    go_ret
    exact ⟨rfl, bel⟩
set_option maxRecDepth 100000 in
set_option maxHeartbeats 1000000 in
theorem cpair_any (ar aw br bw : Value) (a b : Wt) (w : World) (tab : TabAt w) (h1 : RdS w ar a.r) (h2 : RdS w aw a.w) (h3 : RdS w br b.r) (h4 : RdS w bw b.w) (za : SzW a) (zb : SzW b) :
    Calls Tryd.prog 9 #[.agg #[ar, aw], .agg #[br, bw]] w fun e w' => e = .returned (.bool (pairW a b)) ∧ Below w.heap.size w w' := by
  have A1 := fun W (g : Below w.heap.size w W) => cmay_any ar aw a W (tab.below g) (h1.below g (Nat.le_refl _)) (h2.below g (Nat.le_refl _)) za
  have A2 := fun W (g : Below w.heap.size w W) => cmay_any br bw b W (tab.below g) (h3.below g (Nat.le_refl _)) (h4.below g (Nat.le_refl _)) zb
  have A3 := fun W (g : Below w.heap.size w W) => cclash_any ar aw br bw a b W (tab.below g) (h1.below g (Nat.le_refl _)) (h2.below g (Nat.le_refl _)) (h3.below g (Nat.le_refl _)) (h4.below g (Nat.le_refl _)) za zb
  rw [show pairW a b = (mayW a && mayW b && clB a b) from rfl]
  generalize mayW a = R1 at A1 ⊢
  generalize mayW b = R2 at A2 ⊢
  generalize clB a b = R3 at A3 ⊢
  have H1 := Lib.hid A1
  have H2 := Lib.hid A2
  have H3 := Lib.hid A3
  obtain ⟨q1, q2, -, -⟩ := two_allocs w (.cells #[ar, aw] 24) (.cells #[br, bw] 24)
  have bel := ((Below.refl w.heap.size w).alloc (Nat.le_refl _) (.cells #[ar, aw] 24)).alloc (by simp) (.cells #[br, bw] 24)
  obtain ⟨c0, c1, cf⟩ := block_cells2 q1
  obtain ⟨d0, d1, df⟩ := block_cells2 q2
  clear A1 A2 A3 h1 h2 h3 h4 za zb tab
  cases R1 <;> cases R2 <;> cases R3
  all_goals
    go_enter Tryd.func9, Tryd.ntmps9
    go_wp2_with (first | ((with_reducible refine (H1.out _ bel).mono ?_); rintro e w1 ⟨rfl, g⟩; have bel := chain bel g; have q1 := (g.block _ (lt_of_block q1)).trans q1; obtain ⟨c0, c1, cf⟩ := block_cells2 q1; have q2 := (g.block _ (lt_of_block q2)).trans q2; obtain ⟨d0, d1, df⟩ := block_cells2 q2; clear g) | ((with_reducible refine (H2.out _ bel).mono ?_); rintro e w1 ⟨rfl, g⟩; have bel := chain bel g; have q1 := (g.block _ (lt_of_block q1)).trans q1; obtain ⟨c0, c1, cf⟩ := block_cells2 q1; have q2 := (g.block _ (lt_of_block q2)).trans q2; obtain ⟨d0, d1, df⟩ := block_cells2 q2; clear g) | ((with_reducible refine (H3.out _ bel).mono ?_); rintro e w1 ⟨rfl, g⟩; have bel := chain bel g; clear g))
    go_ret
    exact ⟨rfl, bel⟩
end Go.Proofs.YtjmfiekgpoonjaaDoor
