/- Span: what a range cut in two has; what is under a pattern; the sum; the names. Plain mathematics. -/
/- Stores, mathematics: what one change keeps (out of K10X), what edits keep. -/
/- Span: the bucket whose next item is the least. -/
/- Span: slices.BinarySearchFunc at items; check. Written by wip/tools/gen11b.py. -/
import Derived.Test.YtbdfcgffkonbiaaDoorQST27
import Derived.Test.YtbdfcgffkonbiaaDoorQST4
import Derived.Test.YtbdfcgffkonbiaaDoorQST23
import Derived.Test.YtbdfcgffkonbiaaDoorQST3
namespace Go.Proofs.YtbdfcgffkonbiaaDoor
open Go Go.RowKit
set_option linter.unusedVariables false
set_option linter.unusedSimpArgs false
set_option linter.unusedSectionVars false
theorem isB_pat {l : List UInt8} (h : isB l = true) : patB l = true := by
  unfold isB at h
  simp only [Bool.and_eq_true] at h
  exact h.2
section
variable {lv : Nat → List It} {vs : Nat → Int} (h : mayTs lv vs 16 = true)
include h
theorem rng_all : rngL lv [] [] = allS lv := by
  unfold rngL
  refine filter_all fun x _ => ?_
  unfold inK; rw [lt_nil]; rfl
end
end Go.Proofs.YtbdfcgffkonbiaaDoor
namespace Go.Proofs.YtbdfcgffkonbiaaDoor
open Go Go.RowKit
set_option linter.unusedVariables false
set_option linter.unusedSimpArgs false
theorem putTE_zero {lv : Nat → List It} {vs : Nat → Int} {x : It} (h : putTE lv vs x = 0) : putE (lv (bkN x.key)) x = 0 := by
  unfold putTE at h
  split at h
  · split at h
    · cases h
    · exact h
  · cases h
/-- What a change of one key makes of a trunk that may be. -/
structure Chg (lv : Nat → List It) (vs : Nat → Int) (key : List UInt8) (b : Nat) (l : List It) (v : Int) : Prop where
  lt : b < 16
  may : mayTs (upd lv b l) (upd vs b v) 16 = true
  sz : SzT (upd lv b l)
  other : ∀ k, k ≠ key → gTI (upd lv b l) k = gTI lv k ∧ gTB (upd lv b l) k = gTB lv k
theorem upd_get {lv : Nat → List It} {b : Nat} {l : List It} {k : List UInt8} (h : bkN k = b → gI l k = gI (lv b) k ∧ gB l k = gB (lv b) k) : gTI (upd lv b l) k = gTI lv k ∧ gTB (upd lv b l) k = gTB lv k := by
  unfold gTI gTB
  by_cases e : bkN k = b
  · obtain ⟨h1, h2⟩ := h e
    rw [e, upd_at, h1, h2]
    exact ⟨rfl, rfl⟩
  · rw [upd_ne _ _ e]; exact ⟨rfl, rfl⟩
theorem upd_sz {lv : Nat → List It} {b : Nat} {l : List It} (h : SzT lv) (hl : SzI l) : SzT (upd lv b l) := by
  intro i hi
  by_cases e : i = b
  · subst e; rw [upd_at]; exact hl
  · rw [upd_ne _ _ e]; exact h i hi
theorem put_chg {lv : Nat → List It} {vs : Nat → Int} {x : It} (hm : mayTs lv vs 16 = true) (hsz : SzT lv) (h1 : x.key.length ≤ maxLen) (h2 : x.v.s.length ≤ maxLen) (h : putTE lv vs x = 0) :
    Chg lv vs x.key (bkN x.key) (withL (lv (bkN x.key)) x) x.ver := by
  have hp := putTE_zero h
  have hk := mayI_key (putE_zero hp).2.1
  have hl := isT hm (bkN_lt x.key)
  have hv : vs (bkN x.key) ≤ x.ver := by
    by_cases q : x.ver < vs (bkN x.key)
    · unfold putTE at h
      rw [if_pos ⟨hm, hk⟩, if_pos ⟨by rw [hp]; decide, q⟩] at h
      cases h
    · omega
  refine ⟨bkN_lt _, mayTs_upd hm (put_mayT (mayTs_at hm (bkN_lt _)) hp (bk_is hk) hv), upd_sz hsz ?_, fun k hne => upd_get fun _ => ?_⟩
  · intro y hy
    rcases with_mem.1 hy with ⟨q, _⟩ | rfl | ⟨q, _⟩
    · exact hsz _ (bkN_lt _) y q
    · exact ⟨h1, h2⟩
    · exact hsz _ (bkN_lt _) y q
  · unfold gI gB
    rw [with_is hp, hl, with_other hp hne]
    exact ⟨rfl, rfl⟩
theorem delTE_zero {lv : Nat → List It} {vs : Nat → Int} {k : List UInt8} {ver : Int} (h : delTE lv vs k ver = 0) : verB ver = true ∧ isB k = true ∧ delE (lv (bkN k)) k = 0 ∧ vs (bkN k) ≤ ver := by
  unfold delTE at h
  split at h
  · cases h
  · rename_i h1
    split at h
    · cases h
    · rename_i h2
      split at h
      · cases h
      · rename_i h3
        refine ⟨by simpa using fun q => h1 (.inl q), by simpa using h2, h, ?_⟩
        by_cases q : ver < vs (bkN k)
        · exact absurd ⟨h, q⟩ h3
        · omega
theorem del_chg {lv : Nat → List It} {vs : Nat → Int} {key : List UInt8} {ver : Int} (hm : mayTs lv vs 16 = true) (hsz : SzT lv) (h : delTE lv vs key ver = 0) :
    Chg lv vs key (bkN key) (withoutL (lv (bkN key)) key) ver := by
  obtain ⟨hr, hk, hp, hv⟩ := delTE_zero h
  have hl := isT hm (bkN_lt key)
  refine ⟨bkN_lt _, mayTs_upd hm (del_mayT (mayTs_at hm (bkN_lt _)) hp hv hr), upd_sz hsz ?_, fun k hne => upd_get fun _ => ?_⟩
  · intro y hy
    exact hsz _ (bkN_lt _) y (List.mem_filter.1 hy).1
  · unfold gI gB
    rw [without_is hp, hl, without_other hp hne]
    exact ⟨rfl, rfl⟩
theorem own_slice_n {w : World} {base : Nat} {e : TypeId} {size : Nat} {v : Value} {n : Nat} {xs : List Value} (h : w.ownsRow base e size v n xs) : ∃ a c, v = .slice a n c := by
  rcases h.2 with ⟨h1, h2⟩ | ⟨g, cap, cur, h1, _⟩
  · subst h2; exact ⟨_, _, h1⟩
  · exact ⟨_, _, h1⟩
/-- A reading of a trunk that lives through stores into block g. -/
def SafeT (g : Nat) (w : World) (cs : Array Value) (lv : Nat → List It) (vs : Nat → Int) : Prop := ∀ W : World, (∀ k, k < w.heap.size → k ≠ g → W.heap[k]? = w.heap[k]?) → RdT W cs lv vs
theorem SafeT.rd {g : Nat} {w : World} {cs : Array Value} {lv : Nat → List It} {vs : Nat → Int} (h : SafeT g w cs lv vs) : RdT w cs lv vs := h w fun _ _ _ => rfl
theorem SafeT.later {g : Nat} {w w' : World} {cs : Array Value} {lv : Nat → List It} {vs : Nat → Int} (h : SafeT g w cs lv vs) (hs : w.heap.size ≤ w'.heap.size) (hk : ∀ k, k < w.heap.size → k ≠ g → w'.heap[k]? = w.heap[k]?) : SafeT g w' cs lv vs :=
  fun W hW => h W fun k h1 h2 => (hW k (by omega) h2).trans (hk k h1 h2)
theorem SafeT.below {g : Nat} {w w' : World} {cs : Array Value} {lv : Nat → List It} {vs : Nat → Int} (h : SafeT g w cs lv vs) (b : Below w.heap.size w w') : SafeT g w' cs lv vs := h.later b.size fun k h1 _ => b.block k h1
theorem SafeT.setRow {g : Nat} {w : World} {cs : Array Value} {lv : Nat → List It} {vs : Nat → Int} (h : SafeT g w cs lv vs) (c : Array Value) : SafeT g (w.setRow g c) cs lv vs :=
  h.later (by rw [setRow_size]; exact Nat.le_refl _) fun k _ h2 => setRow_other _ _ _ _ h2
theorem SafeT.put {g : Nat} {w : World} {cs : Array Value} {lv : Nat → List It} {vs : Nat → Int} (h : SafeT g w cs lv vs) {b base : Nat} (hb : b < 16) {u : Value} {l : List It} {v : Int} (ho : w.ownsRow base 53 5 u l.length (l.flatMap itC)) (hg : g < base) :
    SafeT g w ((cs.setIfInBounds b u).setIfInBounds (16 + b) (.int .i64 v)) (upd lv b l) (upd vs b v) :=
  fun W hW => (h W hW).put hb (own_rdk itC_len (own_moved2 ho fun k h1 h2 => hW k h2 (by omega)))
theorem OwnT.safe {g base : Nat} {w : World} {cs : Array Value} {lv : Nat → List It} {vs : Nat → Int} (h : OwnT base w cs lv vs) (hg : g < base ∨ w.heap.size ≤ g) : SafeT g w cs lv vs :=
  fun W hW => (h.moved fun k h1 h2 => hW k h2 (by omega)).rd
/-- A trunk that may be, of texts and numbers that there can be. -/
structure GT (lv : Nat → List It) (vs : Nat → Int) (ver : Int) : Prop where
  may : mayTs lv vs 16 = true
  sz : SzT lv
  wf : WfT lv
  le : ∀ b, b < 16 → vs b ≤ ver
theorem GT.h100 {lv : Nat → List It} {vs : Nat → Int} {ver : Int} (h : GT lv vs ver) : ∀ b, b < 16 → (lv b).length ≤ 100 := fun b hb => Nat.le_trans (isL_len (isT h.may hb)) (by decide)
def WfE (l : List Ed) : Prop := ∀ x ∈ l, x.v.Wf
theorem isB_24 {k : List UInt8} (h : isB k = true) : k.length ≤ 24 := by
  unfold isB patB at h; simp only [Bool.and_eq_true, decide_eq_true_eq] at h; exact h.2.1
theorem isB_max {k : List UInt8} (h : isB k = true) : k.length ≤ maxLen := Nat.le_trans (isB_24 h) (by simp [maxLen])
theorem mayB_64 {v : V7.V} (h : V7.mayB v = true) : v.s.length ≤ 64 := by
  unfold V7.mayB at h
  simp only [decide_eq_true_eq] at h
  rcases h with ⟨_, _, e⟩ | ⟨_, _, e⟩ | ⟨_, e⟩ | ⟨_, _, e⟩
  · rw [e]; simp
  · rw [e]; simp
  · rw [e]; simp
  · exact e
theorem mayB_max {v : V7.V} (h : V7.mayB v = true) : v.s.length ≤ maxLen := Nat.le_trans (mayB_64 h) (by simp [maxLen])
theorem upd_wf {lv : Nat → List It} {b : Nat} {l : List It} (h : WfT lv) (hl : WfI l) : WfT (upd lv b l) := by
  intro i hi
  by_cases e : i = b
  · subst e; rw [upd_at]; exact hl
  · rw [upd_ne _ _ e]; exact h i hi
theorem apPut {lv : Nat → List It} {vs : Nat → Int} {x : Ed} {ver : Int} (hk : x.v.k ≠ 0) : apE lv vs x ver = putTE lv vs (edI x ver) ∧ apLv lv vs x ver = upd lv (bkN x.key) (withL (lv (bkN x.key)) (edI x ver)) ∧ apVs lv vs x ver = upd vs (bkN x.key) ver := by
  unfold apE apLv apVs; rw [if_neg hk, if_neg hk, if_neg hk]; exact ⟨rfl, rfl, rfl⟩
theorem apDel {lv : Nat → List It} {vs : Nat → Int} {x : Ed} {ver : Int} (hk : x.v.k = 0) (hd : delTE lv vs x.key ver = 0) : apE lv vs x ver = 0 ∧ apLv lv vs x ver = upd lv (bkN x.key) (withoutL (lv (bkN x.key)) x.key) ∧ apVs lv vs x ver = upd vs (bkN x.key) ver := by
  unfold apE apLv apVs; rw [if_pos hk, if_pos hk, if_pos hk, if_pos hd, if_pos hd]; exact ⟨rfl, rfl, rfl⟩
theorem apNo {lv : Nat → List It} {vs : Nat → Int} {x : Ed} {ver : Int} (hk : x.v.k = 0) (hd : delTE lv vs x.key ver ≠ 0) : apE lv vs x ver = 0 ∧ apLv lv vs x ver = lv ∧ apVs lv vs x ver = vs := by
  unfold apE apLv apVs; rw [if_pos hk, if_pos hk, if_pos hk, if_neg hd, if_neg hd]; exact ⟨rfl, rfl, rfl⟩
theorem upd_le {vs : Nat → Int} {b : Nat} {ver : Int} (h : ∀ b, b < 16 → vs b ≤ ver) : ∀ i, i < 16 → upd vs b ver i ≤ ver := by
  intro i hi
  by_cases e : i = b
  · subst e; rw [upd_at]; exact Int.le_refl _
  · rw [upd_ne _ _ e]; exact h i hi
theorem GT.step {lv : Nat → List It} {vs : Nat → Int} {ver : Int} (h : GT lv vs ver) {x : Ed} (hx : mayE x = true) (hw : x.v.Wf) (hv : verB ver = true) (he : apE lv vs x ver = 0) :
    GT (apLv lv vs x ver) (apVs lv vs x ver) ver := by
  by_cases hk : x.v.k = 0
  · by_cases hd : delTE lv vs x.key ver = 0
    · obtain ⟨-, e2, e3⟩ := apDel hk hd
      have c := del_chg h.may h.sz hd
      rw [e2, e3]
      exact ⟨c.may, c.sz, upd_wf h.wf fun y hy => h.wf _ (bkN_lt _) y (List.mem_filter.1 hy).1, upd_le h.le⟩
    · obtain ⟨-, e2, e3⟩ := apNo hk hd
      rw [e2, e3]; exact h
  · obtain ⟨e1, e2, e3⟩ := apPut (lv := lv) (vs := vs) (ver := ver) hk
    rw [e1] at he
    have hk' := mayE_key hx
    have c := put_chg (x := edI x ver) h.may h.sz (isB_max hk') (mayB_max (mayE_v hx)) he
    rw [e2, e3]
    refine ⟨c.may, c.sz, upd_wf h.wf fun y hy => ?_, upd_le h.le⟩
    obtain ⟨h1, h2⟩ := verB_iff.1 hv
    rcases with_mem.1 hy with ⟨q, _⟩ | rfl | ⟨q, _⟩
    · exact h.wf _ (bkN_lt _) y q
    · exact hw.2
    · exact h.wf _ (bkN_lt _) y q
theorem okS_may {s : St} (h : okS s = true) : mayS s = true := by unfold okS at h; simp only [Bool.and_eq_true] at h; exact h.1
theorem okS_lt {s : St} (h : okS s = true) : s.ver < 2147483647 := by unfold okS at h; simp only [Bool.and_eq_true, decide_eq_true_eq] at h; exact h.2
theorem mayS_ver {s : St} (h : mayS s = true) : 0 ≤ s.ver ∧ s.ver ≤ 2147483647 ∧ ∀ b, b < 16 → s.vs b ≤ s.ver := by
  unfold mayS rngB versB at h
  simp only [Bool.and_eq_true, decide_eq_true_eq, List.all_eq_true, List.mem_range] at h
  exact ⟨h.1.1.1.1.1.1, h.1.1.1.1.1.2, h.1.1.2⟩
theorem okS_gt {s : St} (h : okS s = true) (hsz : SzT s.lv) (hwf : WfT s.lv) : GT s.lv s.vs (s.ver + 1) ∧ verB (s.ver + 1) = true := by
  have hm := okS_may h
  obtain ⟨h1, h2, h3⟩ := mayS_ver hm
  have h4 := okS_lt h
  exact ⟨⟨mayS_t hm, hsz, hwf, fun b hb => by have := h3 b hb; omega⟩, verB_iff.2 ⟨by omega, by omega⟩⟩
/-- Whatever is taken, in the end the trunk may be. -/
theorem go_gt {ver : Int} (hv : verB ver = true) : ∀ (l : List Ed) {lv : Nat → List It} {vs : Nat → Int} (i : Nat), GT lv vs ver → (∀ x ∈ l, mayE x = true) → WfE l → GT (goE ver lv vs l i).2.1 (goE ver lv vs l i).2.2 ver
  | [], _, _, _, h, _, _ => h
  | x :: r, lv, vs, i, h, hm, hw => by
    rw [goE]
    by_cases he : apE lv vs x ver = 0
    · rw [if_neg (by rw [he]; simp)]
      exact go_gt hv r (i + 1) (h.step (hm x (by simp)) (hw x (by simp)) hv he) (fun y hy => hm y (by simp [hy])) (fun y hy => hw y (by simp [hy]))
    · rw [if_pos he]; exact h
end Go.Proofs.YtbdfcgffkonbiaaDoor
namespace Go.Proofs.YtbdfcgffkonbiaaDoor
open Go Go.RowKit
set_option linter.unusedVariables false
set_option linter.unusedSimpArgs false
def bkI (x : It) : Nat := bkN x.key
/-- The best of the first n buckets. -/
def hdI (R : List It) (n : Nat) : Option It := (R.filter (fun x => decide (bkI x < n))).head?
def bestI (R : List It) (n : Nat) : Int := match hdI R n with
  | none => -1
  | some y => (bkI y : Int)
def RdN (ns : Array Value) (nx : Nat → Nat) : Prop := ns.size = 16 ∧ ∀ b, b < 16 → ns[b]? = some (.int .i64 (nx b : Int))
theorem hd_zero (R : List It) : hdI R 0 = none := by unfold hdI; rw [List.filter_eq_nil_iff.2 (by simp)]; rfl
theorem hd_skip {R : List It} {n : Nat} (hs : SrtI R) (h : (R.filter (fun x => decide (bkI x = n))).head? = none) : hdI R (n + 1) = hdI R n := by
  have e := head_step (key := It.key) (lt := ltB) bkI (fun h1 h2 => lt_trans h1 h2) ltB_self R n hs
  rw [h] at e; exact e
theorem hd_new {R : List It} {n : Nat} (hs : SrtI R) {x : It} (h : (R.filter (fun x => decide (bkI x = n))).head? = some x) (h2 : hdI R n = none) : hdI R (n + 1) = some x := by
  have e := head_step (key := It.key) (lt := ltB) bkI (fun h1 h2 => lt_trans h1 h2) ltB_self R n hs
  unfold hdI at h2 ⊢
  rw [h, h2] at e; exact e
theorem hd_cmp {R : List It} {n : Nat} (hs : SrtI R) {x y : It} (h : (R.filter (fun x => decide (bkI x = n))).head? = some x) (h2 : hdI R n = some y) : hdI R (n + 1) = if ltB x.key y.key = true then some x else some y := by
  have e := head_step (key := It.key) (lt := ltB) bkI (fun h1 h2 => lt_trans h1 h2) ltB_self R n hs
  unfold hdI at h2 ⊢
  rw [h, h2] at e; exact e
theorem hd_bk {R : List It} {n : Nat} {y : It} (h : hdI R n = some y) : bkI y < n := by
  unfold hdI at h
  have := (List.mem_filter.1 (List.mem_of_mem_head? h)).2
  simpa using this
theorem hd_fst {R : List It} {n : Nat} {y : It} (h : hdI R n = some y) : (R.filter (fun x => decide (bkI x = bkI y))).head? = some y := head_eq bkI h
theorem best_none {R : List It} {n : Nat} (h : hdI R n = none) : bestI R n = -1 := by unfold bestI; rw [h]
theorem best_some {R : List It} {n : Nat} {y : It} (h : hdI R n = some y) : bestI R n = (bkI y : Int) := by unfold bestI; rw [h]
theorem best_nil : bestI [] 16 = -1 := rfl
theorem best_cons {x : It} {R : List It} (h : bkI x < 16) : bestI (x :: R) 16 = (bkI x : Int) := by
  unfold bestI hdI
  rw [List.filter_cons_of_pos (by simpa using h)]; rfl
set_option maxRecDepth 100000 in
set_option maxHeartbeats 1000000 in
theorem least_any (cs ns : Array Value) (lv : Nat → List It) (vs : Nat → Int) (nx : Nat → Nat) (R : List It) (w : World) (h : RdT w cs lv vs) (hn : RdN ns nx) (hI : Inv bkI lv nx R) (hs : SrtI R) (h64 : ∀ b, b < 16 → (lv b).length ≤ 64) (hbk : ∀ x ∈ R, bkI x < 16) :
    Calls Tryd.prog 125 #[.agg cs, .agg ns] w fun e w' => e = .returned (.int .i64 (bestI R 16)) ∧ Below w.heap.size w w' := by
  have hs32 := h.size
  have hs16 := hn.1
  have HT := Lib.hid h
  have HN := Lib.hid hn
  have HI := Lib.hid hI
  have HS := Lib.hid hs
  have HK := Lib.hid hbk
  have H64 := Lib.hid h64
  obtain ⟨Z, hZ⟩ : ∃ Z, Z = bestI R 16 := ⟨_, rfl⟩
  rw [← hZ]
  have HZ := Lib.hid hZ
  clear h hn hI hs hbk h64 hZ
  go_enter Tryd.func125, Tryd.ntmps125
  go_wp2_with fail
  obtain ⟨q1, q2, qs⟩ := two_allocs w (.cells cs 26) (.cells ns 24)
  have b0 := ((Below.refl _ w).alloc (Nat.le_refl _) (.cells cs 26)).alloc (by simp) (.cells ns 24)
  obtain ⟨W0, hW0⟩ : ∃ W, W = (w.alloc (.cells cs 26)).alloc (.cells ns 24) := ⟨_, rfl⟩
  rw [← hW0] at q1 q2 qs b0 ⊢
  clear hW0
  have hl1 : w.heap.size < W0.heap.size := lt_of_block q1
  have hl2 : w.heap.size + 1 < W0.heap.size := lt_of_block q2
  have Q1 := Lib.hid q1
  have Q2 := Lib.hid q2
  have B0 := Lib.hid b0
  clear q1 q2 qs b0
  go_loopw [5, 10] (fun m i wr => ∃ (n n0 : Nat), n ≤ 16 ∧ i = .int .i64 (n : Int) ∧ m = .int .i64 (bestI R n) ∧ Hid (wr = W0.drewN n0)) (fun _ i _ => 20 - (intOf i).toNat)
  case atStart => exact ⟨0, 0, by omega, rfl, by rw [best_none (hd_zero R)], Lib.hid rfl⟩
  case round =>
    obtain ⟨n, n0, hn, rfl, rfl, HW⟩ := hrel
    have bel0 : Below W0.heap.size W0 wr := by rw [HW.out]; exact below_drewN (Below.refl _ _)
    have bel := chain B0.out bel0
    by_cases hlt : n < 16
    · have q1 := (bel0.block _ hl1).trans Q1.out
      have q2 := (bel0.block _ hl2).trans Q2.out
      obtain ⟨u, hu, hru⟩ := (HT.out.below bel (Nat.le_refl _)).leaf n hlt
      have hX := fun W => ix16 #[cs[0]'(by omega), cs[1]'(by omega), cs[2]'(by omega), cs[3]'(by omega), cs[4]'(by omega), cs[5]'(by omega), cs[6]'(by omega), cs[7]'(by omega), cs[8]'(by omega), cs[9]'(by omega), cs[10]'(by omega), cs[11]'(by omega), cs[12]'(by omega), cs[13]'(by omega), cs[14]'(by omega), cs[15]'(by omega)] n u hlt (by rw [lit16 cs hs32 n hlt]; exact hu) W
      have cn := (block_cell q2 n).trans (HN.out.2 n hlt)
      have h64n := H64.out n hlt
      obtain ⟨au, cu, rfl, hcu, hmu, hru⟩ := RdK.open hru
      have hru : RdI wr (.slice au (lv n).length cu) (lv n) := hru
      have hle := (HI.out n hlt).1
      rcases inv_at bkI HI.out hlt with ⟨e1, e2⟩ | ⟨hl, e2⟩
      · have HB := Lib.hid (show bestI R (n + 1) = bestI R n by unfold bestI; rw [hd_skip HS.out e2])
        obtain ⟨b, hb⟩ : ∃ b, b = bestI R n := ⟨_, rfl⟩
        rw [← hb] at HB ⊢
        obtain ⟨a, ha⟩ : ∃ a, a = nx n := ⟨_, rfl⟩
        obtain ⟨k, hk⟩ : ∃ k, k = (lv n).length := ⟨_, rfl⟩
        rw [← ha] at cn e1
        rw [← hk] at hru hcu h64n hX e1
        have d1 : decide ((a : Int) < (k : Int)) = false := decide_eq_false (by omega)
        have d2 : decide (a < k) = false := decide_eq_false (by omega)
        clear e1 e2 hb ha hk hle hru hu q1 q2
        go_wp2_with fail
        go_quiet (fail)
        go_wp2_with fail
        have bel2 : Hid (wr.drewN nq = W0.drewN (n0 + nq)) := by have h := HW.out; exact Lib.hid (by rw [h, World.drewN_drewN])
        exact ⟨⟨n + 1, n0 + nq, by omega, by push_cast; rfl, by rw [HB.out], bel2⟩, by simp [intOf]; omega⟩
      · obtain ⟨pb, po, hpb0, hpb, c0, c1, c2, c3, c4⟩ := rdi_cells hru (nx n) hl
        cases hpb0
        obtain ⟨x, hx⟩ : ∃ x, x = (lv n)[nx n]'hl := ⟨_, rfl⟩
        rw [← hx] at c0 c1 c2 c3 c4 e2
        have hbx : bkI x = n := by
          have := (List.mem_filter.1 (List.mem_of_mem_head? e2)).2
          simpa using this
        cases hh : hdI R n with
        | none =>
          have HB := Lib.hid (show bestI R (n + 1) = (n : Int) by rw [best_some (hd_new HS.out e2 hh), hbx])
          rw [best_none hh]
          obtain ⟨a, ha⟩ : ∃ a, a = nx n := ⟨_, rfl⟩
          obtain ⟨k, hk⟩ : ∃ k, k = (lv n).length := ⟨_, rfl⟩
          rw [← ha] at cn c0 c1 c2 c3 c4
          rw [← hk] at hru hcu h64n hX
          have hl : a < k := by rw [ha, hk]; exact hl
          have d1 : decide ((a : Int) < (k : Int)) = true := decide_eq_true (by omega)
          have d2 : decide (a < k) = true := decide_eq_true (by omega)
          clear e2 ha hk hle hru hu q1 q2 hx hbx hh
          go_wp2_with fail
          go_quiet (fail)
          go_wp2_with fail
          have bel2 : Hid (wr.drewN nq = W0.drewN (n0 + nq)) := by have h := HW.out; exact Lib.hid (by rw [h, World.drewN_drewN])
          exact ⟨⟨n + 1, n0 + nq, by omega, by push_cast; rfl, by rw [HB.out], bel2⟩, by simp [intOf]; omega⟩
        | some y =>
          have hyn := hd_bk hh
          have hy16 : bkI y < 16 := by omega
          rw [best_some hh]
          obtain ⟨u2, hu2, hru2⟩ := (HT.out.below bel (Nat.le_refl _)).leaf (bkI y) hy16
          obtain ⟨au2, cu2, rfl, hcu2, hmu2, hru2⟩ := RdK.open hru2
          have hru2 : RdI wr (.slice au2 (lv (bkI y)).length cu2) (lv (bkI y)) := hru2
          have cb := (block_cell q1 (bkI y)).trans hu2
          have cm := (block_cell q2 (bkI y)).trans (HN.out.2 (bkI y) hy16)
          have hy2 := hd_fst hh
          rcases inv_at bkI HI.out hy16 with ⟨f1, f2⟩ | ⟨hl2', f2⟩
          · rw [hy2] at f2; cases f2
          · rw [hy2] at f2
            injection f2 with f2
            obtain ⟨qb, qo, hqb0, hqb, d0, -, -, -, -⟩ := rdi_cells hru2 (nx (bkI y)) hl2'
            cases hqb0
            rw [← f2] at d0
            have HB := Lib.hid (show bestI R (n + 1) = if ltB x.key y.key = true then (n : Int) else (bkI y : Int) by
              unfold bestI
              rw [hd_cmp HS.out e2 hh]
              by_cases hc : ltB x.key y.key = true
              · rw [if_pos hc, if_pos hc, ← hbx]
              · rw [if_neg hc, if_neg hc])
            have LS := less_str x.key y.key
            obtain ⟨a, ha⟩ : ∃ a, a = nx n := ⟨_, rfl⟩
            obtain ⟨k, hk⟩ : ∃ k, k = (lv n).length := ⟨_, rfl⟩
            obtain ⟨a2, ha2⟩ : ∃ a, a = nx (bkI y) := ⟨_, rfl⟩
            obtain ⟨k2, hk2⟩ : ∃ k, k = (lv (bkI y)).length := ⟨_, rfl⟩
            rw [← ha] at cn c0 c1 c2 c3 c4
            rw [← hk] at hru hcu h64n hX
            rw [← ha2] at cm d0
            rw [← hk2] at cb hcu2
            have hl : a < k := by rw [ha, hk]; exact hl
            have hl2 : a2 < k2 := by rw [ha2, hk2]; exact hl2'
            obtain ⟨b, hb⟩ : ∃ b, b = bkI y := ⟨_, rfl⟩
            rw [← hb] at HB cb cm hyn ⊢
            have hb16 : b < 16 := by omega
            have hbi : (b : Int) < 16 := by omega
            have d1 : decide ((a : Int) < (k : Int)) = true := decide_eq_true (by omega)
            have d2 : decide (a < k) = true := decide_eq_true (by omega)
            clear e2 ha hk ha2 hk2 hle hru hu hru2 hu2 q1 q2 hx hbx hh hy16 hy2 f2 hl2' hb
            cases hc : ltB x.key y.key with
            | true =>
              rw [hc] at LS
              have HB2 := Lib.hid (show bestI R (n + 1) = (n : Int) by rw [HB.out, hc]; rfl)
              clear hc HB
              go_wp2_with fail
              go_quiet (fail)
              go_wp2_with fail
              have bel2 : Hid (wr.drewN nq = W0.drewN (n0 + nq)) := by have h := HW.out; exact Lib.hid (by rw [h, World.drewN_drewN])
              exact ⟨⟨n + 1, n0 + nq, by omega, by push_cast; rfl, by rw [HB2.out], bel2⟩, by simp [intOf]; omega⟩
            | false =>
              rw [hc] at LS
              have HB2 := Lib.hid (show bestI R (n + 1) = (b : Int) by rw [HB.out, hc]; rfl)
              clear hc HB
              go_wp2_with fail
              go_quiet (fail)
              go_wp2_with fail
              have bel2 : Hid (wr.drewN nq = W0.drewN (n0 + nq)) := by have h := HW.out; exact Lib.hid (by rw [h, World.drewN_drewN])
              exact ⟨⟨n + 1, n0 + nq, by omega, by push_cast; rfl, by rw [HB2.out], bel2⟩, by simp [intOf]; omega⟩
    · obtain rfl : n = 16 := by omega
      rw [← HZ.out]
      go_wp2_with fail
      go_ret
      exact ⟨rfl, bel⟩
end Go.Proofs.YtbdfcgffkonbiaaDoor
namespace Go.Proofs.YtbdfcgffkonbiaaDoor
open Go Go.RowKit
set_option linter.unusedVariables false
set_option linter.unusedSimpArgs false
theorem scompare_any (a b : List UInt8) (w : World) : Calls Tryd.prog 124 #[.string (str a), .string (str b)] w fun e w' => e = .returned (.int .i64 (Lib.compareBytes a b)) ∧ w = w' := by
  have h := Tryd.strings_Compare (str a) (str b) w
  simp only [str_toList] at h
  exact h.mono fun e w' x => ⟨x.1, x.2.symm⟩
theorem cmpF_any (x : It) (k : List UInt8) (w : World) : Calls Tryd.prog 123 #[.agg #[.string (str x.key), .int .i64 x.v.k, .int .i64 x.v.i, .string (str x.v.s), .int .i64 x.ver], .string (str k)] w fun e w' => e = .returned (.int .i64 (Lib.compareBytes x.key k)) ∧ Below w.heap.size w w' := by
  have C := Lib.hid (fun w => scompare_any x.key k w)
  have q0 := heap_alloc_new w (.cells #[.string (str x.key), .int .i64 x.v.k, .int .i64 x.v.i, .string (str x.v.s), .int .i64 x.ver] 53)
  have B0 := (Below.refl w.heap.size w).alloc (Nat.le_refl _) (.cells #[.string (str x.key), .int .i64 x.v.k, .int .i64 x.v.i, .string (str x.v.s), .int .i64 x.ver] 53)
  go_enter Tryd.func123, Tryd.ntmps123
  go_wp2_with ((with_reducible refine (C.out _).mono ?_); rintro e w1 ⟨rfl, rfl⟩)
  go_ret
  exact ⟨rfl, B0⟩
theorem cb_lt {a b : List UInt8} (h : ltB a b = true) : Lib.compareBytes a b < 0 := by unfold ltB at h; simpa using h
theorem cb_ge {a b : List UInt8} (h : ltB a b = false) : ¬ Lib.compareBytes a b < 0 := by unfold ltB at h; simpa using h
set_option maxRecDepth 100000 in
set_option maxHeartbeats 1000000 in
theorem search11_any (v : Value) (l : List It) (k : List UInt8) (w : World) (h : RdI w v l) (h64 : l.length ≤ 64) (hs : SrtI l) :
    Calls Tryd.prog 122 #[v, .string (str k), .func (.func 123) #[] #[]] w fun e w' => (∃ b, e = .returned (.tuple #[.int .i64 (posL l k : Int), .bool b])) ∧ Below w.heap.size w w' := by
  obtain ⟨ao, cap, rfl, hc, hm, hr⟩ := RdK.open h
  have hr : RdI w (.slice ao l.length cap) l := hr
  have HRD := Lib.hid hr
  have SO := Lib.hid hs
  clear h hr hs
  go_enter Tryd.func122, Tryd.ntmps122
  go_wp2_with fail
  go_loopw [9, 10] (fun a b wr => ∃ lo hi : Nat, a = .int .i64 (lo : Int) ∧ b = .int .i64 (hi : Int) ∧ lo ≤ hi ∧ hi ≤ l.length ∧ Hid (∀ i (h : i < l.length), i < lo → ltB l[i].key k = true) ∧ Hid (∀ i (h : i < l.length), hi ≤ i → ltB l[i].key k = false) ∧ Below w.heap.size w wr) (fun a b _ => (intOf b).toNat - (intOf a).toNat)
  case atStart => exact ⟨0, l.length, rfl, rfl, by omega, by omega, Lib.hid (fun i _ h => by omega), Lib.hid (fun i _ h => by omega), Below.refl _ _⟩
  case round =>
    obtain ⟨lo, hi, rfl, rfl, h1, h2, B1, B2, bel⟩ := hrel
    by_cases hlt : lo < hi
    · obtain ⟨m, hm⟩ : ∃ m : Nat, m = (lo + hi) / 2 := ⟨_, rfl⟩
      have e1 : ((lo : Int) + (hi : Int)) / 2 = (m : Int) := by omega
      have e3 : (lo + hi) / 2 = m := by omega
      have m1 : lo ≤ m := by omega
      have m2 : m < hi := by omega
      have m3 : m < l.length := by omega
      clear hm
      have R1 := HRD.out.below bel (Nat.le_refl _)
      obtain ⟨pb, po, rfl, hpb, c0, c1, c2, c3, c4⟩ := rdi_cells R1 m m3
      obtain ⟨y, hy⟩ : ∃ y, y = l[m]'m3 := ⟨_, rfl⟩
      rw [← hy] at c0 c1 c2 c3 c4
      have CF := fun w => cmpF_any y k w
      obtain ⟨z, hz⟩ : ∃ z, z = Lib.compareBytes y.key k := ⟨_, rfl⟩
      rw [← hz] at CF
      have CF := Lib.hid CF
      cases hlk : ltB y.key k with
      | true =>
        have B3 : Hid (∀ i (h : i < l.length), i < m + 1 → ltB l[i].key k = true) := Lib.hid (fun i h hi3 => by
          rcases Nat.lt_or_eq_of_le (show i ≤ m by omega) with h4 | h4
          · exact lt_trans (by have := sorted_at SO.out h4 m3; rwa [← hy] at this) hlk
          · subst h4; rw [← hy]; exact hlk)
        have Z : z < 0 := by rw [hz]; exact cb_lt hlk
        clear hy hlk hz R1
        go_wp2_with ((with_reducible refine (CF.out _).mono ?_); rintro e w1 ⟨rfl, g⟩)
        exact ⟨⟨m + 1, hi, by push_cast; rfl, rfl, by omega, by omega, B3, B2, chain bel g⟩, by simp [intOf]; omega⟩
      | false =>
        have B3 : Hid (∀ i (h : i < l.length), m ≤ i → ltB l[i].key k = false) := Lib.hid (fun i h hi3 => by
          cases hc : ltB l[i].key k with
          | false => rfl
          | true =>
            rcases Nat.lt_or_eq_of_le hi3 with h4 | h4
            · have := lt_trans (sorted_at SO.out h4 h) hc
              rw [← hy, hlk] at this; cases this
            · subst h4; rw [← hy, hlk] at hc; cases hc)
        have Z : ¬ z < 0 := by rw [hz]; exact cb_ge hlk
        clear hy hlk hz R1
        go_wp2_with ((with_reducible refine (CF.out _).mono ?_); rintro e w1 ⟨rfl, g⟩)
        exact ⟨⟨lo, m, rfl, rfl, by omega, by omega, B1, B3, chain bel g⟩, by simp [intOf]; omega⟩
    · obtain rfl : lo = hi := by omega
      have PP : posL l k = lo := posL_of (by omega) (fun i hi2 hi3 => B1.out i hi2 hi3) (fun h => B2.out lo h (Nat.le_refl _))
      obtain ⟨q, hpm⟩ : ∃ q, q = lo := ⟨_, rfl⟩
      subst hpm
      have HP := Lib.hid (show posL l k = q from PP)
      clear PP
      by_cases hp : q < l.length
      · have R1 := HRD.out.below bel (Nat.le_refl _)
        obtain ⟨pb, po, rfl, hpb, c0, c1, c2, c3, c4⟩ := rdi_cells R1 q hp
        obtain ⟨y, hy⟩ : ∃ y, y = l[q]'hp := ⟨_, rfl⟩
        rw [← hy] at c0 c1 c2 c3 c4
        have CF := fun w => cmpF_any y k w
        obtain ⟨z, hz⟩ : ∃ z, z = Lib.compareBytes y.key k := ⟨_, rfl⟩
        rw [← hz] at CF
        have CF := Lib.hid CF
        obtain ⟨Zb, hZb⟩ : ∃ Zb, (z == 0) = Zb := ⟨_, rfl⟩
        clear hy hz R1
        go_wp2_with ((with_reducible refine (CF.out _).mono ?_); rintro e w1 ⟨rfl, g⟩)
        go_ret2
        exact ⟨⟨Zb, by rw [HP.out]; rfl⟩, chain bel g⟩
      · have hpn : decide ((q : Int) < (l.length : Int)) = false := decide_eq_false (by omega)
        have hpn2 : decide (q < l.length) = false := decide_eq_false hp
        go_wp2_with fail
        go_ret2
        exact ⟨⟨false, by rw [HP.out]; rfl⟩, bel⟩
end Go.Proofs.YtbdfcgffkonbiaaDoor
