/- Trunks: what a change of one key keeps. Written by wip/tools/gen10x.py. -/
import Derived.Test.YtmjedjhkhjiigaaDoorQTKC45
import Derived.Test.YtmjedjhkhjiigaaDoorQTKC46
namespace Go.Proofs.YtmjedjhkhjiigaaDoor
open Go Go.RowKit
set_option linter.unusedVariables false
set_option linter.unusedSimpArgs false
theorem unl_le1 (lv : Nat → List It) (vs : Nat → Int) (b : Nat) (l : List It) (v : Int) (n : Nat) : (unlL lv (upd lv b l) vs (upd vs b v) n).length ≤ if b < n then 1 else 0 := by
  have h : ∀ i, i ≠ b → unlB lv (upd lv b l) vs (upd vs b v) i = false := by
    intro i hi
    unfold unlB
    rw [upd_ne _ _ hi, upd_ne _ _ hi]
    simp [lsEq]
  induction n with
  | zero => simp [unlL]
  | succ n ih =>
    rw [unlL_succ, List.length_append]
    by_cases e : n = b
    · subst e
      rw [if_neg (Nat.lt_irrefl _)] at ih
      rw [if_pos (Nat.lt_succ_self _)]
      split
      · show _ + 1 ≤ 1; omega
      · show _ + 0 ≤ 1; omega
    · rw [h n e, if_neg (by simp)]
      by_cases hb : b < n
      · rw [if_pos hb] at ih; rw [if_pos (by omega)]; simpa using ih
      · rw [if_neg hb] at ih; rw [if_neg (by omega)]; simpa using ih
theorem unl_le (lv : Nat → List It) (vs : Nat → Int) (b : Nat) (l : List It) (v : Int) : (unlL lv (upd lv b l) vs (upd vs b v) 16).length ≤ 1 := by
  refine Nat.le_trans (unl_le1 lv vs b l v 16) ?_
  split <;> omega
/-- What a change of one key makes of a trunk that may be. -/
structure Chg (lv : Nat → List It) (vs : Nat → Int) (key : List UInt8) (b : Nat) (l : List It) (v : Int) : Prop where
  lt : b < 16
  may : mayTs (upd lv b l) (upd vs b v) 16 = true
  sz : SzT (upd lv b l)
  other : ∀ k, k ≠ key → gTI (upd lv b l) k = gTI lv k ∧ gTB (upd lv b l) k = gTB lv k
theorem upd_get {lv : Nat → List It} {b : Nat} {l : List It} {k : List UInt8} (h : bkN k = b → gI l k = gI (lv b) k ∧ gB l k = gB (lv b) k) : gTI (upd lv b l) k = gTI lv k ∧ gTB (upd lv b l) k = gTB lv k := by
  unfold gTI gTB
  by_cases e : bkN k = b
  · obtain ⟨h1, h2⟩ := h e
    rw [e, upd_at, h1, h2]
    exact ⟨rfl, rfl⟩
  · rw [upd_ne _ _ e]; exact ⟨rfl, rfl⟩
theorem upd_sz {lv : Nat → List It} {b : Nat} {l : List It} (h : SzT lv) (hl : SzI l) : SzT (upd lv b l) := by
  intro i hi
  by_cases e : i = b
  · subst e; rw [upd_at]; exact hl
  · rw [upd_ne _ _ e]; exact h i hi
theorem put_chg {lv : Nat → List It} {vs : Nat → Int} {x : It} (hm : mayTs lv vs 16 = true) (hsz : SzT lv) (h1 : x.key.length ≤ maxLen) (h2 : x.v.s.length ≤ maxLen) (h : putTE lv vs x = 0) :
    Chg lv vs x.key (bkN x.key) (withL (lv (bkN x.key)) x) x.ver := by
  have hp := putTE_zero h
  have hk := mayI_key (putE_zero hp).2.1
  have hl := isT hm (bkN_lt x.key)
  have hv : vs (bkN x.key) ≤ x.ver := by
    by_cases q : x.ver < vs (bkN x.key)
    · unfold putTE at h
      rw [if_pos ⟨hm, hk⟩, if_pos ⟨by rw [hp]; decide, q⟩] at h
      cases h
    · omega
  refine ⟨bkN_lt _, mayTs_upd hm (put_mayT (mayTs_at hm (bkN_lt _)) hp (bk_is hk) hv), upd_sz hsz ?_, fun k hne => upd_get fun _ => ?_⟩
  · intro y hy
    rcases with_mem.1 hy with ⟨q, _⟩ | rfl | ⟨q, _⟩
    · exact hsz _ (bkN_lt _) y q
    · exact ⟨h1, h2⟩
    · exact hsz _ (bkN_lt _) y q
  · unfold gI gB
    rw [with_is hp, hl, with_other hp hne]
    exact ⟨rfl, rfl⟩
theorem delTE_zero {lv : Nat → List It} {vs : Nat → Int} {k : List UInt8} {ver : Int} (h : delTE lv vs k ver = 0) : verB ver = true ∧ isB k = true ∧ delE (lv (bkN k)) k = 0 ∧ vs (bkN k) ≤ ver := by
  unfold delTE at h
  split at h
  · cases h
  · rename_i h1
    split at h
    · cases h
    · rename_i h2
      split at h
      · cases h
      · rename_i h3
        refine ⟨by simpa using fun q => h1 (.inl q), by simpa using h2, h, ?_⟩
        by_cases q : ver < vs (bkN k)
        · exact absurd ⟨h, q⟩ h3
        · omega
theorem del_chg {lv : Nat → List It} {vs : Nat → Int} {key : List UInt8} {ver : Int} (hm : mayTs lv vs 16 = true) (hsz : SzT lv) (h : delTE lv vs key ver = 0) :
    Chg lv vs key (bkN key) (withoutL (lv (bkN key)) key) ver := by
  obtain ⟨hr, hk, hp, hv⟩ := delTE_zero h
  have hl := isT hm (bkN_lt key)
  refine ⟨bkN_lt _, mayTs_upd hm (del_mayT (mayTs_at hm (bkN_lt _)) hp hv hr), upd_sz hsz ?_, fun k hne => upd_get fun _ => ?_⟩
  · intro y hy
    exact hsz _ (bkN_lt _) y (List.mem_filter.1 hy).1
  · unfold gI gB
    rw [without_is hp, hl, without_other hp hne]
    exact ⟨rfl, rfl⟩
theorem own_slice_n {w : World} {base : Nat} {e : TypeId} {size : Nat} {v : Value} {n : Nat} {xs : List Value} (h : w.ownsRow base e size v n xs) : ∃ a c, v = .slice a n c := by
  rcases h.2 with ⟨h1, h2⟩ | ⟨g, cap, cur, h1, _⟩
  · subst h2; exact ⟨_, _, h1⟩
  · exact ⟨_, _, h1⟩
/-- A reading of a trunk that lives through stores into block g. -/
def SafeT (g : Nat) (w : World) (cs : Array Value) (lv : Nat → List It) (vs : Nat → Int) : Prop := ∀ W : World, (∀ k, k < w.heap.size → k ≠ g → W.heap[k]? = w.heap[k]?) → RdT W cs lv vs
theorem SafeT.rd {g : Nat} {w : World} {cs : Array Value} {lv : Nat → List It} {vs : Nat → Int} (h : SafeT g w cs lv vs) : RdT w cs lv vs := h w fun _ _ _ => rfl
theorem SafeT.later {g : Nat} {w w' : World} {cs : Array Value} {lv : Nat → List It} {vs : Nat → Int} (h : SafeT g w cs lv vs) (hs : w.heap.size ≤ w'.heap.size) (hk : ∀ k, k < w.heap.size → k ≠ g → w'.heap[k]? = w.heap[k]?) : SafeT g w' cs lv vs :=
  fun W hW => h W fun k h1 h2 => (hW k (by omega) h2).trans (hk k h1 h2)
theorem SafeT.below {g : Nat} {w w' : World} {cs : Array Value} {lv : Nat → List It} {vs : Nat → Int} (h : SafeT g w cs lv vs) (b : Below w.heap.size w w') : SafeT g w' cs lv vs := h.later b.size fun k h1 _ => b.block k h1
theorem SafeT.setRow {g : Nat} {w : World} {cs : Array Value} {lv : Nat → List It} {vs : Nat → Int} (h : SafeT g w cs lv vs) (c : Array Value) : SafeT g (w.setRow g c) cs lv vs :=
  h.later (by rw [setRow_size]; exact Nat.le_refl _) fun k _ h2 => setRow_other _ _ _ _ h2
theorem SafeT.put {g : Nat} {w : World} {cs : Array Value} {lv : Nat → List It} {vs : Nat → Int} (h : SafeT g w cs lv vs) {b base : Nat} (hb : b < 16) {u : Value} {l : List It} {v : Int} (ho : w.ownsRow base 32 5 u l.length (l.flatMap itC)) (hg : g < base) :
    SafeT g w ((cs.setIfInBounds b u).setIfInBounds (16 + b) (.int .i64 v)) (upd lv b l) (upd vs b v) :=
  fun W hW => (h W hW).put hb (own_rdk itC_len (own_moved2 ho fun k h1 h2 => hW k h2 (by omega)))
theorem OwnT.safe {g base : Nat} {w : World} {cs : Array Value} {lv : Nat → List It} {vs : Nat → Int} (h : OwnT base w cs lv vs) (hg : g < base ∨ w.heap.size ≤ g) : SafeT g w cs lv vs :=
  fun W hW => (h.moved fun k h1 h2 => hW k h2 (by omega)).rd
end Go.Proofs.YtmjedjhkhjiigaaDoor
