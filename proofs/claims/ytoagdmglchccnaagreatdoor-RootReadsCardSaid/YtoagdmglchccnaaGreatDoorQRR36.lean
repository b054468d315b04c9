/- A struct of many cells out of the middle of a block, and into it. It speaks of no program in particular. -/
/- Stores: fits, May. Written by wip/tools/gen13b.py. -/
/- Stores, mathematics: what edits make of a trunk, one behind the other; what Take comes to. -/
/- Span: all items of a trunk in order; ranges; the merge of the buckets. Plain mathematics. -/
/- Span: what a range cut in two has; what is under a pattern; the sum; the names. Plain mathematics. -/
/- Stores, mathematics: what one change keeps (out of K10X), what edits keep. -/
import Derived.Test.YtoagdmglchccnaaGreatDoorQRR1
import Derived.Test.YtoagdmglchccnaaGreatDoorQRR2
import Derived.Deep.MidRow
import Derived.Test.YtoagdmglchccnaaGreatDoorQRR35
import Derived.Test.YtoagdmglchccnaaGreatDoorQRR7
import Derived.Test.YtoagdmglchccnaaGreatDoorQRR22
import Derived.Test.YtoagdmglchccnaaGreatDoorQRR14
namespace Go.Proofs.YtoagdmglchccnaaGreatDoor
open Go Go.RowKit
set_option linter.unusedVariables false
section
variable {P : Program} {ops : Array Oper} {rest : List Oper} {o : Oper} {a : Act} {w : World} {Q : Exit → Act → World → Prop}
/-- A part of a block's cells. -/
def subA (cs : Array Value) (off n : Nat) : Array Value := ((cs.toList.drop off).take n).toArray
/-- Cells with others from a place on. -/
def putA : Array Value → Nat → List Value → Array Value
  | cs, _, [] => cs
  | cs, o, v :: r => putA (cs.setIfInBounds o v) (o + 1) r
end
end Go.Proofs.YtoagdmglchccnaaGreatDoor
namespace Go.Proofs.YtoagdmglchccnaaGreatDoor
open Go Go.RowKit
set_option linter.unusedVariables false
set_option linter.unusedSimpArgs false
end Go.Proofs.YtoagdmglchccnaaGreatDoor
namespace Go.Proofs.YtoagdmglchccnaaGreatDoor
open Go Go.RowKit
set_option linter.unusedVariables false
set_option linter.unusedSimpArgs false
structure Ed where
  key : List UInt8
  v : V7.V
def edC (x : Ed) : List Value := [.string (str x.key), .int .i64 x.v.k, .int .i64 x.v.i, .string (str x.v.s)]
def mayE (x : Ed) : Bool := isB x.key && V7.mayB x.v
def edI (x : Ed) (ver : Int) : It := ⟨x.key, x.v, ver⟩
/-- What one edit comes to: the error's number, and the trunk behind it. -/
def apE (lv : Nat → List It) (vs : Nat → Int) (x : Ed) (ver : Int) : Nat := if x.v.k = 0 then 0 else putTE lv vs (edI x ver)
def apLv (lv : Nat → List It) (vs : Nat → Int) (x : Ed) (ver : Int) : Nat → List It := if x.v.k = 0 then (if delTE lv vs x.key ver = 0 then upd lv (bkN x.key) (withoutL (lv (bkN x.key)) x.key) else lv) else upd lv (bkN x.key) (withL (lv (bkN x.key)) (edI x ver))
def apVs (lv : Nat → List It) (vs : Nat → Int) (x : Ed) (ver : Int) : Nat → Int := if x.v.k = 0 then (if delTE lv vs x.key ver = 0 then upd vs (bkN x.key) ver else vs) else upd vs (bkN x.key) ver
def goE (ver : Int) : (Nat → List It) → (Nat → Int) → List Ed → Nat → (Nat × Nat) × (Nat → List It) × (Nat → Int)
  | lv, vs, [], _ => ((0, 0), lv, vs)
  | lv, vs, x :: r, i => if apE lv vs x ver ≠ 0 then ((apE lv vs x ver, i), lv, vs) else goE ver (apLv lv vs x ver) (apVs lv vs x ver) r (i + 1)
def badE : List Ed → Nat → Option Nat
  | [], _ => none
  | x :: r, i => if mayE x = true then badE r (i + 1) else some i
def stQ : St := ⟨fun _ => [], fun _ => 0, 0, 0, 0⟩
def nextS (s : St) (lv : Nat → List It) (vs : Nat → Int) : St := ⟨lv, vs, s.ver + 1, s.by_, s.ke⟩
def okS (s : St) : Bool := mayS s && decide (s.ver < 2147483647)
def takeB (s : St) (l : List Ed) : (Nat × Nat) × St :=
  if (goE (s.ver + 1) s.lv s.vs l 0).1.1 ≠ 0 then ((goE (s.ver + 1) s.lv s.vs l 0).1, stQ)
  else if fitsB (nextS s (goE (s.ver + 1) s.lv s.vs l 0).2.1 (goE (s.ver + 1) s.lv s.vs l 0).2.2) = true then ((0, 0), nextS s (goE (s.ver + 1) s.lv s.vs l 0).2.1 (goE (s.ver + 1) s.lv s.vs l 0).2.2)
  else ((17, l.length), stQ)
/-- The error, its place, and the store. -/
def takeE (s : St) (l : List Ed) : (Nat × Nat) × St := if okS s = false then ((1, 0), stQ) else match badE l 0 with | some i => ((1, i), stQ) | none => takeB s l
theorem mayE_key {x : Ed} (h : mayE x = true) : isB x.key = true := by unfold mayE at h; simp only [Bool.and_eq_true] at h; exact h.1
theorem mayE_v {x : Ed} (h : mayE x = true) : V7.mayB x.v = true := by unfold mayE at h; simp only [Bool.and_eq_true] at h; exact h.2
end Go.Proofs.YtoagdmglchccnaaGreatDoor
namespace Go.Proofs.YtoagdmglchccnaaGreatDoor
open Go Go.RowKit
set_option linter.unusedVariables false
set_option linter.unusedSimpArgs false
set_option linter.unusedSectionVars false
section
variable {α K : Type} (key : α → K) (lt : K → K → Bool) (bk : α → Nat)
/-- Sorted by key. -/
abbrev Srt (l : List α) : Prop := l.Pairwise (fun a b => lt (key a) (key b) = true)
variable (tr : ∀ {a b c : K}, lt a b = true → lt b c = true → lt a c = true) (irr : ∀ a, lt a a = false)
include tr irr
/-- The places in the lists, and what is left of all of them. -/
def Inv (ls : Nat → List α) (nx : Nat → Nat) (R : List α) : Prop := ∀ b, b < 16 → nx b ≤ (ls b).length ∧ (ls b).drop (nx b) = R.filter (fun x => decide (bk x = b))
end
/-- All items of a trunk, each laid where it belongs. -/
def allS (lv : Nat → List It) : List It := (allN lv 16).foldl withL []
abbrev SrtI (l : List It) : Prop := l.Pairwise (fun a b => ltB a.key b.key = true)
section
variable {lv : Nat → List It} {vs : Nat → Int} (h : mayTs lv vs 16 = true)
include h
end
/-- Is a key in a range? -/
def inK (f t k : List UInt8) : Bool := !ltB k f && (decide (t = []) || ltB k t)
def fromL (lv : Nat → List It) (f : List UInt8) : List It := (allS lv).filter (fun x => !ltB x.key f)
def endK (t : List UInt8) (x : It) : Bool := decide (t = []) || ltB x.key t
def rngL (lv : Nat → List It) (f t : List UInt8) : List It := (allS lv).filter (fun x => inK f t x.key)
section
variable {lv : Nat → List It} {vs : Nat → Int} (h : mayTs lv vs 16 = true) (f t : List UInt8)
include h
end
/-- Items with their numbers. -/
def ixs (l : List It) : List (It × Nat) := l.zipIdx
end Go.Proofs.YtoagdmglchccnaaGreatDoor
namespace Go.Proofs.YtoagdmglchccnaaGreatDoor
open Go Go.RowKit
set_option linter.unusedVariables false
set_option linter.unusedSimpArgs false
set_option linter.unusedSectionVars false
section
variable {lv : Nat → List It} {vs : Nat → Int} (h : mayTs lv vs 16 = true)
include h
end
end Go.Proofs.YtoagdmglchccnaaGreatDoor
namespace Go.Proofs.YtoagdmglchccnaaGreatDoor
open Go Go.RowKit
set_option linter.unusedVariables false
set_option linter.unusedSimpArgs false
theorem putTE_zero {lv : Nat → List It} {vs : Nat → Int} {x : It} (h : putTE lv vs x = 0) : putE (lv (bkN x.key)) x = 0 := by
  unfold putTE at h
  split at h
  · split at h
    · cases h
    · exact h
  · cases h
/-- What a change of one key makes of a trunk that may be. -/
structure Chg (lv : Nat → List It) (vs : Nat → Int) (key : List UInt8) (b : Nat) (l : List It) (v : Int) : Prop where
  lt : b < 16
  may : mayTs (upd lv b l) (upd vs b v) 16 = true
  sz : SzT (upd lv b l)
  other : ∀ k, k ≠ key → gTI (upd lv b l) k = gTI lv k ∧ gTB (upd lv b l) k = gTB lv k
theorem upd_get {lv : Nat → List It} {b : Nat} {l : List It} {k : List UInt8} (h : bkN k = b → gI l k = gI (lv b) k ∧ gB l k = gB (lv b) k) : gTI (upd lv b l) k = gTI lv k ∧ gTB (upd lv b l) k = gTB lv k := by
  unfold gTI gTB
  by_cases e : bkN k = b
  · obtain ⟨h1, h2⟩ := h e
    rw [e, upd_at, h1, h2]
    exact ⟨rfl, rfl⟩
  · rw [upd_ne _ _ e]; exact ⟨rfl, rfl⟩
theorem upd_sz {lv : Nat → List It} {b : Nat} {l : List It} (h : SzT lv) (hl : SzI l) : SzT (upd lv b l) := by
  intro i hi
  by_cases e : i = b
  · subst e; rw [upd_at]; exact hl
  · rw [upd_ne _ _ e]; exact h i hi
theorem put_chg {lv : Nat → List It} {vs : Nat → Int} {x : It} (hm : mayTs lv vs 16 = true) (hsz : SzT lv) (h1 : x.key.length ≤ maxLen) (h2 : x.v.s.length ≤ maxLen) (h : putTE lv vs x = 0) :
    Chg lv vs x.key (bkN x.key) (withL (lv (bkN x.key)) x) x.ver := by
  have hp := putTE_zero h
  have hk := mayI_key (putE_zero hp).2.1
  have hl := isT hm (bkN_lt x.key)
  have hv : vs (bkN x.key) ≤ x.ver := by
    by_cases q : x.ver < vs (bkN x.key)
    · unfold putTE at h
      rw [if_pos ⟨hm, hk⟩, if_pos ⟨by rw [hp]; decide, q⟩] at h
      cases h
    · omega
  refine ⟨bkN_lt _, mayTs_upd hm (put_mayT (mayTs_at hm (bkN_lt _)) hp (bk_is hk) hv), upd_sz hsz ?_, fun k hne => upd_get fun _ => ?_⟩
  · intro y hy
    rcases with_mem.1 hy with ⟨q, _⟩ | rfl | ⟨q, _⟩
    · exact hsz _ (bkN_lt _) y q
    · exact ⟨h1, h2⟩
    · exact hsz _ (bkN_lt _) y q
  · unfold gI gB
    rw [with_is hp, hl, with_other hp hne]
    exact ⟨rfl, rfl⟩
theorem delTE_zero {lv : Nat → List It} {vs : Nat → Int} {k : List UInt8} {ver : Int} (h : delTE lv vs k ver = 0) : verB ver = true ∧ isB k = true ∧ delE (lv (bkN k)) k = 0 ∧ vs (bkN k) ≤ ver := by
  unfold delTE at h
  split at h
  · cases h
  · rename_i h1
    split at h
    · cases h
    · rename_i h2
      split at h
      · cases h
      · rename_i h3
        refine ⟨by simpa using fun q => h1 (.inl q), by simpa using h2, h, ?_⟩
        by_cases q : ver < vs (bkN k)
        · exact absurd ⟨h, q⟩ h3
        · omega
theorem del_chg {lv : Nat → List It} {vs : Nat → Int} {key : List UInt8} {ver : Int} (hm : mayTs lv vs 16 = true) (hsz : SzT lv) (h : delTE lv vs key ver = 0) :
    Chg lv vs key (bkN key) (withoutL (lv (bkN key)) key) ver := by
  obtain ⟨hr, hk, hp, hv⟩ := delTE_zero h
  have hl := isT hm (bkN_lt key)
  refine ⟨bkN_lt _, mayTs_upd hm (del_mayT (mayTs_at hm (bkN_lt _)) hp hv hr), upd_sz hsz ?_, fun k hne => upd_get fun _ => ?_⟩
  · intro y hy
    exact hsz _ (bkN_lt _) y (List.mem_filter.1 hy).1
  · unfold gI gB
    rw [without_is hp, hl, without_other hp hne]
    exact ⟨rfl, rfl⟩
theorem own_slice_n {w : World} {base : Nat} {e : TypeId} {size : Nat} {v : Value} {n : Nat} {xs : List Value} (h : w.ownsRow base e size v n xs) : ∃ a c, v = .slice a n c := by
  rcases h.2 with ⟨h1, h2⟩ | ⟨g, cap, cur, h1, _⟩
  · subst h2; exact ⟨_, _, h1⟩
  · exact ⟨_, _, h1⟩
/-- A reading of a trunk that lives through stores into block g. -/
def SafeT (g : Nat) (w : World) (cs : Array Value) (lv : Nat → List It) (vs : Nat → Int) : Prop := ∀ W : World, (∀ k, k < w.heap.size → k ≠ g → W.heap[k]? = w.heap[k]?) → RdT W cs lv vs
theorem SafeT.rd {g : Nat} {w : World} {cs : Array Value} {lv : Nat → List It} {vs : Nat → Int} (h : SafeT g w cs lv vs) : RdT w cs lv vs := h w fun _ _ _ => rfl
theorem SafeT.later {g : Nat} {w w' : World} {cs : Array Value} {lv : Nat → List It} {vs : Nat → Int} (h : SafeT g w cs lv vs) (hs : w.heap.size ≤ w'.heap.size) (hk : ∀ k, k < w.heap.size → k ≠ g → w'.heap[k]? = w.heap[k]?) : SafeT g w' cs lv vs :=
  fun W hW => h W fun k h1 h2 => (hW k (by omega) h2).trans (hk k h1 h2)
theorem SafeT.below {g : Nat} {w w' : World} {cs : Array Value} {lv : Nat → List It} {vs : Nat → Int} (h : SafeT g w cs lv vs) (b : Below w.heap.size w w') : SafeT g w' cs lv vs := h.later b.size fun k h1 _ => b.block k h1
theorem SafeT.setRow {g : Nat} {w : World} {cs : Array Value} {lv : Nat → List It} {vs : Nat → Int} (h : SafeT g w cs lv vs) (c : Array Value) : SafeT g (w.setRow g c) cs lv vs :=
  h.later (by rw [setRow_size]; exact Nat.le_refl _) fun k _ h2 => setRow_other _ _ _ _ h2
theorem SafeT.put {g : Nat} {w : World} {cs : Array Value} {lv : Nat → List It} {vs : Nat → Int} (h : SafeT g w cs lv vs) {b base : Nat} (hb : b < 16) {u : Value} {l : List It} {v : Int} (ho : w.ownsRow base 154 5 u l.length (l.flatMap itC)) (hg : g < base) :
    SafeT g w ((cs.setIfInBounds b u).setIfInBounds (16 + b) (.int .i64 v)) (upd lv b l) (upd vs b v) :=
  fun W hW => (h W hW).put hb (own_rdk itC_len (own_moved2 ho fun k h1 h2 => hW k h2 (by omega)))
/-- A trunk that may be, of texts and numbers that there can be. -/
structure GT (lv : Nat → List It) (vs : Nat → Int) (ver : Int) : Prop where
  may : mayTs lv vs 16 = true
  sz : SzT lv
  wf : WfT lv
  le : ∀ b, b < 16 → vs b ≤ ver
theorem GT.h100 {lv : Nat → List It} {vs : Nat → Int} {ver : Int} (h : GT lv vs ver) : ∀ b, b < 16 → (lv b).length ≤ 100 := fun b hb => Nat.le_trans (isL_len (isT h.may hb)) (by decide)
def WfE (l : List Ed) : Prop := ∀ x ∈ l, x.v.Wf
theorem isB_24 {k : List UInt8} (h : isB k = true) : k.length ≤ 24 := by
  unfold isB patB at h; simp only [Bool.and_eq_true, decide_eq_true_eq] at h; exact h.2.1
theorem isB_max {k : List UInt8} (h : isB k = true) : k.length ≤ maxLen := Nat.le_trans (isB_24 h) (by simp [maxLen])
theorem mayB_64 {v : V7.V} (h : V7.mayB v = true) : v.s.length ≤ 64 := by
  unfold V7.mayB at h
  simp only [decide_eq_true_eq] at h
  rcases h with ⟨_, _, e⟩ | ⟨_, _, e⟩ | ⟨_, e⟩ | ⟨_, _, e⟩
  · rw [e]; simp
  · rw [e]; simp
  · rw [e]; simp
  · exact e
theorem mayB_max {v : V7.V} (h : V7.mayB v = true) : v.s.length ≤ maxLen := Nat.le_trans (mayB_64 h) (by simp [maxLen])
theorem upd_wf {lv : Nat → List It} {b : Nat} {l : List It} (h : WfT lv) (hl : WfI l) : WfT (upd lv b l) := by
  intro i hi
  by_cases e : i = b
  · subst e; rw [upd_at]; exact hl
  · rw [upd_ne _ _ e]; exact h i hi
theorem apPut {lv : Nat → List It} {vs : Nat → Int} {x : Ed} {ver : Int} (hk : x.v.k ≠ 0) : apE lv vs x ver = putTE lv vs (edI x ver) ∧ apLv lv vs x ver = upd lv (bkN x.key) (withL (lv (bkN x.key)) (edI x ver)) ∧ apVs lv vs x ver = upd vs (bkN x.key) ver := by
  unfold apE apLv apVs; rw [if_neg hk, if_neg hk, if_neg hk]; exact ⟨rfl, rfl, rfl⟩
theorem apDel {lv : Nat → List It} {vs : Nat → Int} {x : Ed} {ver : Int} (hk : x.v.k = 0) (hd : delTE lv vs x.key ver = 0) : apE lv vs x ver = 0 ∧ apLv lv vs x ver = upd lv (bkN x.key) (withoutL (lv (bkN x.key)) x.key) ∧ apVs lv vs x ver = upd vs (bkN x.key) ver := by
  unfold apE apLv apVs; rw [if_pos hk, if_pos hk, if_pos hk, if_pos hd, if_pos hd]; exact ⟨rfl, rfl, rfl⟩
theorem apNo {lv : Nat → List It} {vs : Nat → Int} {x : Ed} {ver : Int} (hk : x.v.k = 0) (hd : delTE lv vs x.key ver ≠ 0) : apE lv vs x ver = 0 ∧ apLv lv vs x ver = lv ∧ apVs lv vs x ver = vs := by
  unfold apE apLv apVs; rw [if_pos hk, if_pos hk, if_pos hk, if_neg hd, if_neg hd]; exact ⟨rfl, rfl, rfl⟩
theorem upd_le {vs : Nat → Int} {b : Nat} {ver : Int} (h : ∀ b, b < 16 → vs b ≤ ver) : ∀ i, i < 16 → upd vs b ver i ≤ ver := by
  intro i hi
  by_cases e : i = b
  · subst e; rw [upd_at]; exact Int.le_refl _
  · rw [upd_ne _ _ e]; exact h i hi
theorem GT.step {lv : Nat → List It} {vs : Nat → Int} {ver : Int} (h : GT lv vs ver) {x : Ed} (hx : mayE x = true) (hw : x.v.Wf) (hv : verB ver = true) (he : apE lv vs x ver = 0) :
    GT (apLv lv vs x ver) (apVs lv vs x ver) ver := by
  by_cases hk : x.v.k = 0
  · by_cases hd : delTE lv vs x.key ver = 0
    · obtain ⟨-, e2, e3⟩ := apDel hk hd
      have c := del_chg h.may h.sz hd
      rw [e2, e3]
      exact ⟨c.may, c.sz, upd_wf h.wf fun y hy => h.wf _ (bkN_lt _) y (List.mem_filter.1 hy).1, upd_le h.le⟩
    · obtain ⟨-, e2, e3⟩ := apNo hk hd
      rw [e2, e3]; exact h
  · obtain ⟨e1, e2, e3⟩ := apPut (lv := lv) (vs := vs) (ver := ver) hk
    rw [e1] at he
    have hk' := mayE_key hx
    have c := put_chg (x := edI x ver) h.may h.sz (isB_max hk') (mayB_max (mayE_v hx)) he
    rw [e2, e3]
    refine ⟨c.may, c.sz, upd_wf h.wf fun y hy => ?_, upd_le h.le⟩
    obtain ⟨h1, h2⟩ := verB_iff.1 hv
    rcases with_mem.1 hy with ⟨q, _⟩ | rfl | ⟨q, _⟩
    · exact h.wf _ (bkN_lt _) y q
    · exact hw.2
    · exact h.wf _ (bkN_lt _) y q
end Go.Proofs.YtoagdmglchccnaaGreatDoor
