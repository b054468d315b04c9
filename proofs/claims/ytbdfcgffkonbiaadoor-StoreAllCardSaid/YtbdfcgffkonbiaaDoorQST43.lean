/- Stores: the chapter's examples. Written by wip/tools/gen13aw.py. -/
import Derived.Test.YtbdfcgffkonbiaaDoorQST42
namespace Go.Proofs.YtbdfcgffkonbiaaDoor
open Go Go.RowKit
set_option linter.unusedVariables false
set_option linter.unusedSimpArgs false
def wv (n : Int) : V7.V := ⟨2, n, []⟩
def lvE : Nat → List It := fun _ => []
def vsE : Nat → Int := fun _ => 0
def lA : Nat → List It := upd (upd lvE 1 [⟨[97], wv 1, 1⟩]) 2 [⟨[98], wv 2, 1⟩]
def vA : Nat → Int := upd (upd vsE 1 1) 2 1
def wsA : St := ⟨lA, vA, 1, 10, 2⟩
def lB : Nat → List It := upd (upd lA 1 []) 3 [⟨[99], wv 3, 2⟩]
def vB9 : Nat → Int := upd (upd vA 1 2) 3 2
def wsB : St := ⟨lB, vB9, 2, 10, 2⟩
def ed1 : List Ed := [⟨[97], wv 1⟩, ⟨[98], wv 2⟩]
def ed2 : List Ed := [⟨[99], wv 3⟩]
def ed3 : List Ed := [⟨[97], eV0⟩, ⟨[99], wv 3⟩]
def ed4 : List Ed := [⟨[97], wv 1⟩, ⟨[99], eV0⟩]
theorem go_one {ver : Int} {lv lv' : Nat → List It} {vs vs' : Nat → Int} {x : Ed} {r : List Ed} {i : Nat} (h : apE lv vs x ver = 0) (h1 : apLv lv vs x ver = lv') (h2 : apVs lv vs x ver = vs') : goE ver lv vs (x :: r) i = goE ver lv' vs' r (i + 1) := by
  rw [goE, if_neg (by rw [h]; simp), h1, h2]
theorem tk1 : takeE (stN 10 2) ed1 = ((0, 0), wsA) :=
  take_fit (lv := lA) (vs := vA) (by kernel_rfl) (by kernel_rfl) ((go_one (ver := 1) (lv := lvE) (vs := vsE) (lv' := upd lvE 1 [⟨[97], wv 1, 1⟩]) (vs' := upd vsE 1 1) (by kernel_rfl) (by kernel_rfl) (by kernel_rfl)).trans (go_one (lv' := lA) (vs' := vA) (by kernel_rfl) (by kernel_rfl) (by kernel_rfl))) (by kernel_rfl)
theorem tk2 : takeE wsA ed2 = ((17, 1), stQ) :=
  take_unfit (lv := upd lA 3 [⟨[99], wv 3, 2⟩]) (vs := upd vA 3 2) (by kernel_rfl) (by kernel_rfl) (go_one (ver := 2) (lv := lA) (vs := vA) (by kernel_rfl) (by kernel_rfl) (by kernel_rfl)) (by kernel_rfl)
theorem tk3 : takeE wsA ed3 = ((0, 0), wsB) :=
  take_fit (lv := lB) (vs := vB9) (by kernel_rfl) (by kernel_rfl) ((go_one (ver := 2) (lv := lA) (vs := vA) (lv' := upd lA 1 []) (vs' := upd vA 1 2) (by kernel_rfl) (by kernel_rfl) (by kernel_rfl)).trans (go_one (lv' := lB) (vs' := vB9) (by kernel_rfl) (by kernel_rfl) (by kernel_rfl))) (by kernel_rfl)
theorem allA : allS lA = [⟨[97], wv 1, 1⟩, ⟨[98], wv 2, 1⟩] := by kernel_rfl
theorem allB : allS lB = [⟨[98], wv 2, 1⟩, ⟨[99], wv 3, 2⟩] := by kernel_rfl
theorem mayA : mayS wsA = true := by kernel_rfl
theorem mayB9 : mayS wsB = true := by kernel_rfl
theorem ud4 : undoS wsA wsB = ed4 := by
  unfold undoS
  rw [if_pos ⟨mayA, mayB9⟩]
  show undoM (allS lA) (allS lB) = _
  rw [allA, allB, um_a (by kernel_rfl), um_eq (by kernel_rfl) (by kernel_rfl) (by kernel_rfl), um_b0, um_nil]; rfl
theorem ud4E : undoE wsA wsB = 0 := by unfold undoE; rw [if_pos ⟨mayA, mayB9⟩]
theorem gtA : getE wsA [97] = 0 ∧ getI wsA [97] = ⟨[97], wv 1, 1⟩ := ⟨by kernel_rfl, by kernel_rfl⟩
theorem wtA : sumT weightL lA vA = 6 := by kernel_rfl
theorem lnA : sumT List.length lA vA = 2 := by kernel_rfl
theorem nwA : newB 10 2 = true := by kernel_rfl
theorem one_sz (k s : List UInt8) (a b v : Int) (hk : k.length ≤ maxLen) (hs : s.length ≤ maxLen) : SzI [⟨k, ⟨a, b, s⟩, v⟩] := fun x hx => by rw [List.mem_singleton.1 hx]; exact ⟨hk, hs⟩
theorem szA : SzT lA := upd_sz (upd_sz szE (one_sz _ _ _ _ _ (by simp [maxLen]) (by simp [maxLen]))) (one_sz _ _ _ _ _ (by simp [maxLen]) (by simp [maxLen]))
theorem szB : SzT lB := upd_sz (upd_sz szA (fun x hx => by cases hx)) (one_sz _ _ _ _ _ (by simp [maxLen]) (by simp [maxLen]))
theorem one_wf (x : It) (h : I64 x.v.i) : WfI [x] := fun y hy => by rw [List.mem_singleton.1 hy]; exact h
theorem wfA : WfT lA := upd_wf (upd_wf wfE (one_wf _ (by simp [wv, I64]))) (one_wf _ (by simp [wv, I64]))
theorem wfB : WfT lB := upd_wf (upd_wf wfA (fun x hx => by cases hx)) (one_wf _ (by simp [wv, I64]))
theorem wf_wv (n : Int) (h : I64 n) : (wv n).Wf := ⟨by simp [wv], h⟩
theorem rde_block {w : World} {g : Nat} {t : TypeId} (l : List Ed) (h : w.heap[g]? = some (.cells (l.flatMap edC).toArray t (0, 0))) (hm : l.length ≤ maxLen) : RdE w (.slice (some ⟨g, 0, none⟩) l.length l.length) l :=
  ⟨_, _, rfl, Nat.le_refl _, hm, (fun e => by cases e), fun _ => ⟨g, 0, rfl, lt_of_block h, fun t ht => by rw [Nat.zero_add, block_cell h]; simp⟩⟩
end Go.Proofs.YtbdfcgffkonbiaaDoor
