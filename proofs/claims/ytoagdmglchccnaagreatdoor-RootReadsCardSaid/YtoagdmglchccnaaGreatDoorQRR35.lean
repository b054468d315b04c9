/- Trunks: Count, Weight; which buckets are unlike. Written by wip/tools/gen10h.py. -/
/- Trunks: which buckets are unlike. Written by wip/tools/gen10i.py. -/
/- Trunks: the chapter's examples. Written by wip/tools/gen10j.py. -/
/- Trunks: what a change hands back, whatever comes behind it; the document's Bucket and Get. Written by wip/tools/gen10k.py. -/
/- Trunks: the document's Put and Delete. Written by wip/tools/gen10l.py. -/
/- A region whose order is open and that ends in a chain of stores: behind operation number n nothing is asked of the world. -/
/- Trunks: the law TrunkDoes. Written by wip/tools/gen10n.py. -/
/- Trunks: a trunk among the arguments. Written by wip/tools/gen10p.py. -/
/- Trunks: Weight; the document's All. Written by wip/tools/gen10t.py. -/
/- Stores: what is read of one, and whether one may be: mathematics. -/
import Derived.Test.YtoagdmglchccnaaGreatDoorQRR34
import Derived.Test.YtoagdmglchccnaaGreatDoorQRR18
import Derived.Deep.QuietTactic
import Derived.BigQuiet
import Derived.Test.YtoagdmglchccnaaGreatDoorQRR7
import Derived.Test.YtoagdmglchccnaaGreatDoorQRR2
import Derived.Test.YtoagdmglchccnaaGreatDoorQRR19
namespace Go.Proofs.YtoagdmglchccnaaGreatDoor
open Go Go.RowKit
set_option linter.unusedVariables false
set_option linter.unusedSimpArgs false
def arr16 (cs : Array Value) : List Value := cs.toList.take 16
theorem arr16_len {cs : Array Value} (h : cs.size = 32) : (arr16 cs).length = 16 := by unfold arr16; rw [List.length_take, Array.length_toList]; omega
theorem arr16_at {cs : Array Value} {k : Nat} (hk : k < 16) : (arr16 cs).toArray[k]? = cs[k]? := by
  unfold arr16; rw [List.getElem?_toArray, List.getElem?_take, if_pos hk, Array.getElem?_toList]
theorem arr16_range {w : World} {B : Nat} {cs : Array Value} {t : TypeId} (q : w.heap[B]? = some (.cells cs t (0, 0))) : w.rangeAt B 0 (arr16 cs) := by
  intro j v hv
  have hj : j < 16 := by
    have := (List.getElem?_eq_some_iff.1 hv).1
    unfold arr16 at this; rw [List.length_take] at this; omega
  rw [Nat.zero_add, block_cell q j, ← arr16_at hj, List.getElem?_toArray]; exact hv
theorem info16 {cs : Array Value} (h : cs.size = 32) : (Tryz.prog.info? 24).map (·.size) = some (arr16 cs).length := by
  rw [arr16_len h]; kernel_rfl
/-- What a function says of the leaves, added up. -/
def sumN (p : List It → Nat) (lv : Nat → List It) (n : Nat) : Nat := ((List.range n).map fun b => p (lv b)).sum
theorem sumN_succ (p : List It → Nat) (lv : Nat → List It) (n : Nat) : sumN p lv (n + 1) = sumN p lv n + p (lv n) := by
  unfold sumN; rw [List.range_succ, List.map_append, List.sum_append]; simp
def sumT (p : List It → Nat) (lv : Nat → List It) (vs : Nat → Int) : Nat := if mayTs lv vs 16 = true then sumN p lv 16 else 0
set_option maxRecDepth 100000 in
set_option maxHeartbeats 2000000 in
theorem sum_any (F : Nat) (p : List It → Nat) (cs : Array Value) (lv : Nat → List It) (vs : Nat → Int) (w : World) (tab : TabAt w) (h : RdT w cs lv vs) (hsz : SzT lv)
    (HP : ∀ b, b < 16 → ∀ W u, TabAt W → RdI W u (lv b) → Calls Tryz.prog F #[u] W fun e w' => e = .returned (.int .i64 (p (lv b) : Int)) ∧ Below W.heap.size W w')
    (hp : ∀ b, b < 16 → p (lv b) ≤ 100000) (eg : ∀ args w, (callFunc F args).run Tryz.prog w = .ok (.enter F args) w) :
    Calls Tryz.prog 153 #[.agg cs, .func (.func F) #[] #[]] w fun e w' => e = .returned (.int .i64 (sumT p lv vs : Int)) ∧ Below w.heap.size w w' := by
  have hs := infoTc h.size
  have hs16 := info16 h.size
  have HT := Lib.hid h
  have HPP := Lib.hid HP
  have HPB := Lib.hid hp
  obtain ⟨R, hR⟩ : ∃ R, R = sumT p lv vs := ⟨_, rfl⟩
  rw [← hR]
  have q2 := heap_alloc_new w (.cells cs 27)
  have bel := (Below.refl w.heap.size w).alloc (Nat.le_refl _) (.cells cs 27)
  have T0 := tab.below bel
  have T1 := Lib.hid tab
  have TM0 := tmay_any cs lv vs _ T0 (h.below bel (Nat.le_refl _)) hsz
  clear h hsz tab HP hp
  cases hm : mayTs lv vs 16 with
  | false =>
    have HR := Lib.hid (show R = 0 by rw [hR]; unfold sumT; rw [hm]; rfl)
    rw [hm] at TM0
    have TM := Lib.hid TM0
    clear hR hm TM0
    go_enter Tryz.func153, Tryz.ntmps153
    go_wp2_with (with_reducible refine wpList_load_row (o := ⟨some 8, _, _, _, _, _⟩) rfl 27 (.tmp 2) rfl _ rfl _ cs (0, 0) _ q2 Tryz.underlying27 rfl hs ?_)
    refine TM.out.mono ?_
    rintro e w1 ⟨rfl, g⟩
    replace bel := chain bel g
    clear g q2
    go_wp2_with fail
    go_ret
    exact ⟨by rw [HR.out]; rfl, bel⟩
  | true =>
    have HR := Lib.hid (show R = sumN p lv 16 by rw [hR]; unfold sumT; rw [hm]; rfl)
    rw [hm] at TM0
    have TM := Lib.hid TM0
    clear hR hm TM0
    go_enter Tryz.func153, Tryz.ntmps153
    go_wp2_with (with_reducible refine wpList_load_row (o := ⟨some 8, _, _, _, _, _⟩) rfl 27 (.tmp 2) rfl _ rfl _ cs (0, 0) _ q2 Tryz.underlying27 rfl hs ?_)
    refine TM.out.mono ?_
    rintro e w1 ⟨rfl, g⟩
    replace q2 := (g.block _ (lt_of_block q2)).trans q2
    replace bel := chain bel g
    have hrg := arr16_range q2
    clear g
    go_wp2_with (with_reducible refine wpList_load_mid (op := ⟨some 12, _, _, _, _, _⟩) rfl 24 (.tmp 11) rfl _ 0 rfl (arr16 cs) _ hrg Tryz.underlying24 rfl hs16 ?_)
    obtain ⟨A, hA⟩ : ∃ A, A = (arr16 cs).toArray := ⟨_, rfl⟩
    rw [← hA]
    have HA := Lib.hid hA
    clear hA hrg hs16 q2
    go_loopw [5, 13] (fun n i wr => ∃ k : Nat, k ≤ 16 ∧ i = .int .i64 (k : Int) ∧ n = .int .i64 (sumN p lv k : Int) ∧ Hid (sumN p lv k ≤ k * 100000) ∧ Below w.heap.size w wr) (fun _ i _ => 20 - (intOf i).toNat)
    case atStart => exact ⟨0, by omega, rfl, rfl, Lib.hid (Nat.zero_le _), bel⟩
    case round =>
      clear bel
      obtain ⟨k, hk, rfl, rfl, HB, bel⟩ := hrel
      by_cases hlt : k < 16
      · have hlti : (k : Int) < 16 := by omega
        obtain ⟨u, hu, hru⟩ := HT.out.leaf k hlt
        have hX := fun W => ix16 A k u hlt (by rw [HA.out, arr16_at hlt]; exact hu) W
        have b1 := HB.out
        have b2 := HPB.out k hlt
        have HN := Lib.hid (sumN_succ p lv k)
        have HBN := Lib.hid (show sumN p lv (k + 1) ≤ (k + 1) * 100000 by rw [sumN_succ]; omega)
        have PC := HPP.out k hlt wr u (T1.out.below bel) (hru.below bel (Nat.le_refl _))
        obtain ⟨P, hP⟩ : ∃ P, P = p (lv k) := ⟨_, rfl⟩
        obtain ⟨Q, hQ⟩ : ∃ Q, Q = sumN p lv k := ⟨_, rfl⟩
        rw [← hP] at PC b2 HN
        rw [← hQ] at b1 HN ⊢
        have p1 : (P : Int) ≤ 100000 := by omega
        have p2 : (Q : Int) ≤ 1600000 := by omega
        have p3 : (0 : Int) ≤ P := by omega
        have p4 : (0 : Int) ≤ Q := by omega
        clear hu hru hP hQ b1 b2
        go_wp2_with fail
        refine PC.mono ?_
        rintro e w2 ⟨rfl, g⟩
        have bel2 := chain bel g
        clear PC g hX
        go_wp2_with fail
        exact ⟨⟨k + 1, by omega, by push_cast; rfl, by rw [HN.out]; push_cast; rfl, HBN, bel2⟩, by simp [intOf]; omega⟩
      · obtain rfl : k = 16 := by omega
        go_wp2_with fail
        go_ret
        exact ⟨by rw [HR.out]; rfl, bel⟩
theorem isT {lv : Nat → List It} {vs : Nat → Int} (h : mayTs lv vs 16 = true) {b : Nat} (hb : b < 16) : isL (lv b) = true := mayT_is (mayTs_at h hb)
set_option maxRecDepth 100000 in
theorem count_any (cs : Array Value) (lv : Nat → List It) (vs : Nat → Int) (w : World) (tab : TabAt w) (h : RdT w cs lv vs) (hsz : SzT lv) (h100 : ∀ b, b < 16 → (lv b).length ≤ 100) :
    Calls Tryz.prog 130 #[.agg cs] w fun e w' => e = .returned (.int .i64 (sumT List.length lv vs : Int)) ∧ Below w.heap.size w w' := by
  have hs := infoTc h.size
  have q2 := heap_alloc_new w (.cells cs 27)
  have bel := (Below.refl w.heap.size w).alloc (Nat.le_refl _) (.cells cs 27)
  have SU := Lib.hid (sum_any 155 List.length cs lv vs _ (tab.below bel) (h.below bel (Nat.le_refl _)) hsz (fun b hb W u _ hr => by
    obtain ⟨ao, cap, rfl, hc, hm, _⟩ := RdK.open hr
    go_enter Tryz.func155, Tryz.ntmps155
    go_wp2_with fail
    go_ret
    exact ⟨rfl, Below.refl _ _⟩) (fun b hb => Nat.le_trans (h100 b hb) (by decide)) (fun args w => by kernel_rfl))
  obtain ⟨R, hR⟩ : ∃ R, R = sumT List.length lv vs := ⟨_, rfl⟩
  rw [← hR] at SU ⊢
  clear hR h hsz tab h100
  go_enter Tryz.func130, Tryz.ntmps130
  go_wp2_with (with_reducible refine wpList_load_row (o := ⟨some 3, _, _, _, _, _⟩) rfl 27 (.tmp 1) rfl _ rfl _ cs (0, 0) _ q2 Tryz.underlying27 rfl hs ?_)
  refine SU.out.mono ?_
  rintro e w1 ⟨rfl, g⟩
  replace bel := chain bel g
  clear g q2
  go_wp2_with fail
  go_ret
  exact ⟨rfl, bel⟩
open Classical in
noncomputable def itEq (x y : It) : Bool := decide (x = y)
end Go.Proofs.YtoagdmglchccnaaGreatDoor
namespace Go.Proofs.YtoagdmglchccnaaGreatDoor
open Go Go.RowKit
set_option linter.unusedVariables false
set_option linter.unusedSimpArgs false
open Classical in
noncomputable def lsEq (l m : List It) : Bool := decide (l = m)
noncomputable def unlB (lv lv' : Nat → List It) (vs vs' : Nat → Int) (i : Nat) : Bool := (vs i != vs' i) || !lsEq (lv i) (lv' i)
noncomputable def unlL (lv lv' : Nat → List It) (vs vs' : Nat → Int) (n : Nat) : List Nat := (List.range n).filter (unlB lv lv' vs vs')
def ivN (n : Nat) : Value := .int .i64 (n : Int)
/-- A call hands back the numbers of a list, in a row of its own, and no error. -/
def OwnN (w : World) (L : List Nat) (e : Ending) (w' : World) : Prop := ∃ v', e = .returned (.tuple #[v', .int .i64 0]) ∧ w'.ownsRow w.heap.size 3 1 v' L.length (L.map ivN) ∧ Below w.heap.size w w'
end Go.Proofs.YtoagdmglchccnaaGreatDoor
namespace Go.Proofs.YtoagdmglchccnaaGreatDoor
open Go Go.RowKit
set_option linter.unusedVariables false
set_option linter.unusedSimpArgs false
def x1 : It := ⟨[97], ⟨2, 1, []⟩, 5⟩
def x2 : It := ⟨[113], ⟨2, 2, []⟩, 4⟩
def lvZ : Nat → List It := fun _ => []
def vsZ : Nat → Int := fun _ => 0
def lv1 : Nat → List It := upd lvZ 1 [x1]
def vs1 : Nat → Int := upd vsZ 1 5
def lv2 : Nat → List It := upd lv1 1 []
def vs2 : Nat → Int := upd vs1 1 9
end Go.Proofs.YtoagdmglchccnaaGreatDoor
namespace Go.Proofs.YtoagdmglchccnaaGreatDoor
open Go Go.RowKit
set_option linter.unusedVariables false
set_option linter.unusedSimpArgs false
theorem RdI.keep {w w' : World} {v : Value} {l : List It} (h : RdI w v l) (hs : w.heap.size ≤ w'.heap.size) (hh : ∀ g, g < w.heap.size → w'.heap[g]? = w.heap[g]?) : RdI w' v l := by
  obtain ⟨ao, cap, h1, h2, h3, h4, h5⟩ := h
  refine ⟨ao, cap, h1, h2, h3, h4, fun hl => ?_⟩
  obtain ⟨b, off, h6, h7, h8⟩ := h5 hl
  refine ⟨b, off, h6, Nat.lt_of_lt_of_le h7 hs, fun i hi => ?_⟩
  rw [← h8 i hi]
  simp only [World.cell?, hh b h7]
theorem RdT.keep {w w' : World} {cs : Array Value} {lv : Nat → List It} {vs : Nat → Int} (h : RdT w cs lv vs) (hs : w.heap.size ≤ w'.heap.size) (hh : ∀ g, g < w.heap.size → w'.heap[g]? = w.heap[g]?) : RdT w' cs lv vs :=
  ⟨h.size, fun b hb => (h.leaf b hb).imp fun u x => ⟨x.1, x.2.keep hs hh⟩, h.ver⟩
/-- What a change hands back, read in any later world in which nothing below a, or of the call's own, has changed. -/
def TrA (a : Nat) (w : World) (lv : Nat → List It) (vs : Nat → Int) (c : Nat) (e : Ending) (w' : World) : Prop := ∃ cs, e = .returned (.tuple #[.agg cs, .int .i64 (c : Int)]) ∧ cs.size = 32 ∧ cs.all (·.oneCell') = true ∧
  Hid (∀ w'', w'.heap.size ≤ w''.heap.size → (∀ g, g < w'.heap.size → (g < a ∨ w.heap.size ≤ g) → w''.heap[g]? = w'.heap[g]?) → RdT w'' cs lv vs) ∧ Below w.heap.size w w'
def pLv (lv : Nat → List It) (vs : Nat → Int) (x : It) : Nat → List It := if putTE lv vs x = 0 then upd lv (bkN x.key) (withL (lv (bkN x.key)) x) else fun _ => []
def pVs (lv : Nat → List It) (vs : Nat → Int) (x : It) : Nat → Int := if putTE lv vs x = 0 then upd vs (bkN x.key) x.ver else fun _ => 0
def dLv (lv : Nat → List It) (vs : Nat → Int) (k : List UInt8) (ver : Int) : Nat → List It := if delTE lv vs k ver = 0 then upd lv (bkN k) (withoutL (lv (bkN k)) k) else fun _ => []
def dVs (lv : Nat → List It) (vs : Nat → Int) (k : List UInt8) (ver : Int) : Nat → Int := if delTE lv vs k ver = 0 then upd vs (bkN k) ver else fun _ => 0
end Go.Proofs.YtoagdmglchccnaaGreatDoor
namespace Go.Proofs.YtoagdmglchccnaaGreatDoor
open Go Go.RowKit
set_option linter.unusedVariables false
set_option linter.unusedSimpArgs false
theorem mayI_key {x : It} (h : mayI x = true) : isB x.key = true := by unfold mayI at h; simp only [Bool.and_eq_true] at h; exact h.1
end Go.Proofs.YtoagdmglchccnaaGreatDoor
namespace Go.Proofs.YtoagdmglchccnaaGreatDoor
open Go.RowKit
set_option linter.unusedVariables false
section
variable {P : Program} {ops : Array Oper} {Q : Exit → Act → World → Prop} {n : Nat}
/-- What is left of the region, whatever was asked of the world ahead. -/
def wpO (P : Program) (ops : Array Oper) (n : Nat) (Q : Exit → Act → World → Prop) (f : Nat) (l : Array Bool) (a : Act) (w : World) : Prop :=
  ∀ S : World → Prop, orders P .any ops n Q S f l a w
end
end Go.Proofs.YtoagdmglchccnaaGreatDoor
namespace Go.Proofs.YtoagdmglchccnaaGreatDoor
open Go Go.RowKit
set_option linter.unusedVariables false
set_option linter.unusedSimpArgs false
theorem TrA.mk {w0 w w' : World} {cs : Array Value} {lv : Nat → List It} {vs : Nat → Int} {c : Nat} {e : Ending} (h : TrA w0.heap.size w lv vs c e w') : ∃ cs, e = .returned (.tuple #[.agg cs, .int .i64 (c : Int)]) ∧ cs.size = 32 ∧ cs.all (·.oneCell') = true ∧ Hid (∀ w'', w'.heap.size ≤ w''.heap.size → (∀ g, g < w'.heap.size → (g < w0.heap.size ∨ w.heap.size ≤ g) → w''.heap[g]? = w'.heap[g]?) → RdT w'' cs lv vs) ∧ Below w.heap.size w w' := h
end Go.Proofs.YtoagdmglchccnaaGreatDoor
namespace Go.Proofs.YtoagdmglchccnaaGreatDoor
open Go Go.ChangeShapes Go.WideShapes Go.ChangeAt Go.RowKit Go.Joins
set_option linter.unusedVariables false
set_option linter.unusedSimpArgs false
set_option maxRecDepth 100000
def WfT (lv : Nat → List It) : Prop := ∀ b, b < 16 → WfI (lv b)
section
variable {H : Type} {enc : TypeId × Value → H}
end
end Go.Proofs.YtoagdmglchccnaaGreatDoor
namespace Go.Proofs.YtoagdmglchccnaaGreatDoor
open Go Go.RowKit
set_option linter.unusedVariables false
set_option linter.unusedSimpArgs false
def allN (lv : Nat → List It) (n : Nat) : List It := (List.range n).flatMap lv
end Go.Proofs.YtoagdmglchccnaaGreatDoor
namespace Go.Proofs.YtoagdmglchccnaaGreatDoor
open Go Go.RowKit
set_option linter.unusedVariables false
set_option linter.unusedSimpArgs false
/-- A store. -/
structure St where
  lv : Nat → List It
  vs : Nat → Int
  ver : Int
  by_ : Int
  ke : Int
/-- The cells of a store's trunk. -/
def tC (cs : Array Value) : Array Value := (cs.toList.take 32).toArray
/-- The cells of a store. -/
structure RdS (w : World) (cs : Array Value) (s : St) : Prop where
  size : cs.size = 35
  tr : RdT w (tC cs) s.lv s.vs
  ver : cs[32]? = some (.int .i64 s.ver)
  by_ : cs[33]? = some (.int .i64 s.by_)
  ke : cs[34]? = some (.int .i64 s.ke)
theorem RdS.below {w w' : World} {cs : Array Value} {s : St} (h : RdS w cs s) {B : Nat} (g : Below B w w') (hB : w.heap.size ≤ B) : RdS w' cs s :=
  ⟨h.size, h.tr.below g hB, h.ver, h.by_, h.ke⟩
theorem tC_size {cs : Array Value} (h : cs.size = 35) : (tC cs).size = 32 := by
  obtain ⟨l⟩ := cs
  simp only [List.size_toArray] at h
  simp [tC, h]
theorem tC_at {cs : Array Value} {i : Nat} (hi : i < 32) : (tC cs)[i]? = cs[i]? := by
  obtain ⟨l⟩ := cs
  simp [tC, List.getElem?_take, hi]
/-- Is a number from 0 to most? -/
def rngB (n m : Int) : Bool := decide (0 ≤ n) && decide (n ≤ m)
/-- Is no version of the first k buckets beyond the store's? -/
def versB (vs : Nat → Int) (ver : Int) (k : Nat) : Bool := (List.range k).all fun b => decide (vs b ≤ ver)
/-- Are the items within the quotas? -/
def fitsB (s : St) : Bool := decide ((sumT weightL s.lv s.vs : Int) ≤ s.by_) && decide ((sumT List.length s.lv s.vs : Int) ≤ s.ke)
/-- May a store be? -/
def mayS (s : St) : Bool := rngB s.ver 2147483647 && rngB s.by_ 65536 && rngB s.ke 1024 && versB s.vs s.ver 16 && mayTs s.lv s.vs 16 && fitsB s
theorem RdS.one {w : World} {cs : Array Value} {s : St} (h : RdS w cs s) : ∀ u ∈ cs.toList, u.oneCell' = true := by
  intro u hu
  obtain ⟨i, hi, rfl⟩ := List.getElem_of_mem hu
  rw [Array.length_toList, h.size] at hi
  rw [Array.getElem_toList]
  have ht := h.tr.one
  rcases (by omega : i < 32 ∨ i = 32 ∨ i = 33 ∨ i = 34) with h1 | rfl | rfl | rfl
  · have hz := tC_size h.size
    have e : (tC cs)[i]'(by omega) = cs[i]'(by rw [h.size]; omega) := by
      have := tC_at (cs := cs) h1
      rw [Array.getElem?_eq_getElem (by omega), Array.getElem?_eq_getElem (by rw [h.size]; omega)] at this
      exact Option.some.inj this
    rw [← e]
    exact (Array.all_eq_true_iff_forall_mem.1 ht) _ (Array.getElem_mem _)
  · have := h.ver; rw [Array.getElem?_eq_getElem (by rw [h.size]; omega)] at this; rw [Option.some.inj this]; rfl
  · have := h.by_; rw [Array.getElem?_eq_getElem (by rw [h.size]; omega)] at this; rw [Option.some.inj this]; rfl
  · have := h.ke; rw [Array.getElem?_eq_getElem (by rw [h.size]; omega)] at this; rw [Option.some.inj this]; rfl
end Go.Proofs.YtoagdmglchccnaaGreatDoor
