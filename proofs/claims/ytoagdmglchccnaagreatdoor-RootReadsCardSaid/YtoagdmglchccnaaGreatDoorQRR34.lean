/- Leaves: items among the arguments. -/
/- The law LeafChecks. Written by wip/tools/gen9l.py. -/
/- The law LeafChunks. Written by wip/tools/gen9z9.py. -/
/- Trunks: structs of 32 cells that are loaded, stored, handed back whole; Get. Written by wip/tools/gen10c.py. -/
/- Trunks: with, whose change makes a new leaf. Written by wip/tools/gen10d.py. -/
/- Trunks: Put, Delete. Written by wip/tools/gen10e.py. -/
/- Trunks: Put and Delete. Written by wip/tools/gen10f.py. -/
/- Trunks: what the statements look at; the document's Same. Written by wip/tools/gen10g.py. -/
import Derived.Test.YtoagdmglchccnaaGreatDoorQRR18
import Derived.Lib.SmallJoins
import Derived.ProofKit
import Derived.OpenShut
import Derived.SliceStrings
import Derived.ChangeOld
import Derived.Test.YtoagdmglchccnaaGreatDoorQRR27
import Derived.Test.YtoagdmglchccnaaGreatDoorQRR19
import Derived.Test.YtoagdmglchccnaaGreatDoorQRR33
import Derived.Test.YtoagdmglchccnaaGreatDoorQRR30
import Derived.Test.YtoagdmglchccnaaGreatDoorQRR7
import Derived.Deep.DeepCutAuto
import Derived.Deep.MidRow
namespace Go.Proofs.YtoagdmglchccnaaGreatDoor
open Go.ChangeMaps (open_string)
open Go Go.ChangeShapes Go.WideShapes Go.ChangeAt Go.RowKit Go.Joins
set_option linter.unusedVariables false
set_option linter.unusedSimpArgs false
set_option maxRecDepth 100000
section
variable {H : Type} {enc : TypeId × Value → H}
end
end Go.Proofs.YtoagdmglchccnaaGreatDoor
namespace Go.Proofs.YtoagdmglchccnaaGreatDoor
open Go Go.RowKit
set_option linter.unusedVariables false
set_option linter.unusedSimpArgs false
end Go.Proofs.YtoagdmglchccnaaGreatDoor
namespace Go.Proofs.YtoagdmglchccnaaGreatDoor
open Go Go.RowKit
set_option linter.unusedVariables false
set_option linter.unusedSimpArgs false
def gotL (l : List It) : List (List UInt8) := if isL l = true then chunksL l else []
def t9 (c : List UInt8) : List UInt8 := c.take 900
def mix (C : List (List UInt8)) (j : Nat) : List (List UInt8) := (C.take j).map t9 ++ C.drop j
theorem ofL_len {vf : Nat → Int} {ls : List (List UInt8)} : (ofL vf ls).1.length ≤ 64 := by
  obtain ⟨all, odd, e, i, h⟩ : ∃ a b c d, ofGo vf ls 0 [] (-1) = (a, b, c, d) := ⟨_, _, _, _, rfl⟩
  unfold ofL
  rw [h]
  unfold ofE
  simp only
  by_cases h1 : e = 0
  · rw [if_neg (by simp [h1])]
    by_cases h2 : 0 ≤ odd ∧ odd + 1 < (ls.length : Int)
    · rw [if_pos h2]; simp
    · rw [if_neg h2]
      by_cases h3 : (chkL all).1 = 0
      · rw [if_neg (by simp [h3])]
        exact isL_len (l := all) (by unfold isL; rw [h3]; rfl)
      · rw [if_pos h3]; simp
  · rw [if_pos h1]; simp
end Go.Proofs.YtoagdmglchccnaaGreatDoor
namespace Go.Proofs.YtoagdmglchccnaaGreatDoor
open Go Go.RowKit
set_option linter.unusedVariables false
set_option linter.unusedSimpArgs false
theorem infoT : (Tryz.prog.info? 27).map (·.size) = some 32 := by kernel_rfl
theorem infoTc {cs : Array Value} (h : cs.size = 32) : (Tryz.prog.info? 27).map (·.size) = some cs.size := by rw [h]; exact infoT
theorem zeroT_run (w : World) : (zeroValue 27).run Tryz.prog w = .ok (.agg zT) w := by kernel_rfl
theorem zT_size : zT.size = 32 := rfl
theorem zT_ne : zT ≠ #[] := by simp [zT]
/-- A struct is loaded under a guard that lets it. -/
theorem wpList_load_row_g {P : Program} {ops : Array Oper} {rest : List Oper} {o : Oper} {a : Act} {w : World} {Q : Exit → Act → World → Prop} (hw : Region.wanted o (yielded ops a.tmps) = true) (ty : TypeId) (x : Operand) (ho : o.op = .load ty x)
    (g : Nat) (hx : a.eval x = .pointer (some ⟨g, 0, none⟩)) (t : TypeId) (cs : Array Value) (fr : Nat × Nat) (d : TypeDesc) (hg : w.heap[g]? = some (.cells cs t fr))
    (hu : P.underlying ty = some d) (hd : (match d with | .struct _ | .array _ _ => true | _ => false) = true) (hi : (P.info? ty).map (·.size) = some cs.size)
    (h : wpList P ops Q rest (a.put o.dst (.agg cs)) w) : wpList P ops Q (o :: rest) a w := by
  simp only [wpList, hw, if_true]
  exact .inl (wp_load_row ty x ho g hx t cs fr d hg hu hd hi h)
theorem results_row_tmp {P : Program} {fn : Func} {p q : Tmp} {ty : TypeId} (h : fn.results = #[.cell p ty, .tmp q]) (tmps : Array Value) (w : World) (g : Nat) (t : TypeId) (cs : Array Value) (fr : Nat × Nat) (d : TypeDesc) (v : Value)
    (hp : tmps.getD p undef = .pointer (some ⟨g, 0, none⟩)) (hq : tmps.getD q undef = v) (hg : w.heap[g]? = some (.cells cs t fr))
    (hu : P.underlying ty = some d) (hd : (match d with | .struct _ | .array _ _ => true | _ => false) = true) (hi : (P.info? ty).map (·.size) = some cs.size) :
    (results fn tmps).run P w = .ok (.tuple #[.agg cs, v]) w := by
  have hp' : tmps[p]?.getD undef = .pointer (some ⟨g, 0, none⟩) := by simpa using hp
  have hq' : tmps[q]?.getD undef = v := by simpa using hq
  simp [results, h, hp', hq', asAddr, run_loadVar_row w g t ty cs fr d hg hu hd hi]
def tI (lv : Nat → List It) (vs : Nat → Int) (k : List UInt8) : It := if mayTs lv vs 16 = true then gTI lv k else zI
def tB (lv : Nat → List It) (vs : Nat → Int) (k : List UInt8) : Bool := mayTs lv vs 16 && gTB lv k
def tGet (lv : Nat → List It) (vs : Nat → Int) (k : List UInt8) : Value := .tuple #[itV (tI lv vs k), .bool (tB lv vs k)]
end Go.Proofs.YtoagdmglchccnaaGreatDoor
namespace Go.Proofs.YtoagdmglchccnaaGreatDoor
open Go Go.RowKit
set_option linter.unusedVariables false
set_option linter.unusedSimpArgs false
/-- What a change of a leaf hands back. -/
def ChgP (w : World) (l : List It) (ver : Int) (c : Nat) (e : Ending) (w' : World) : Prop := ∃ u, e = .returned (.tuple #[u, .int .i64 ver, .int .i64 (c : Int)]) ∧ w'.ownsRow w.heap.size 154 5 u l.length (l.flatMap itC) ∧ Below w.heap.size w w'
theorem own_moved {w w' : World} {base : Nat} {e : TypeId} {size : Nat} {v : Value} {n : Nat} {xs : List Value} (h : w.ownsRow base e size v n xs) (hh : ∀ g, base ≤ g → w'.heap[g]? = w.heap[g]?) : w'.ownsRow base e size v n xs := by
  refine ⟨h.1, ?_⟩
  rcases h.2 with h1 | ⟨g, cap, cur, h1, h2, h3, r⟩
  · exact .inl h1
  · exact .inr ⟨g, cap, cur, h1, h2, (hh g h2).trans h3, r⟩
theorem below_row {B g : Nat} {w0 w : World} (h : Below B w0 w) (hg : B ≤ g) (cs : Array Value) : Below B w0 (w.setRow g cs) :=
  ⟨h.os, h.tape, h.output, by rw [setRow_size]; exact h.size, fun k hk => by rw [setRow_other _ _ _ _ (by omega)]; exact h.block k hk⟩
theorem own_slice {w : World} {base : Nat} {e : TypeId} {size : Nat} {v : Value} {n : Nat} {xs : List Value} (h : w.ownsRow base e size v n xs) : ∃ a n c, v = .slice a n c := by
  rcases h.2 with ⟨h1, _⟩ | ⟨g, cap, cur, h1, _⟩
  · exact ⟨_, _, _, h1⟩
  · exact ⟨_, _, _, h1⟩
/-- A call hands back a trunk with a leaf of its own in a bucket. -/
def TrO (w : World) (cs : Array Value) (b : Nat) (l : List It) (ver : Int) (e : Ending) (w' : World) : Prop := ∃ u, e = .returned (.tuple #[.agg ((cs.setIfInBounds b u).setIfInBounds (16 + b) (.int .i64 ver)), .int .i64 0]) ∧ w'.ownsRow w.heap.size 154 5 u l.length (l.flatMap itC) ∧ Below w.heap.size w w'
/-- A call hands back the empty trunk and an error. -/
def TrZ (w : World) (c : Nat) (e : Ending) (w' : World) : Prop := e = .returned (.tuple #[.agg zT, .int .i64 (c : Int)]) ∧ Below w.heap.size w w'
theorem own_base {w : World} {b b' : Nat} {e : TypeId} {size : Nat} {v : Value} {n : Nat} {xs : List Value} (h : w.ownsRow b e size v n xs) (hb : b' ≤ b) : w.ownsRow b' e size v n xs := by
  refine ⟨h.1, ?_⟩
  rcases h.2 with h1 | ⟨g, cap, cur, h1, h2, r⟩
  · exact .inl h1
  · exact .inr ⟨g, cap, cur, h1, Nat.le_trans hb h2, r⟩
theorem two_cells {w : World} {B i j : Nat} {cs : Array Value} {t : TypeId} {u v : Value} (h : w.heap[B]? = some (.cells cs t (0, 0))) :
    ((w.setCell ⟨B, i, none⟩ u).setCell ⟨B, j, none⟩ v).heap[B]? = some (.cells ((cs.setIfInBounds i u).setIfInBounds j v) t (0, 0)) := set_at (set_at h)
theorem zT_one : zT.all (·.oneCell') = true := by kernel_rfl
theorem RdT.one {w : World} {cs : Array Value} {lv : Nat → List It} {vs : Nat → Int} (h : RdT w cs lv vs) : cs.all (·.oneCell') = true := by
  refine Array.all_eq_true_iff_forall_mem.2 fun v hv => ?_
  obtain ⟨i, hi, rfl⟩ := Array.getElem_of_mem hv
  have hs := h.size
  by_cases h16 : i < 16
  · obtain ⟨u, hu, hr⟩ := h.leaf i h16
    rw [Array.getElem?_eq_getElem hi] at hu
    obtain ⟨ao, cap, rfl, _⟩ := RdK.open hr
    rw [Option.some.inj hu]; rfl
  · have hu := h.ver (i - 16) (by omega)
    rw [show 16 + (i - 16) = i by omega, Array.getElem?_eq_getElem hi] at hu
    rw [Option.some.inj hu]; rfl
end Go.Proofs.YtoagdmglchccnaaGreatDoor
namespace Go.Proofs.YtoagdmglchccnaaGreatDoor
open Go Go.RowKit
set_option linter.unusedVariables false
set_option linter.unusedSimpArgs false
def putC (lv : Nat → List It) (vs : Nat → Int) (b : Nat) (x : It) : Nat := if putE (lv b) x ≠ 1 ∧ x.ver < vs b then 18 else putE (lv b) x
def delC (lv : Nat → List It) (vs : Nat → Int) (b : Nat) (k : List UInt8) (ver : Int) : Nat := if delE (lv b) k = 0 ∧ ver < vs b then 18 else delE (lv b) k
end Go.Proofs.YtoagdmglchccnaaGreatDoor
namespace Go.Proofs.YtoagdmglchccnaaGreatDoor
open Go Go.RowKit
set_option linter.unusedVariables false
set_option linter.unusedSimpArgs false
def PutP (w : World) (cs : Array Value) (lv : Nat → List It) (vs : Nat → Int) (x : It) : Ending → World → Prop := if putTE lv vs x = 0 then TrO w cs (bkN x.key) (withL (lv (bkN x.key)) x) x.ver else TrZ w (putTE lv vs x)
def DelP (w : World) (cs : Array Value) (lv : Nat → List It) (vs : Nat → Int) (k : List UInt8) (ver : Int) : Ending → World → Prop := if delTE lv vs k ver = 0 then TrO w cs (bkN k) (withoutL (lv (bkN k)) k) ver else TrZ w (delTE lv vs k ver)
end Go.Proofs.YtoagdmglchccnaaGreatDoor
namespace Go.Proofs.YtoagdmglchccnaaGreatDoor
open Go Go.RowKit
set_option linter.unusedVariables false
set_option linter.unusedSimpArgs false
theorem own_moved2 {w w' : World} {base : Nat} {e : TypeId} {size : Nat} {v : Value} {n : Nat} {xs : List Value} (h : w.ownsRow base e size v n xs) (hh : ∀ g, base ≤ g → g < w.heap.size → w'.heap[g]? = w.heap[g]?) : w'.ownsRow base e size v n xs := by
  refine ⟨h.1, ?_⟩
  rcases h.2 with h1 | ⟨g, cap, cur, h1, h2, h3, r⟩
  · exact .inl h1
  · exact .inr ⟨g, cap, cur, h1, h2, (hh g h2 (lt_of_block h3)).trans h3, r⟩
/-- A trunk's cells whose leaves all lie in rows of a call's own. -/
structure OwnT (base : Nat) (w : World) (cs : Array Value) (lv : Nat → List It) (vs : Nat → Int) : Prop where
  size : cs.size = 32
  leaf : ∀ b, b < 16 → ∃ u, cs[b]? = some u ∧ w.ownsRow base 154 5 u (lv b).length ((lv b).flatMap itC)
  ver : ∀ b, b < 16 → cs[16 + b]? = some (.int .i64 (vs b))
theorem OwnT.rd {base : Nat} {w : World} {cs : Array Value} {lv : Nat → List It} {vs : Nat → Int} (h : OwnT base w cs lv vs) : RdT w cs lv vs :=
  ⟨h.size, fun b hb => (h.leaf b hb).imp fun u x => ⟨x.1, own_rdk itC_len x.2⟩, h.ver⟩
theorem OwnT.moved {base : Nat} {w w' : World} {cs : Array Value} {lv : Nat → List It} {vs : Nat → Int} (h : OwnT base w cs lv vs) (hh : ∀ g, base ≤ g → g < w.heap.size → w'.heap[g]? = w.heap[g]?) : OwnT base w' cs lv vs :=
  ⟨h.size, fun b hb => (h.leaf b hb).imp fun u x => ⟨x.1, own_moved2 x.2 hh⟩, h.ver⟩
theorem OwnT.below {base : Nat} {w w' : World} {cs : Array Value} {lv : Nat → List It} {vs : Nat → Int} (h : OwnT base w cs lv vs) (g : Below w.heap.size w w') : OwnT base w' cs lv vs := h.moved fun k _ hk => g.block k hk
theorem OwnT.base {base base' : Nat} {w : World} {cs : Array Value} {lv : Nat → List It} {vs : Nat → Int} (h : OwnT base w cs lv vs) (hb : base' ≤ base) : OwnT base' w cs lv vs :=
  ⟨h.size, fun b h16 => (h.leaf b h16).imp fun u x => ⟨x.1, own_base x.2 hb⟩, h.ver⟩
/-- The first j leaves are looked at. -/
structure FewI (base : Nat) (cs : Array Value) (lv : Nat → List It) (j : Nat) (w : World) (csr : Array Value) : Prop where
  size : csr.size = 32
  done : ∀ b, b < j → ∃ u, csr[b]? = some u ∧ w.ownsRow base 154 5 u (fewL (lv b)).length ((fewL (lv b)).flatMap itC)
  rest : ∀ b, j ≤ b → csr[b]? = cs[b]?
theorem FewI.step {base : Nat} {cs : Array Value} {lv : Nat → List It} {j : Nat} {w w' : World} {csr : Array Value} (h : FewI base cs lv j w csr) (hj : j < 16) (hh : ∀ g, base ≤ g → g < w.heap.size → w'.heap[g]? = w.heap[g]?) {v : Value}
    (ho : w'.ownsRow base 154 5 v (fewL (lv j)).length ((fewL (lv j)).flatMap itC)) : FewI base cs lv (j + 1) w' (csr.setIfInBounds j v) := by
  have hs := h.size
  refine ⟨by simp [hs], fun b hb => ?_, fun b hb => ?_⟩
  · by_cases e : b = j
    · subst e
      exact ⟨v, by rw [Array.getElem?_setIfInBounds_self_of_lt (by omega)], ho⟩
    · obtain ⟨u, h1, h2⟩ := h.done b (by omega)
      exact ⟨u, by rw [Array.getElem?_setIfInBounds_ne (by omega)]; exact h1, own_moved2 h2 hh⟩
  · rw [Array.getElem?_setIfInBounds_ne (by omega)]; exact h.rest b (by omega)
def FewP (w : World) (lv : Nat → List It) (vs : Nat → Int) (e : Ending) (w' : World) : Prop := ∃ cs, e = .returned (.agg cs) ∧ OwnT w.heap.size w' cs (fun b => fewL (lv b)) vs ∧ Below w.heap.size w w'
set_option maxRecDepth 100000 in
set_option maxHeartbeats 2000000 in
theorem tsame_yes (ca cb : Array Value) (lv : Nat → List It) (vs : Nat → Int) (w : World) (ha : RdT w ca lv vs) (hb : RdT w cb lv vs) (h100 : ∀ b, b < 16 → (lv b).length ≤ 100) :
    Calls Tryz.prog 26 #[.agg ca, .agg cb] w fun e w' => e = .returned (.bool true) ∧ Below w.heap.size w w' := by
  have HA := Lib.hid ha
  have HB := Lib.hid hb
  have H100 := Lib.hid h100
  obtain ⟨q2, q3, -, -⟩ := two_allocs w (.cells ca 27) (.cells cb 27)
  have bel : Below w.heap.size w ((w.alloc (.cells ca 27)).alloc (.cells cb 27)) := ((Below.refl _ w).alloc (Nat.le_refl _) _).alloc (by simp) _
  clear ha hb h100
  go_enter Tryz.func26, Tryz.ntmps26
  go_wp2_with fail
  obtain ⟨W0, hW0⟩ : ∃ W0, W0 = (w.alloc (.cells ca 27)).alloc (.cells cb 27) := ⟨_, rfl⟩
  rw [← hW0] at q2 q3 bel ⊢
  clear hW0
  go_loopw [5] (fun i wr => ∃ k : Nat, k ≤ 16 ∧ i = .int .i64 (k : Int) ∧ wr.heap[w.heap.size]? = some (.cells ca 27 (0, 0)) ∧ wr.heap[w.heap.size + 1]? = some (.cells cb 27 (0, 0)) ∧ Below w.heap.size w wr) (fun i _ => 20 - (intOf i).toNat)
  case atStart => exact ⟨0, by omega, rfl, q2, q3, bel⟩
  case round =>
    clear q2 q3 bel
    obtain ⟨k, hk, rfl, q2, q3, bel⟩ := hrel
    by_cases hlt : k < 16
    · have hlti : (k : Int) < 16 := by omega
      obtain ⟨u, hu, hru⟩ := HA.out.leaf k hlt
      obtain ⟨u', hu', hru'⟩ := HB.out.leaf k hlt
      have VA := Lib.hid (HA.out.ver k hlt)
      have VB := Lib.hid (HB.out.ver k hlt)
      have LA := Lib.hid hu
      have LB := Lib.hid hu'
      have SM := Lib.hid (fun W (g : Below wr.heap.size wr W) => refSame_yes u u' (lv k) W (hru.below (chain bel g) (Nat.le_refl _)) (hru'.below (chain bel g) (Nat.le_refl _)) (H100.out k hlt))
      clear hu hru hu' hru'
      go_wp2_with fail
      refine g_start (by kernel_rfl) ?_
      refine g_take (i := 0) (d := (some 10)) (v := ?_) rfl rfl (by kernel_rfl) (fun _ _ _ h => h) (by rfl) (fun w' hb' => ?_) ?_
      rotate_left
      · (try go_simp); (try with_reducible rfl)
      try simp only [Act.put, List.setIfInBounds_toArray, List.set_cons_zero, List.set_cons_succ]
      refine g_take (i := 1) (d := (some 11)) (v := ?_) rfl rfl (by kernel_rfl) (fun _ _ _ h => h) (by rfl) (fun w' hb' => ?_) ?_
      rotate_left
      · (try go_simp); (try with_reducible rfl)
      try simp only [Act.put, List.setIfInBounds_toArray, List.set_cons_zero, List.set_cons_succ]
      refine g_take (i := 2) (d := (some 12)) (v := ?_) rfl rfl (by kernel_rfl) (fun _ _ _ h => h) (by rfl) (fun w' hb' => ?_) ?_
      rotate_left
      · (try go_simp); (try with_reducible rfl)
      try simp only [Act.put, List.setIfInBounds_toArray, List.set_cons_zero, List.set_cons_succ]
      refine g_take (i := 3) (d := (some 13)) (v := ?_) rfl rfl (by kernel_rfl) (fun _ _ _ h => h) (by rfl) (fun w' hb' => ?_) ?_
      rotate_left
      · have zz := (hb'.cell (p := ⟨w.heap.size, 16 + k, none⟩) (lt_of_block q2)).trans ((block_cell q2 (16 + k)).trans VA.out); have zy := zz; rw [Nat.add_comm 16 k] at zy; (try go_simp); (try with_reducible rfl)
      try simp only [Act.put, List.setIfInBounds_toArray, List.set_cons_zero, List.set_cons_succ]
      refine g_take (i := 4) (d := (some 14)) (v := ?_) rfl rfl (by kernel_rfl) (fun _ _ _ h => h) (by rfl) (fun w' hb' => ?_) ?_
      rotate_left
      · (try go_simp); (try with_reducible rfl)
      try simp only [Act.put, List.setIfInBounds_toArray, List.set_cons_zero, List.set_cons_succ]
      refine g_take (i := 5) (d := (some 15)) (v := ?_) rfl rfl (by kernel_rfl) (fun _ _ _ h => h) (by rfl) (fun w' hb' => ?_) ?_
      rotate_left
      · (try go_simp); (try with_reducible rfl)
      try simp only [Act.put, List.setIfInBounds_toArray, List.set_cons_zero, List.set_cons_succ]
      refine g_take (i := 6) (d := (some 16)) (v := ?_) rfl rfl (by kernel_rfl) (fun _ _ _ h => h) (by rfl) (fun w' hb' => ?_) ?_
      rotate_left
      · (try go_simp); (try with_reducible rfl)
      try simp only [Act.put, List.setIfInBounds_toArray, List.set_cons_zero, List.set_cons_succ]
      refine g_take (i := 7) (d := (some 17)) (v := ?_) rfl rfl (by kernel_rfl) (fun _ _ _ h => h) (by rfl) (fun w' hb' => ?_) ?_
      rotate_left
      · have zz := (hb'.cell (p := ⟨w.heap.size + 1, 16 + k, none⟩) (lt_of_block q3)).trans ((block_cell q3 (16 + k)).trans VB.out); have zy := zz; rw [Nat.add_comm 16 k] at zy; (try go_simp); (try with_reducible rfl)
      try simp only [Act.put, List.setIfInBounds_toArray, List.set_cons_zero, List.set_cons_succ]
      refine g_take (i := 8) (d := (some 18)) (v := ?_) rfl rfl (by kernel_rfl) (fun _ _ _ h => h) (by rfl) (fun w' hb' => ?_) ?_
      rotate_left
      · (try go_simp); (try with_reducible rfl)
      try simp only [Act.put, List.setIfInBounds_toArray, List.set_cons_zero, List.set_cons_succ]
      refine g_take (i := 9) (d := (some 19)) (v := ?_) rfl rfl (by kernel_rfl) (fun _ _ _ h => h) (by rfl) (fun w' hb' => ?_) ?_
      rotate_left
      · (try go_simp); (try with_reducible rfl)
      try simp only [Act.put, List.setIfInBounds_toArray, List.set_cons_zero, List.set_cons_succ]
      refine g_take (i := 10) (d := (some 20)) (v := ?_) rfl rfl (by kernel_rfl) (fun _ _ _ h => h) (by rfl) (fun w' hb' => ?_) ?_
      rotate_left
      · (try go_simp); (try with_reducible rfl)
      try simp only [Act.put, List.setIfInBounds_toArray, List.set_cons_zero, List.set_cons_succ]
      refine g_take (i := 11) (d := (some 21)) (v := ?_) rfl rfl (by kernel_rfl) (fun _ _ _ h => h) (by rfl) (fun w' hb' => ?_) ?_
      rotate_left
      · (try go_simp); (try with_reducible rfl)
      try simp only [Act.put, List.setIfInBounds_toArray, List.set_cons_zero, List.set_cons_succ]
      refine g_take (i := 12) (d := (some 22)) (v := ?_) rfl rfl (by kernel_rfl) (fun _ _ _ h => h) (by rfl) (fun w' hb' => ?_) ?_
      rotate_left
      · (try go_simp); (try with_reducible rfl)
      try simp only [Act.put, List.setIfInBounds_toArray, List.set_cons_zero, List.set_cons_succ]
      refine g_take (i := 13) (d := (some 23)) (v := ?_) rfl rfl (by kernel_rfl) (fun _ _ _ h => h) (by rfl) (fun w' hb' => ?_) ?_
      rotate_left
      · have zz := (hb'.cell (p := ⟨w.heap.size, k, none⟩) (lt_of_block q2)).trans ((block_cell q2 k).trans LA.out); (try go_simp); (try with_reducible rfl)
      try simp only [Act.put, List.setIfInBounds_toArray, List.set_cons_zero, List.set_cons_succ]
      refine g_take (i := 14) (d := (some 24)) (v := ?_) rfl rfl (by kernel_rfl) (fun _ _ _ h => h) (by rfl) (fun w' hb' => ?_) ?_
      rotate_left
      · (try go_simp); (try with_reducible rfl)
      try simp only [Act.put, List.setIfInBounds_toArray, List.set_cons_zero, List.set_cons_succ]
      refine g_take (i := 15) (d := (some 25)) (v := ?_) rfl rfl (by kernel_rfl) (fun _ _ _ h => h) (by rfl) (fun w' hb' => ?_) ?_
      rotate_left
      · (try go_simp); (try with_reducible rfl)
      try simp only [Act.put, List.setIfInBounds_toArray, List.set_cons_zero, List.set_cons_succ]
      refine g_take (i := 16) (d := (some 26)) (v := ?_) rfl rfl (by kernel_rfl) (fun _ _ _ h => h) (by rfl) (fun w' hb' => ?_) ?_
      rotate_left
      · (try go_simp); (try with_reducible rfl)
      try simp only [Act.put, List.setIfInBounds_toArray, List.set_cons_zero, List.set_cons_succ]
      refine g_take (i := 17) (d := (some 27)) (v := ?_) rfl rfl (by kernel_rfl) (fun _ _ _ h => h) (by rfl) (fun w' hb' => ?_) ?_
      rotate_left
      · have zz := (hb'.cell (p := ⟨w.heap.size + 1, k, none⟩) (lt_of_block q3)).trans ((block_cell q3 k).trans LB.out); (try go_simp); (try with_reducible rfl)
      try simp only [Act.put, List.setIfInBounds_toArray, List.set_cons_zero, List.set_cons_succ]
      refine g_run (i := 18) rfl (by kernel_rfl) (by rfl) (fun K hK => ?_)
      go_simp; refine (SM.out _ (Below.drew (Below.refl _ _))).mono ?_; rintro e w2 ⟨rfl, n2, hw2⟩; have g : Below wr.drew.heap.size wr.drew w2 := (by rw [hw2]; exact below_drewN (Below.refl _ _)); have b2 := chain bel (Below.trans (Below.drew (Below.refl wr.heap.size wr)) g); have q2 := (Below.trans (Below.drew (Below.refl wr.heap.size wr)) g).block _ (lt_of_block q2) |>.trans q2; have q3 := (Below.trans (Below.drew (Below.refl wr.heap.size wr)) g).block _ (lt_of_block q3) |>.trans q3; refine hK _ _ ⟨g, ?_⟩; clear hK K g hw2
      try simp only [Act.put, List.setIfInBounds_toArray, List.set_cons_zero, List.set_cons_succ]
      refine g_take (i := 19) (d := (some 29)) (v := ?_) rfl rfl (by kernel_rfl) (fun _ _ _ h => h) (by rfl) (fun w' hb' => ?_) ?_
      rotate_left
      · (try go_simp); (try with_reducible rfl)
      try simp only [Act.put, List.setIfInBounds_toArray, List.set_cons_zero, List.set_cons_succ]
      refine g_take (i := 20) (d := (some 30)) (v := ?_) rfl rfl (by kernel_rfl) (fun _ _ _ h => h) (by rfl) (fun w' hb' => ?_) ?_
      rotate_left
      · (try go_simp); (try with_reducible rfl)
      try simp only [Act.put, List.setIfInBounds_toArray, List.set_cons_zero, List.set_cons_succ]
      refine g_done (by kernel_rfl) ?_
      go_wp2_with fail
      exact ⟨⟨k + 1, by omega, by push_cast; rfl, q2, q3, b2⟩, by simp [intOf]; omega⟩
    · obtain rfl : k = 16 := by omega
      go_wp2_with fail
      go_ret
      exact ⟨rfl, bel⟩
end Go.Proofs.YtoagdmglchccnaaGreatDoor
