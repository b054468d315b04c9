/-
  DERIVED: THE SHELF's CONTRACTS AT THIS DUMP, IN PLAIN WORDS (tools/lay-plain.mjs out of 'TrydRev.lean', which tools/lay-shelf.mjs wrote): THE SAME DECLARATIONS UNDER THE SAME NAMES: 'import', 'namespace', 'open', 'def', 'theorem' AND NOTHING ELSE: no command of the shelf's: FOR A HAND-IN. Each laying: the table of numbers ('.._ren') and one theorem, a field a fact of the dump's own or the kernel's comparison; each contract: ONE APPLICATION.
-/
/- Span: slices.Reverse at items of the call's own. Written by wip/tools/gen11r.py. -/
/- Leaves: slices.Clone, longer lists. -/
/- Span: Back, Count. Written by wip/tools/gen11t.py. -/
/- Span: Last. Written by wip/tools/gen11w.py. -/
import Derived.Shelf.SlGeneric
import Derived.Shelf.SlicesQ.Reverse
import Derived.Ground.SlgnProg
import Derived.Test.YtmjedjhkhjiigaaDoorProg
import Derived.Test.YtmjedjhkhjiigaaDoorQSSC13
import Derived.Test.YtmjedjhkhjiigaaDoorQSSC10
import Derived.Shelf.GgSortFunc.RowK
import Derived.Test.YtmjedjhkhjiigaaDoorQSSC11
import Derived.Test.YtmjedjhkhjiigaaDoorQSSC39
import Derived.Test.YtmjedjhkhjiigaaDoorQSSC42
namespace Go.Proofs
open Go.Shelf
def Tryd.revItem_ren : Go.Shelf.Ren := ⟨fun | 35 => 80 | n => n, fun | 22 => 22 | 23 => 32 | 3 => 3 | 4 => 4 | 0 => 0 | n => n, fun | n => n⟩
theorem Tryd.revItem : Go.Proofs.SlLaysE0.n35 Tryd.prog Tryd.revItem_ren := {
  mixed := by kernel_rfl
  f35 := ⟨Tryd.f80.name, by decide, Tryd.func80.trans (congrArg some (by kernel_rfl))⟩
  t0 := Tryd.underlying0
  a0 := Tryd.isAgg0
  z0 := Tryd.sizeOf0
  v0 := Tryd.zeroValue0
  t3 := Tryd.underlying3
  a3 := Tryd.isAgg3
  z3 := Tryd.sizeOf3
  v3 := Tryd.zeroValue3
  t4 := Tryd.underlying4
  a4 := Tryd.isAgg4
  z4 := Tryd.sizeOf4
  v4 := Tryd.zeroValue4
  t22 := Tryd.underlying22
  a22 := Tryd.isAgg22
  z22 := Tryd.sizeOf22
  v22 := Tryd.zeroValue22 }
end Go.Proofs
namespace Go.Proofs.YtmjedjhkhjiigaaDoor
open Go Go.RowKit Go.Sort
set_option linter.unusedVariables false
set_option linter.unusedSimpArgs false
set_option maxRecDepth 100000
instance : Inhabited It := ⟨zI⟩
theorem flat_list (l : List It) : (flatK itC 5 l.toArray).toList = l.flatMap itC := by
  apply List.ext_getElem?
  intro t
  by_cases ht : t < l.length * 5
  · have h1 := get_flatK itC 5 l.toArray t (by simpa using ht)
    have hs : t < (flatK itC 5 l.toArray).size := by simpa using ht
    rw [getElem!_pos _ t hs] at h1
    rw [Array.getElem?_toList, Array.getElem?_eq_getElem hs, h1]
    have hj : t / 5 < l.length := by omega
    have h2 := flat_get itC_len l (t / 5) (t % 5) hj (by omega)
    rw [show t / 5 * 5 + t % 5 = t by omega] at h2
    rw [h2]
    have h3 : l.toArray[t / 5]! = l[t / 5] := by rw [getElem!_pos l.toArray (t / 5) (by simpa using hj)]; simp
    rw [h3]
    have h4 : t % 5 < (itC l[t / 5]).length := by rw [itC_len]; omega
    rw [getElem!_pos (itC l[t / 5]) (t % 5) h4, List.getElem?_eq_getElem h4]
  · rw [List.getElem?_eq_none (by simp; omega), List.getElem?_eq_none (by rw [flat_len itC_len]; omega)]
theorem holds_own {w : World} {base g cap : Nat} {l : List It} (h : w.ownsRow base 32 5 (.slice (some ⟨g, 0, none⟩) l.length cap) l.length (l.flatMap itC)) : HoldsK itC 5 w g 0 l.toArray := by
  intro j hj
  have hj' : j < l.length * 5 := by simpa using hj
  refine ⟨?_, h.frozenAt _⟩
  rw [Nat.zero_add, h.cellAt j hj', ← flat_list, Array.getElem?_toList, Array.getElem?_eq_getElem hj, getElem!_pos _ j hj]
  rfl
theorem heap_sortedK {w : World} {g n : Nat} {cur : Array Value} {e : TypeId} {fr : Nat × Nat} (F : Array Value) (hb : w.heap[g]? = some (.cells cur e fr)) :
    (putRow id (Sort.ahead w n) g 0 F).heap[g]? = some (.cells (putCells id 0 F cur) e fr) := by
  simp [putRow, mapBlock, Sort.ahead, Array.getElem?_modify, hb, onCells]
theorem grownBy_sortedK {w : World} {g n : Nat} (F : Array Value) : w.grownBy (putRow id (Sort.ahead w n) g 0 F) (some g) := by
  refine ⟨rfl, rfl, rfl, by simp [putRow, mapBlock, Sort.ahead], fun k hk hne => ?_⟩
  have : g ≠ k := fun e => hne (by rw [e])
  simp [putRow, mapBlock, Sort.ahead, Array.getElem?_modify, this]
theorem take_putCellsK (cur F : Array Value) (h : F.size ≤ cur.size) : (putCells id 0 F cur).toList.take F.size = F.toList := by
  apply List.ext_getElem?
  intro j
  by_cases hj : j < F.size
  · rw [List.getElem?_take_of_lt hj, Array.getElem?_toList]
    simp [putCells, hj, show j < cur.size by omega]
  · rw [List.getElem?_take_eq_none (by omega), List.getElem?_eq_none (by simp; omega)]
theorem own_sortedK {w : World} {base g cap n : Nat} {l ts : List It} (h : w.ownsRow base 32 5 (.slice (some ⟨g, 0, none⟩) l.length cap) l.length (l.flatMap itC)) (hl : ts.length = l.length) :
    (putRowK itC 5 (Sort.ahead w n) g 0 ts.toArray).ownsRow base 32 5 (.slice (some ⟨g, 0, none⟩) l.length cap) l.length (ts.flatMap itC) := by
  obtain ⟨h1, h2⟩ := h
  refine ⟨by rw [flat_len itC_len, hl], ?_⟩
  rcases h2 with ⟨h2, _⟩ | ⟨g', cap', cur, h2, h3, h4, h5, h6, h7, h8⟩
  · simp at h2
  · simp only [Value.slice.injEq, Option.some.injEq, Addr.mk.injEq, and_true, true_and] at h2
    obtain ⟨rfl, rfl⟩ := h2
    have hsz : (flatK itC 5 ts.toArray).size = l.length * 5 := by simp [hl]
    refine .inr ⟨g, cap, putCells id 0 (flatK itC 5 ts.toArray) cur, rfl, h3, heap_sortedK _ h4, h5, h6, by simp [putCells, h7], ?_⟩
    rw [← hsz, take_putCellsK _ _ (by rw [hsz, h7]; omega), flat_list]
theorem own_val11 {w : World} {base : Nat} {e : TypeId} {size : Nat} {v : Value} {n : Nat} {xs : List Value} (h : w.ownsRow base e size v n xs) : (v = .slice none 0 0 ∧ n = 0) ∨ ∃ g cap, v = .slice (some ⟨g, 0, none⟩) n cap := by
  rcases h.2 with h2 | ⟨g, cap, cur, h2, _⟩
  · exact .inl h2
  · exact .inr ⟨g, cap, h2⟩
theorem rev_any (base : Nat) (l : List It) (v : Value) (w : World) (hown : w.ownsRow base 32 5 v l.length (l.flatMap itC)) (hl : l.length ≤ 3000) :
    Calls Tryd.prog 80 #[v] w fun e w' => e = .returned (.tuple #[]) ∧ w'.ownsRow base 32 5 v l.length (l.reverse.flatMap itC) ∧ w.grownBy w' v.ownBlock := by
  rcases own_val11 hown with ⟨rfl, h0⟩ | ⟨g, cap, rfl⟩
  · obtain rfl : l = [] := List.eq_nil_of_length_eq_zero h0
    have h := AnyQ.slices_Reverse_empty Tryd.revItem none 0 w
    change Calls Tryd.prog 80 _ _ _ at h
    refine h.mono ?_
    rintro e w' ⟨rfl, rfl⟩
    exact ⟨rfl, hown, ⟨rfl, rfl, rfl, Nat.le_refl _, fun _ _ _ => rfl⟩⟩
  · have h := AnyQ.slices_Reverse Tryd.revItem 5 Tryd.isAgg32 Tryd.sizeOf32 itC itC_len (fun x v hv => itC_one x v hv) g 0 cap l.toArray w (holds_own hown) (by simp; omega)
    change Calls Tryd.prog 80 _ _ _ at h
    rw [show l.toArray.size = l.length by simp] at h
    refine h.mono ?_
    rintro e w' ⟨rfl, n, rfl⟩
    have e : l.toArray.reverse = l.reverse.toArray := by simp
    rw [e]
    exact ⟨rfl, own_sortedK hown (by simp), grownBy_sortedK _⟩
end Go.Proofs.YtmjedjhkhjiigaaDoor
namespace Go.Proofs.YtmjedjhkhjiigaaDoor
open Go Go.RowKit
set_option linter.unusedVariables false
set_option linter.unusedSimpArgs false
set_option maxRecDepth 100000 in
set_option maxHeartbeats 4000000 in
theorem clone11_any (v : Value) (l : List It) (w : World) (h : RdI w v l) (h66 : l.length ≤ 3000) :
    Calls Tryd.prog 75 #[v] w (OwnI w l) := by
  obtain ⟨i0, hi, hz0, hz1, hz2⟩ := info_parts item_info
  obtain ⟨ao, cap, rfl, hc, hm, hr⟩ := RdK.open h
  cases ao with
  | none =>
    have hcap : cap = 0 := by obtain ⟨_, _, he, _, _, h4, _⟩ := hr; cases he; exact h4 rfl
    obtain rfl : l = [] := List.eq_nil_of_length_eq_zero (by omega)
    subst hcap
    have hnil : ∀ W, (binOp .eql 22 (.slice none 0 0) (.slice none 0 0)).run Tryd.prog W = .ok (.bool true) W := fun W => Lib.run_eql_slice_nil_nil W 0 0 Tryd.underlying22
    clear h hr
    go_enter Tryd.func75, Tryd.ntmps75
    go_wp2_with fail
    go_ret
    exact ⟨_, rfl, World.ownsRow_nil _ _ _ _, Below.refl _ _⟩
  | some ad =>
    have hr : RdI w (.slice (some ad) l.length cap) l := hr
    have HSZ := Lib.hid (show (w.alloc (.cells #[] 32)).heap.size = w.heap.size + 1 from by simp)
    have HLIT := Lib.hid (World.ownsRow_lit (e := 32) (size := 5) w #[] 0 (Nat.le_refl _) (by decide) rfl)
    have HRD := Lib.hid hr
    have hsome := fun W => Lib.run_eql_slice_some_nil (P := Tryd.prog) W ad l.length cap Tryd.underlying22
    clear h hr
    go_enter Tryd.func75, Tryd.ntmps75
    go_wp2_with (at_builtin; refine wpList_app_rdk itC_len (by decide) w rfl (.tmp 5) (.tmp 6) 22 rfl w.heap.size 32 i0 (.agg #[.string ⟨#[]⟩, .int .i64 0, .int .i64 0, .string ⟨#[]⟩, .int .i64 0]) 56 Tryd.underlying22 hi hz0 hz1 hz2 rfl (.slice (some ⟨w.heap.size, 0, none⟩) 0 0) [] rfl HLIT.out (.slice (some ad) l.length cap) l rfl (HRD.out.below ((Below.refl _ _).alloc (Nat.le_refl _) _) (Nat.le_refl _)) itC_one (by unfold maxLen; simp; omega) (by simp; omega) (Nat.le_refl _) ((Below.refl _ _).alloc (Nat.le_refl _) _) ?_; intro v' w1 hown2 hb2 hq2; clear hq2)
    go_ret
    exact ⟨_, rfl, hown2, hb2⟩
end Go.Proofs.YtmjedjhkhjiigaaDoor
namespace Go.Proofs.YtmjedjhkhjiigaaDoor
open Go Go.RowKit
set_option linter.unusedVariables false
set_option linter.unusedSimpArgs false
theorem sc_all {lv : Nat → List It} {vs : Nat → Int} (f t : List UInt8) : (scL lv vs f t 1024).length ≤ 1024 := by
  unfold scL; split
  · exact List.length_take_le _ _
  · simp
theorem sc_full {lv : Nat → List It} {vs : Nat → Int} {f t : List UInt8} (h : ckE lv vs [f, t] = 0) : scL lv vs f t 1024 = rngL lv f t := by
  unfold scL; rw [if_pos h]
  have hm : mayTs lv vs 16 = true := by
    cases hm : mayTs lv vs 16 with
    | true => rfl
    | false => rw [ck_no hm] at h; cases h
  exact List.take_of_length_le (rng_len hm f t)
theorem sc_none {lv : Nat → List It} {vs : Nat → Int} {f t : List UInt8} {m : Int} (h : ckE lv vs [f, t] ≠ 0) : scL lv vs f t m = [] := by
  unfold scL; rw [if_neg h]
set_option maxRecDepth 100000 in
set_option maxHeartbeats 1000000 in
theorem count11_any (cs : Array Value) (lv : Nat → List It) (vs : Nat → Int) (f t : List UInt8) (w : World) (tab : TabAt w) (h : RdT w cs lv vs) (hsz : SzT lv) (hf : f.length ≤ maxLen) (ht : t.length ≤ maxLen) :
    Calls Tryd.prog 37 #[.agg cs, .string (str f), .string (str t)] w fun e w' => e = .returned (.tuple #[.int .i64 ((scL lv vs f t 1024).length : Int), .int .i64 (ckE lv vs [f, t] : Int)]) ∧ Below w.heap.size w w' := by
  have hsT := infoTc h.size
  have q1 := heap_alloc_new w (.cells cs 26)
  have bel := (Below.refl w.heap.size w).alloc (Nat.le_refl _) (.cells cs 26)
  have SC0 := scan_any cs lv vs f t 1024 _ (tab.below bel) (h.below bel (Nat.le_refl _)) hsz hf ht
  obtain ⟨L, hL⟩ : ∃ L, L = scL lv vs f t 1024 := ⟨_, rfl⟩
  rw [← hL] at SC0 ⊢
  have SC := Lib.hid SC0
  clear h hsz tab SC0 hL
  go_enter Tryd.func37, Tryd.ntmps37
  go_wp2_with ((with_reducible refine wpList_load_row (o := ⟨some 11, _, _, _, _, _⟩) rfl 26 (.tmp 3) rfl _ rfl _ cs (0, 0) _ q1 Tryd.underlying26 rfl hsT ?_))
  refine SC.out.mono ?_
  rintro e w2 ⟨v, rfl, own, g⟩
  have bel2 := chain bel g
  obtain ⟨al, cl, rfl, -, -, -⟩ := RdK.open (OwnI.rd (w := w2) own)
  clear own g
  go_wp2_with fail
  go_ret2
  exact ⟨rfl, bel2⟩
set_option maxRecDepth 100000 in
set_option maxHeartbeats 1000000 in
theorem back_any (cs : Array Value) (lv : Nat → List It) (vs : Nat → Int) (f t : List UInt8) (most : Int) (w : World) (tab : TabAt w) (h : RdT w cs lv vs) (hsz : SzT lv) (hf : f.length ≤ maxLen) (ht : t.length ≤ maxLen) :
    Calls Tryd.prog 36 #[.agg cs, .string (str f), .string (str t), .int .i64 most] w fun e w' => ∃ v, e = .returned (.tuple #[v, .int .i64 (ckE lv vs [f, t] : Int)]) ∧ w'.ownsRow w.heap.size 32 5 v ((scL lv vs f t 1024).reverse.take most.toNat).length (((scL lv vs f t 1024).reverse.take most.toNat).flatMap itC) ∧ Below w.heap.size w w' := by
  have hsT := infoTc h.size
  have q1 := heap_alloc_new w (.cells cs 26)
  have bel := (Below.refl w.heap.size w).alloc (Nat.le_refl _) (.cells cs 26)
  have SC0 := scan_any cs lv vs f t 1024 _ (tab.below bel) (h.below bel (Nat.le_refl _)) hsz hf ht
  have hll := sc_all (lv := lv) (vs := vs) f t
  obtain ⟨L, hL⟩ : ∃ L, L = scL lv vs f t 1024 := ⟨_, rfl⟩
  obtain ⟨E, hE⟩ : ∃ E, E = ckE lv vs [f, t] := ⟨_, rfl⟩
  rw [← hL, ← hE] at SC0 ⊢
  rw [← hL] at hll
  obtain ⟨Z, hZ⟩ : ∃ Z : Ending → World → Prop, Z = fun e w' => ∃ v, e = .returned (.tuple #[v, .int .i64 (E : Int)]) ∧ w'.ownsRow w.heap.size 32 5 v (L.reverse.take most.toNat).length ((L.reverse.take most.toNat).flatMap itC) ∧ Below w.heap.size w w' := ⟨_, rfl⟩
  rw [← hZ]
  have HZ := Lib.hid hZ
  have SC := Lib.hid SC0
  clear h hsz tab SC0 hL hE hZ
  go_enter Tryd.func36, Tryd.ntmps36
  go_wp2_with ((with_reducible refine wpList_load_row (o := ⟨some 13, _, _, _, _, _⟩) rfl 26 (.tmp 4) rfl _ rfl _ cs (0, 0) _ q1 Tryd.underlying26 rfl hsT ?_))
  refine SC.out.mono ?_
  rintro e w2 ⟨v, rfl, own, g⟩
  have bel2 := chain bel g
  have RV := Lib.hid (rev_any _ L v w2 own (by omega))
  obtain ⟨al, cl, rfl, hcl, hcm, -⟩ := RdK.open (OwnI.rd (w := w2) own)
  have OW := Lib.hid own
  clear own g q1
  go_wp2_with ((with_reducible refine RV.out.mono ?_); rintro e w3 ⟨rfl, own3, g3⟩)
  have bel3 := grown_below bel2 (Nat.le_refl _) (own_base OW.out (by simp)) g3
  obtain ⟨m, hm⟩ : ∃ m, m = (max 0 (min most (L.length : Int))).toNat := ⟨_, rfl⟩
  have hml : m ≤ L.length := by omega
  have e9 : L.reverse.take m = L.reverse.take most.toNat := by
    by_cases hk : most.toNat ≤ L.length
    · rw [show m = most.toNat by omega]
    · rw [List.take_of_length_le (by simp; omega), List.take_of_length_le (by simp; omega)]
  have RD3 : RdI w3 (.slice al L.length cl) L.reverse := by
    have := OwnI.rd (w := w3) (l := L.reverse) (b := (w.alloc (.cells cs 26)).heap.size) (v := .slice al L.length cl) (by rw [List.length_reverse]; exact own3)
    exact this
  have CL := clone11_any (.slice al m cl) (L.reverse.take m) w3 (RdK.short itC_len RD3 m hml) (by rw [List.length_take, List.length_reverse]; omega)
  rw [e9] at CL
  rw [← hm]
  clear hm hml e9 RD3 own3 g3 bel2
  refine CL.mono ?_
  rintro e w4 ⟨v4, rfl, own4, g4⟩
  have bel4 := chain bel3 g4
  have own5 := own_base own4 bel3.size
  clear own4 g4 CL
  go_wp2_with fail
  show Z (.returned _) _
  rw [HZ.out]
  exact ⟨v4, rfl, own5, bel4⟩
end Go.Proofs.YtmjedjhkhjiigaaDoor
namespace Go.Proofs.YtmjedjhkhjiigaaDoor
open Go Go.RowKit
set_option linter.unusedVariables false
set_option linter.unusedSimpArgs false
set_option maxRecDepth 100000
def laI (lv : Nat → List It) (vs : Nat → Int) (k : List UInt8) : It := if ckE lv vs [[], k] = 0 then (rngL lv [] k).getLastD zI else zI
def laE (lv : Nat → List It) (vs : Nat → Int) (k : List UInt8) : Nat := if ckE lv vs [[], k] = 0 then (if rngL lv [] k = [] then 6 else 0) else ckE lv vs [[], k]
theorem last_rev {l : List It} : l.reverse.headD zI = l.getLastD zI := by
  cases h : l.reverse with
  | nil => rw [List.reverse_eq_nil_iff] at h; subst h; rfl
  | cons x r =>
    have e : l = r.reverse ++ [x] := by rw [← List.reverse_reverse l, h]; simp
    rw [e]; simp
set_option maxHeartbeats 1000000 in
theorem last_any (cs : Array Value) (lv : Nat → List It) (vs : Nat → Int) (k : List UInt8) (w : World) (tab : TabAt w) (h : RdT w cs lv vs) (hsz : SzT lv) (hk : k.length ≤ maxLen) :
    Calls Tryd.prog 45 #[.agg cs, .string (str k)] w fun e w' => e = .returned (.tuple #[itV (laI lv vs k), .int .i64 (laE lv vs k : Int)]) ∧ Below w.heap.size w w' := by
  have hsT := infoTc h.size
  obtain ⟨q1, q2, zs⟩ := two_allocs w (.cells cs 26) (.cells #[.string { data := #[] }, .int .i64 0, .int .i64 0, .string { data := #[] }, .int .i64 0] 32)
  have bel := ((Below.refl _ w).alloc (Nat.le_refl _) (.cells cs 26)).alloc (by simp) (.cells #[.string { data := #[] }, .int .i64 0, .int .i64 0, .string { data := #[] }, .int .i64 0] 32)
  have BK0 := back_any cs lv vs [] k 1 _ (tab.below bel) (h.below bel (Nat.le_refl _)) hsz (by simp [maxLen]) hk
  obtain ⟨Z, hZ⟩ : ∃ Z : Ending → World → Prop, Z = fun e w' => e = .returned (.tuple #[itV (laI lv vs k), .int .i64 (laE lv vs k : Int)]) ∧ Below w.heap.size w w' := ⟨_, rfl⟩
  rw [← hZ]
  have HZ := Lib.hid hZ
  obtain ⟨B, hB⟩ : ∃ B, B = (scL lv vs [] k 1024).reverse.take (1 : Int).toNat := ⟨_, rfl⟩
  obtain ⟨E, hE⟩ : ∃ E, E = ckE lv vs [[], k] := ⟨_, rfl⟩
  rw [← hB, ← hE] at BK0
  have BK := Lib.hid BK0
  have EQ : (E = 0 → laI lv vs k = B.headD zI ∧ laE lv vs k = if B = [] then 6 else 0) ∧ (E ≠ 0 → laI lv vs k = zI ∧ laE lv vs k = E) := by
    rw [hB, hE]
    refine ⟨fun hc => ?_, fun hc => ?_⟩
    · rw [sc_full hc]
      unfold laI laE
      rw [if_pos hc, if_pos hc, ← last_rev]
      rw [show (1 : Int).toNat = 1 from rfl]
      cases hr : (rngL lv [] k).reverse with
      | nil => rw [List.reverse_eq_nil_iff.1 hr]; exact ⟨rfl, rfl⟩
      | cons x r =>
        refine ⟨rfl, ?_⟩
        rw [if_neg (show ¬ rngL lv [] k = [] from fun h0 => by rw [h0] at hr; simp at hr), if_neg (by simp)]
    · unfold laI laE; rw [if_neg hc, if_neg hc]; exact ⟨rfl, rfl⟩
  clear h hsz tab BK0 hB hE hZ
  have infoI5 := fun (a b c d e : Value) => infoI (a := a) (b := b) (c := c) (d := d) (e := e)
  by_cases hc : E = 0
  · subst hc
    have EQ1 := EQ.1 rfl
    clear EQ
    cases B with
    | nil =>
      have HE := Lib.hid (show laI lv vs k = zI ∧ laE lv vs k = 6 from EQ1)
      clear EQ1
      go_enter Tryd.func45, Tryd.ntmps45
      go_wp2_with (first | ((with_reducible refine wpList_load_row (o := ⟨some 9, _, _, _, _, _⟩) rfl 26 (.tmp 2) rfl _ rfl _ cs (0, 0) _ q1 Tryd.underlying26 rfl hsT ?_)) | ((refine BK.out.mono ?_); rintro e w2 ⟨v, rfl, own, g⟩; obtain ⟨al, cl, rfl, -, -, -⟩ := RdK.open (OwnI.rd (w := w2) own); (have p2 := (g.block _ (lt_of_block q2)).trans q2); (have bel := chain bel g); (have n1 := setRow_heap w2 (w.heap.size + 1) _ #[.string (str zI.key), .int .i64 zI.v.k, .int .i64 zI.v.i, .string (str zI.v.s), .int .i64 zI.ver] _ _ p2); (have BN := below_row bel (Nat.le_add_right _ 1) #[.string (str zI.key), .int .i64 zI.v.k, .int .i64 zI.v.i, .string (str zI.v.s), .int .i64 zI.ver]); (obtain ⟨WN, hWN⟩ : ∃ V, V = w2.setRow (w.heap.size + 1) #[.string (str zI.key), .int .i64 zI.v.k, .int .i64 zI.v.i, .string (str zI.v.s), .int .i64 zI.ver] := ⟨_, rfl⟩); rw [← hWN] at n1 BN; (have HBN := Lib.hid BN); (have HWN := Lib.hid hWN); (have N1 := Lib.hid n1); clear n1 BN hWN own g) | (refine wpList_store_row (o := ⟨none, _, _, _, _, _⟩) rfl 32 (.tmp 4) (.tmp 23) rfl _ #[.string (str zI.key), .int .i64 zI.v.k, .int .i64 zI.v.i, .string (str zI.v.s), .int .i64 zI.ver] rfl rfl 32 #[.string (str zI.key), .int .i64 zI.v.k, .int .i64 zI.v.i, .string (str zI.v.s), .int .i64 zI.ver] p2 infoI rfl (itc_one zI) ?_; rw [← HWN.out]))
      refine bodyPost_ret (results_row_tmp rfl _ _ _ 32 #[.string (str zI.key), .int .i64 zI.v.k, .int .i64 zI.v.i, .string (str zI.v.s), .int .i64 zI.ver] (0, 0) _ _ rfl rfl N1.out Tryd.underlying32 rfl infoI) rfl ?_
      rw [HZ.out, HE.out.1, HE.out.2]
      exact ⟨rfl, HBN.out⟩
    | cons x r =>
      have HE := Lib.hid (show laI lv vs k = x ∧ laE lv vs k = 0 from EQ1)
      clear EQ1
      go_enter Tryd.func45, Tryd.ntmps45
      go_wp2_with (first | ((with_reducible refine wpList_load_row (o := ⟨some 9, _, _, _, _, _⟩) rfl 26 (.tmp 2) rfl _ rfl _ cs (0, 0) _ q1 Tryd.underlying26 rfl hsT ?_)) | ((refine BK.out.mono ?_); rintro e w2 ⟨v, rfl, own, g⟩; obtain ⟨al, cl, rfl, -, -, RD1⟩ := RdK.open (OwnI.rd (w := w2) own); obtain ⟨b, off, rfl, hb, c0, c1, c2, c3, c4⟩ := rdi_cells (show RdI w2 (.slice al (x :: r).length cl) (x :: r) from RD1) 0 (by simp); (simp only [Nat.zero_mul, Nat.add_zero, List.getElem_cons_zero] at c0 c1 c2 c3 c4); (have p2 := (g.block _ (lt_of_block q2)).trans q2); (have bel := chain bel g); (have n1 := setRow_heap w2 (w.heap.size + 1) _ #[.string (str x.key), .int .i64 x.v.k, .int .i64 x.v.i, .string (str x.v.s), .int .i64 x.ver] _ _ p2); (have BN := below_row bel (Nat.le_add_right _ 1) #[.string (str x.key), .int .i64 x.v.k, .int .i64 x.v.i, .string (str x.v.s), .int .i64 x.ver]); (obtain ⟨WN, hWN⟩ : ∃ V, V = w2.setRow (w.heap.size + 1) #[.string (str x.key), .int .i64 x.v.k, .int .i64 x.v.i, .string (str x.v.s), .int .i64 x.ver] := ⟨_, rfl⟩); rw [← hWN] at n1 BN; (have HBN := Lib.hid BN); (have HWN := Lib.hid hWN); (have N1 := Lib.hid n1); clear n1 BN hWN own g RD1) | (refine wpList_store_row (o := ⟨none, _, _, _, _, _⟩) rfl 32 (.tmp 4) (.tmp 26) rfl _ #[.string (str x.key), .int .i64 x.v.k, .int .i64 x.v.i, .string (str x.v.s), .int .i64 x.ver] rfl rfl 32 #[.string (str zI.key), .int .i64 zI.v.k, .int .i64 zI.v.i, .string (str zI.v.s), .int .i64 zI.ver] p2 infoI rfl (itc_one x) ?_; rw [← HWN.out]))
      refine bodyPost_ret (results_row_tmp rfl _ _ _ 32 #[.string (str x.key), .int .i64 x.v.k, .int .i64 x.v.i, .string (str x.v.s), .int .i64 x.ver] (0, 0) _ _ rfl rfl N1.out Tryd.underlying32 rfl infoI) rfl ?_
      rw [HZ.out, HE.out.1, HE.out.2]
      exact ⟨rfl, HBN.out⟩
  · have EQ2 := EQ.2 hc
    have HE := Lib.hid EQ2
    have hcn : 1 ≤ E := by omega
    have d1 : ((E : Int) != 0) = true := by simp; omega
    clear EQ EQ2 hc
    go_enter Tryd.func45, Tryd.ntmps45
    go_wp2_with (first | ((with_reducible refine wpList_load_row (o := ⟨some 9, _, _, _, _, _⟩) rfl 26 (.tmp 2) rfl _ rfl _ cs (0, 0) _ q1 Tryd.underlying26 rfl hsT ?_)) | ((refine BK.out.mono ?_); rintro e w2 ⟨v, rfl, own, g⟩; obtain ⟨al, cl, rfl, -, -, -⟩ := RdK.open (OwnI.rd (w := w2) own); (have p2 := (g.block _ (lt_of_block q2)).trans q2); (have bel := chain bel g); (have n1 := setRow_heap w2 (w.heap.size + 1) _ #[.string (str zI.key), .int .i64 zI.v.k, .int .i64 zI.v.i, .string (str zI.v.s), .int .i64 zI.ver] _ _ p2); (have BN := below_row bel (Nat.le_add_right _ 1) #[.string (str zI.key), .int .i64 zI.v.k, .int .i64 zI.v.i, .string (str zI.v.s), .int .i64 zI.ver]); (obtain ⟨WN, hWN⟩ : ∃ V, V = w2.setRow (w.heap.size + 1) #[.string (str zI.key), .int .i64 zI.v.k, .int .i64 zI.v.i, .string (str zI.v.s), .int .i64 zI.ver] := ⟨_, rfl⟩); rw [← hWN] at n1 BN; (have HBN := Lib.hid BN); (have HWN := Lib.hid hWN); (have N1 := Lib.hid n1); clear n1 BN hWN own g) | (refine wpList_store_row (o := ⟨none, _, _, _, _, _⟩) rfl 32 (.tmp 4) (.tmp 17) rfl _ #[.string (str zI.key), .int .i64 zI.v.k, .int .i64 zI.v.i, .string (str zI.v.s), .int .i64 zI.ver] rfl rfl 32 #[.string (str zI.key), .int .i64 zI.v.k, .int .i64 zI.v.i, .string (str zI.v.s), .int .i64 zI.ver] p2 infoI rfl (itc_one zI) ?_; rw [← HWN.out]))
    refine bodyPost_ret (results_row_tmp rfl _ _ _ 32 #[.string (str zI.key), .int .i64 zI.v.k, .int .i64 zI.v.i, .string (str zI.v.s), .int .i64 zI.ver] (0, 0) _ _ rfl rfl N1.out Tryd.underlying32 rfl infoI) rfl ?_
    rw [HZ.out, HE.out.1, HE.out.2]
    exact ⟨rfl, HBN.out⟩
end Go.Proofs.YtmjedjhkhjiigaaDoor
