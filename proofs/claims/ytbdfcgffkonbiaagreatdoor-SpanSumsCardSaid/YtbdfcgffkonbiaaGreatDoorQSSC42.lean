/-
  DERIVED: THE SHELF's CONTRACTS AT THIS DUMP, IN PLAIN WORDS (tools/lay-plain.mjs out of 'TryzRev.lean', which tools/lay-shelf.mjs wrote): THE SAME DECLARATIONS UNDER THE SAME NAMES: 'import', 'namespace', 'open', 'def', 'theorem' AND NOTHING ELSE: no command of the shelf's: FOR A HAND-IN. Each laying: the table of numbers ('.._ren') and one theorem, a field a fact of the dump's own or the kernel's comparison; each contract: ONE APPLICATION.
-/
/- Span: slices.Reverse at items of the call's own. Written by wip/tools/gen11r.py. -/
/- Leaves: slices.Clone, longer lists. -/
/- Span: Back, Count. Written by wip/tools/gen11t.py. -/
import Derived.Shelf.SlGeneric
import Derived.Shelf.SlicesQ.Reverse
import Derived.Ground.SlgnProg
import Derived.Test.YtbdfcgffkonbiaaGreatDoorProg
import Derived.Test.YtbdfcgffkonbiaaGreatDoorQSSC14
import Derived.Test.YtbdfcgffkonbiaaGreatDoorQSSC13
import Derived.Shelf.GgSortFunc.RowK
import Derived.Test.YtbdfcgffkonbiaaGreatDoorQSSC36
namespace Go.Proofs
open Go.Shelf
def Tryz.revItem_ren : Go.Shelf.Ren := ⟨fun | 35 => 37 | n => n, fun | 22 => 22 | 23 => 48 | 3 => 3 | 4 => 4 | 0 => 0 | n => n, fun | n => n⟩
theorem Tryz.revItem : Go.Proofs.SlLaysE0.n35 Tryz.prog Tryz.revItem_ren := {
  mixed := by kernel_rfl
  f35 := ⟨Tryz.f37.name, by decide, Tryz.func37.trans (congrArg some (by kernel_rfl))⟩
  t0 := Tryz.underlying0
  a0 := Tryz.isAgg0
  z0 := Tryz.sizeOf0
  v0 := Tryz.zeroValue0
  t3 := Tryz.underlying3
  a3 := Tryz.isAgg3
  z3 := Tryz.sizeOf3
  v3 := Tryz.zeroValue3
  t4 := Tryz.underlying4
  a4 := Tryz.isAgg4
  z4 := Tryz.sizeOf4
  v4 := Tryz.zeroValue4
  t22 := Tryz.underlying22
  a22 := Tryz.isAgg22
  z22 := Tryz.sizeOf22
  v22 := Tryz.zeroValue22 }
end Go.Proofs
namespace Go.Proofs.YtbdfcgffkonbiaaGreatDoor
open Go Go.RowKit Go.Sort
set_option linter.unusedVariables false
set_option linter.unusedSimpArgs false
set_option maxRecDepth 100000
instance : Inhabited It := ⟨zI⟩
theorem flat_list (l : List It) : (flatK itC 5 l.toArray).toList = l.flatMap itC := by
  apply List.ext_getElem?
  intro t
  by_cases ht : t < l.length * 5
  · have h1 := get_flatK itC 5 l.toArray t (by simpa using ht)
    have hs : t < (flatK itC 5 l.toArray).size := by simpa using ht
    rw [getElem!_pos _ t hs] at h1
    rw [Array.getElem?_toList, Array.getElem?_eq_getElem hs, h1]
    have hj : t / 5 < l.length := by omega
    have h2 := flat_get itC_len l (t / 5) (t % 5) hj (by omega)
    rw [show t / 5 * 5 + t % 5 = t by omega] at h2
    rw [h2]
    have h3 : l.toArray[t / 5]! = l[t / 5] := by rw [getElem!_pos l.toArray (t / 5) (by simpa using hj)]; simp
    rw [h3]
    have h4 : t % 5 < (itC l[t / 5]).length := by rw [itC_len]; omega
    rw [getElem!_pos (itC l[t / 5]) (t % 5) h4, List.getElem?_eq_getElem h4]
  · rw [List.getElem?_eq_none (by simp; omega), List.getElem?_eq_none (by rw [flat_len itC_len]; omega)]
theorem holds_own {w : World} {base g cap : Nat} {l : List It} (h : w.ownsRow base 48 5 (.slice (some ⟨g, 0, none⟩) l.length cap) l.length (l.flatMap itC)) : HoldsK itC 5 w g 0 l.toArray := by
  intro j hj
  have hj' : j < l.length * 5 := by simpa using hj
  refine ⟨?_, h.frozenAt _⟩
  rw [Nat.zero_add, h.cellAt j hj', ← flat_list, Array.getElem?_toList, Array.getElem?_eq_getElem hj, getElem!_pos _ j hj]
  rfl
theorem heap_sortedK {w : World} {g n : Nat} {cur : Array Value} {e : TypeId} {fr : Nat × Nat} (F : Array Value) (hb : w.heap[g]? = some (.cells cur e fr)) :
    (putRow id (Sort.ahead w n) g 0 F).heap[g]? = some (.cells (putCells id 0 F cur) e fr) := by
  simp [putRow, mapBlock, Sort.ahead, Array.getElem?_modify, hb, onCells]
theorem grownBy_sortedK {w : World} {g n : Nat} (F : Array Value) : w.grownBy (putRow id (Sort.ahead w n) g 0 F) (some g) := by
  refine ⟨rfl, rfl, rfl, by simp [putRow, mapBlock, Sort.ahead], fun k hk hne => ?_⟩
  have : g ≠ k := fun e => hne (by rw [e])
  simp [putRow, mapBlock, Sort.ahead, Array.getElem?_modify, this]
theorem take_putCellsK (cur F : Array Value) (h : F.size ≤ cur.size) : (putCells id 0 F cur).toList.take F.size = F.toList := by
  apply List.ext_getElem?
  intro j
  by_cases hj : j < F.size
  · rw [List.getElem?_take_of_lt hj, Array.getElem?_toList]
    simp [putCells, hj, show j < cur.size by omega]
  · rw [List.getElem?_take_eq_none (by omega), List.getElem?_eq_none (by simp; omega)]
theorem own_sortedK {w : World} {base g cap n : Nat} {l ts : List It} (h : w.ownsRow base 48 5 (.slice (some ⟨g, 0, none⟩) l.length cap) l.length (l.flatMap itC)) (hl : ts.length = l.length) :
    (putRowK itC 5 (Sort.ahead w n) g 0 ts.toArray).ownsRow base 48 5 (.slice (some ⟨g, 0, none⟩) l.length cap) l.length (ts.flatMap itC) := by
  obtain ⟨h1, h2⟩ := h
  refine ⟨by rw [flat_len itC_len, hl], ?_⟩
  rcases h2 with ⟨h2, _⟩ | ⟨g', cap', cur, h2, h3, h4, h5, h6, h7, h8⟩
  · simp at h2
  · simp only [Value.slice.injEq, Option.some.injEq, Addr.mk.injEq, and_true, true_and] at h2
    obtain ⟨rfl, rfl⟩ := h2
    have hsz : (flatK itC 5 ts.toArray).size = l.length * 5 := by simp [hl]
    refine .inr ⟨g, cap, putCells id 0 (flatK itC 5 ts.toArray) cur, rfl, h3, heap_sortedK _ h4, h5, h6, by simp [putCells, h7], ?_⟩
    rw [← hsz, take_putCellsK _ _ (by rw [hsz, h7]; omega), flat_list]
theorem own_val11 {w : World} {base : Nat} {e : TypeId} {size : Nat} {v : Value} {n : Nat} {xs : List Value} (h : w.ownsRow base e size v n xs) : (v = .slice none 0 0 ∧ n = 0) ∨ ∃ g cap, v = .slice (some ⟨g, 0, none⟩) n cap := by
  rcases h.2 with h2 | ⟨g, cap, cur, h2, _⟩
  · exact .inl h2
  · exact .inr ⟨g, cap, h2⟩
theorem rev_any (base : Nat) (l : List It) (v : Value) (w : World) (hown : w.ownsRow base 48 5 v l.length (l.flatMap itC)) (hl : l.length ≤ 3000) :
    Calls Tryz.prog 37 #[v] w fun e w' => e = .returned (.tuple #[]) ∧ w'.ownsRow base 48 5 v l.length (l.reverse.flatMap itC) ∧ w.grownBy w' v.ownBlock := by
  rcases own_val11 hown with ⟨rfl, h0⟩ | ⟨g, cap, rfl⟩
  · obtain rfl : l = [] := List.eq_nil_of_length_eq_zero h0
    have h := AnyQ.slices_Reverse_empty Tryz.revItem none 0 w
    change Calls Tryz.prog 37 _ _ _ at h
    refine h.mono ?_
    rintro e w' ⟨rfl, rfl⟩
    exact ⟨rfl, hown, ⟨rfl, rfl, rfl, Nat.le_refl _, fun _ _ _ => rfl⟩⟩
  · have h := AnyQ.slices_Reverse Tryz.revItem 5 Tryz.isAgg48 Tryz.sizeOf48 itC itC_len (fun x v hv => itC_one x v hv) g 0 cap l.toArray w (holds_own hown) (by simp; omega)
    change Calls Tryz.prog 37 _ _ _ at h
    rw [show l.toArray.size = l.length by simp] at h
    refine h.mono ?_
    rintro e w' ⟨rfl, n, rfl⟩
    have e : l.toArray.reverse = l.reverse.toArray := by simp
    rw [e]
    exact ⟨rfl, own_sortedK hown (by simp), grownBy_sortedK _⟩
end Go.Proofs.YtbdfcgffkonbiaaGreatDoor
namespace Go.Proofs.YtbdfcgffkonbiaaGreatDoor
open Go Go.RowKit
set_option linter.unusedVariables false
set_option linter.unusedSimpArgs false
set_option maxRecDepth 100000 in
set_option maxHeartbeats 4000000 in
theorem clone11_any (v : Value) (l : List It) (w : World) (h : RdI w v l) (h66 : l.length ≤ 3000) :
    Calls Tryz.prog 38 #[v] w (OwnI w l) := by
  obtain ⟨i0, hi, hz0, hz1, hz2⟩ := info_parts item_info
  obtain ⟨ao, cap, rfl, hc, hm, hr⟩ := RdK.open h
  cases ao with
  | none =>
    have hcap : cap = 0 := by obtain ⟨_, _, he, _, _, h4, _⟩ := hr; cases he; exact h4 rfl
    obtain rfl : l = [] := List.eq_nil_of_length_eq_zero (by omega)
    subst hcap
    have hnil : ∀ W, (binOp .eql 22 (.slice none 0 0) (.slice none 0 0)).run Tryz.prog W = .ok (.bool true) W := fun W => Lib.run_eql_slice_nil_nil W 0 0 Tryz.underlying22
    clear h hr
    go_enter Tryz.func38, Tryz.ntmps38
    go_wp2_with fail
    go_ret
    exact ⟨_, rfl, World.ownsRow_nil _ _ _ _, Below.refl _ _⟩
  | some ad =>
    have hr : RdI w (.slice (some ad) l.length cap) l := hr
    have HSZ := Lib.hid (show (w.alloc (.cells #[] 48)).heap.size = w.heap.size + 1 from by simp)
    have HLIT := Lib.hid (World.ownsRow_lit (e := 48) (size := 5) w #[] 0 (Nat.le_refl _) (by decide) rfl)
    have HRD := Lib.hid hr
    have hsome := fun W => Lib.run_eql_slice_some_nil (P := Tryz.prog) W ad l.length cap Tryz.underlying22
    clear h hr
    go_enter Tryz.func38, Tryz.ntmps38
    go_wp2_with (at_builtin; refine wpList_app_rdk itC_len (by decide) w rfl (.tmp 5) (.tmp 6) 22 rfl w.heap.size 48 i0 (.agg #[.string ⟨#[]⟩, .int .i64 0, .int .i64 0, .string ⟨#[]⟩, .int .i64 0]) 56 Tryz.underlying22 hi hz0 hz1 hz2 rfl (.slice (some ⟨w.heap.size, 0, none⟩) 0 0) [] rfl HLIT.out (.slice (some ad) l.length cap) l rfl (HRD.out.below ((Below.refl _ _).alloc (Nat.le_refl _) _) (Nat.le_refl _)) itC_one (by unfold maxLen; simp; omega) (by simp; omega) (Nat.le_refl _) ((Below.refl _ _).alloc (Nat.le_refl _) _) ?_; intro v' w1 hown2 hb2 hq2; clear hq2)
    go_ret
    exact ⟨_, rfl, hown2, hb2⟩
end Go.Proofs.YtbdfcgffkonbiaaGreatDoor
namespace Go.Proofs.YtbdfcgffkonbiaaGreatDoor
open Go Go.RowKit
set_option linter.unusedVariables false
set_option linter.unusedSimpArgs false
theorem sc_all {lv : Nat → List It} {vs : Nat → Int} (f t : List UInt8) : (scL lv vs f t 1024).length ≤ 1024 := by
  unfold scL; split
  · exact List.length_take_le _ _
  · simp
theorem sc_full {lv : Nat → List It} {vs : Nat → Int} {f t : List UInt8} (h : ckE lv vs [f, t] = 0) : scL lv vs f t 1024 = rngL lv f t := by
  unfold scL; rw [if_pos h]
  have hm : mayTs lv vs 16 = true := by
    cases hm : mayTs lv vs 16 with
    | true => rfl
    | false => rw [ck_no hm] at h; cases h
  exact List.take_of_length_le (rng_len hm f t)
theorem sc_none {lv : Nat → List It} {vs : Nat → Int} {f t : List UInt8} {m : Int} (h : ckE lv vs [f, t] ≠ 0) : scL lv vs f t m = [] := by
  unfold scL; rw [if_neg h]
set_option maxRecDepth 100000 in
set_option maxHeartbeats 1000000 in
theorem back_any (cs : Array Value) (lv : Nat → List It) (vs : Nat → Int) (f t : List UInt8) (most : Int) (w : World) (tab : TabAt w) (h : RdT w cs lv vs) (hsz : SzT lv) (hf : f.length ≤ maxLen) (ht : t.length ≤ maxLen) :
    Calls Tryz.prog 19 #[.agg cs, .string (str f), .string (str t), .int .i64 most] w fun e w' => ∃ v, e = .returned (.tuple #[v, .int .i64 (ckE lv vs [f, t] : Int)]) ∧ w'.ownsRow w.heap.size 48 5 v ((scL lv vs f t 1024).reverse.take most.toNat).length (((scL lv vs f t 1024).reverse.take most.toNat).flatMap itC) ∧ Below w.heap.size w w' := by
  have hsT := infoTc h.size
  have q1 := heap_alloc_new w (.cells cs 26)
  have bel := (Below.refl w.heap.size w).alloc (Nat.le_refl _) (.cells cs 26)
  have SC0 := scan_any cs lv vs f t 1024 _ (tab.below bel) (h.below bel (Nat.le_refl _)) hsz hf ht
  have hll := sc_all (lv := lv) (vs := vs) f t
  obtain ⟨L, hL⟩ : ∃ L, L = scL lv vs f t 1024 := ⟨_, rfl⟩
  obtain ⟨E, hE⟩ : ∃ E, E = ckE lv vs [f, t] := ⟨_, rfl⟩
  rw [← hL, ← hE] at SC0 ⊢
  rw [← hL] at hll
  obtain ⟨Z, hZ⟩ : ∃ Z : Ending → World → Prop, Z = fun e w' => ∃ v, e = .returned (.tuple #[v, .int .i64 (E : Int)]) ∧ w'.ownsRow w.heap.size 48 5 v (L.reverse.take most.toNat).length ((L.reverse.take most.toNat).flatMap itC) ∧ Below w.heap.size w w' := ⟨_, rfl⟩
  rw [← hZ]
  have HZ := Lib.hid hZ
  have SC := Lib.hid SC0
  clear h hsz tab SC0 hL hE hZ
  go_enter Tryz.func19, Tryz.ntmps19
  go_wp2_with ((with_reducible refine wpList_load_row (o := ⟨some 13, _, _, _, _, _⟩) rfl 26 (.tmp 4) rfl _ rfl _ cs (0, 0) _ q1 Tryz.underlying26 rfl hsT ?_))
  refine SC.out.mono ?_
  rintro e w2 ⟨v, rfl, own, g⟩
  have bel2 := chain bel g
  have RV := Lib.hid (rev_any _ L v w2 own (by omega))
  obtain ⟨al, cl, rfl, hcl, hcm, -⟩ := RdK.open (OwnI.rd (w := w2) own)
  have OW := Lib.hid own
  clear own g q1
  go_wp2_with ((with_reducible refine RV.out.mono ?_); rintro e w3 ⟨rfl, own3, g3⟩)
  have bel3 := grown_below bel2 (Nat.le_refl _) (own_base OW.out (by simp)) g3
  obtain ⟨m, hm⟩ : ∃ m, m = (max 0 (min most (L.length : Int))).toNat := ⟨_, rfl⟩
  have hml : m ≤ L.length := by omega
  have e9 : L.reverse.take m = L.reverse.take most.toNat := by
    by_cases hk : most.toNat ≤ L.length
    · rw [show m = most.toNat by omega]
    · rw [List.take_of_length_le (by simp; omega), List.take_of_length_le (by simp; omega)]
  have RD3 : RdI w3 (.slice al L.length cl) L.reverse := by
    have := OwnI.rd (w := w3) (l := L.reverse) (b := (w.alloc (.cells cs 26)).heap.size) (v := .slice al L.length cl) (by rw [List.length_reverse]; exact own3)
    exact this
  have CL := clone11_any (.slice al m cl) (L.reverse.take m) w3 (RdK.short itC_len RD3 m hml) (by rw [List.length_take, List.length_reverse]; omega)
  rw [e9] at CL
  rw [← hm]
  clear hm hml e9 RD3 own3 g3 bel2
  refine CL.mono ?_
  rintro e w4 ⟨v4, rfl, own4, g4⟩
  have bel4 := chain bel3 g4
  have own5 := own_base own4 bel3.size
  clear own4 g4 CL
  go_wp2_with fail
  show Z (.returned _) _
  rw [HZ.out]
  exact ⟨v4, rfl, own5, bel4⟩
end Go.Proofs.YtbdfcgffkonbiaaGreatDoor
