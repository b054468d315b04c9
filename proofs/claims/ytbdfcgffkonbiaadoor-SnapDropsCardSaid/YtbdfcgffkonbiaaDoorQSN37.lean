/- Snaps: cmp.Compare, slices.BinarySearchFunc, Clone; find. Written by wip/tools/gen14e.py. -/
/- Structs and one-element slices that are built of parts of many cells. It speaks of no program in particular. -/
import Derived.Test.YtbdfcgffkonbiaaDoorQSN35
import Derived.Test.YtbdfcgffkonbiaaDoorQSN30
import Derived.Great.BuildSlice
namespace Go.Proofs.YtbdfcgffkonbiaaDoor
open Go Go.RowKit
set_option linter.unusedVariables false
set_option linter.unusedSimpArgs false
theorem isNaN_any (a : Int) (w : World) : Calls Tryd.prog 131 #[.int .i64 a] w fun e w' => e = .returned (.bool false) ∧ w = w' := by
  have h1 : (a != a) = false := by simp
  have h2 : decide (a ≠ a) = false := by simp
  go_enter Tryd.func131, Tryd.ntmps131
  go_wp2_with fail
  go_ret
  exact ⟨by simp, rfl⟩
/-- How two numbers are to one another. -/
def cmpI (a b : Int) : Int := if a < b then -1 else if b < a then 1 else 0
theorem cmpI_neg {a b : Int} : cmpI a b < 0 ↔ a < b := by
  unfold cmpI
  by_cases h1 : a < b
  · simp [h1]
  · by_cases h2 : b < a <;> simp [h1, h2]
theorem cmpI_zero {a b : Int} : cmpI a b = 0 ↔ a = b := by
  unfold cmpI
  by_cases h1 : a < b
  · simp [h1]; omega
  · by_cases h2 : b < a <;> simp [h1, h2] <;> omega
theorem compare_int (a b : Int) (w : World) : Calls Tryd.prog 110 #[.int .i64 a, .int .i64 b] w fun e w' => e = .returned (.int .i64 (cmpI a b)) ∧ w = w' := by
  have N := Lib.hid isNaN_any
  by_cases h1 : a < b
  · have t1 : decide (a < b) = true := decide_eq_true h1
    have E := Lib.hid (show cmpI a b = -1 by unfold cmpI; rw [if_pos h1])
    clear h1
    go_enter Tryd.func110, Tryd.ntmps110
    go_wp2_with ((with_reducible refine (N.out _ _).mono ?_); rintro e w1 ⟨rfl, rfl⟩)
    go_ret
    exact ⟨by rw [E.out]; rfl, rfl⟩
  · have t1 : decide (a < b) = false := decide_eq_false h1
    by_cases h2 : b < a
    · have t2 : decide (b < a) = true := decide_eq_true h2
      have E := Lib.hid (show cmpI a b = 1 by unfold cmpI; rw [if_neg h1, if_pos h2])
      clear h1 h2
      go_enter Tryd.func110, Tryd.ntmps110
      go_wp2_with ((with_reducible refine (N.out _ _).mono ?_); rintro e w1 ⟨rfl, rfl⟩)
      go_ret
      exact ⟨by rw [E.out]; rfl, rfl⟩
    · have t2 : decide (b < a) = false := decide_eq_false h2
      have E := Lib.hid (show cmpI a b = 0 by unfold cmpI; rw [if_neg h1, if_neg h2])
      clear h1 h2
      go_enter Tryd.func110, Tryd.ntmps110
      go_wp2_with ((with_reducible refine (N.out _ _).mono ?_); rintro e w1 ⟨rfl, rfl⟩)
      go_ret
      exact ⟨by rw [E.out]; rfl, rfl⟩
theorem findF_any (x : Sn) (q : Int) (w : World) : Calls Tryd.prog 109 #[.agg (snV x), .int .i64 q] w fun e w' => e = .returned (.int .i64 (cmpI x.q q)) ∧ Below w.heap.size w w' := by
  have C := Lib.hid (fun w => compare_int x.q q w)
  have q0 := heap_alloc_new w (.cells (snV x) 77)
  have B0 := (Below.refl w.heap.size w).alloc (Nat.le_refl _) (.cells (snV x) 77)
  have c0 := (block_cell q0 0).trans (snV_0 x)
  go_enter Tryd.func109, Tryd.ntmps109
  go_wp2_with ((with_reducible refine (C.out _).mono ?_); rintro e w1 ⟨rfl, rfl⟩)
  go_ret
  exact ⟨rfl, B0⟩
def SrtQ (L : List Sn) : Prop := ∀ i j (hi : i < L.length) (hj : j < L.length), i < j → L[i].q < L[j].q
/-- Where a number is found, or would be. -/
def FndP (L : List Sn) (q : Int) (n : Nat) (b : Bool) : Prop := n ≤ L.length ∧ (∀ i (h : i < L.length), i < n → L[i].q < q) ∧ (∀ i (h : i < L.length), n ≤ i → q ≤ L[i].q) ∧ b = (decide (n < L.length) && decide ((L.getD n sn0).q = q))
def FndC (w : World) (L : List Sn) (q : Int) (e : Ending) (w' : World) : Prop := (∃ (n : Nat) (b : Bool), e = .returned (.tuple #[.int .i64 (n : Int), .bool b]) ∧ FndP L q n b) ∧ Below w.heap.size w w'
theorem FndC.mk {w w' : World} {L : List Sn} {q : Int} {n : Nat} {b : Bool} (h : FndP L q n b) (g : Below w.heap.size w w') : FndC w L q (.returned (.tuple #[.int .i64 (n : Int), .bool b])) w' := ⟨⟨n, b, rfl, h⟩, g⟩
set_option maxRecDepth 100000 in
set_option maxHeartbeats 1000000 in
theorem search14_any (v : Value) (L : List Sn) (q : Int) (w : World) (h : RdK 36 snC w v L) (h64 : L.length ≤ 64) (hs : SrtQ L) :
    Calls Tryd.prog 108 #[v, .int .i64 q, .func (.func 109) #[] #[]] w (FndC w L q) := by
  obtain ⟨ao, cap, rfl, hc, hm, hr⟩ := RdK.open h
  have HRD := Lib.hid (show RdK 36 snC w (.slice ao L.length cap) L from hr)
  have SO := Lib.hid hs
  clear h hr hs
  go_enter Tryd.func108, Tryd.ntmps108
  go_wp2_with fail
  go_loopw [9, 10] (fun a b wr => ∃ lo hi : Nat, a = .int .i64 (lo : Int) ∧ b = .int .i64 (hi : Int) ∧ lo ≤ hi ∧ hi ≤ L.length ∧ Hid (∀ i (h : i < L.length), i < lo → L[i].q < q) ∧ Hid (∀ i (h : i < L.length), hi ≤ i → q ≤ L[i].q) ∧ Below w.heap.size w wr) (fun a b _ => (intOf b).toNat - (intOf a).toNat)
  case atStart => exact ⟨0, L.length, rfl, rfl, by omega, by omega, Lib.hid (fun i _ h => by omega), Lib.hid (fun i _ h => by omega), Below.refl _ _⟩
  case round =>
    obtain ⟨lo, hi, rfl, rfl, h1, h2, B1, B2, bel⟩ := hrel
    by_cases hlt : lo < hi
    · obtain ⟨m, hm⟩ : ∃ m : Nat, m = (lo + hi) / 2 := ⟨_, rfl⟩
      have e1 : ((lo : Int) + (hi : Int)) / 2 = (m : Int) := by omega
      have e3 : (lo + hi) / 2 = m := by omega
      have m1 : lo ≤ m := by omega
      have m2 : m < hi := by omega
      have m3 : m < L.length := by omega
      clear hm
      obtain ⟨b, off, rfl, hb, hcx0⟩ := RdK.cell snC_len (HRD.out.below bel (Nat.le_refl _)) m m3
      obtain ⟨y, hy⟩ : ∃ y, y = L[m]'m3 := ⟨_, rfl⟩
      rw [← hy] at hcx0
      have RG := sn_range (show ∀ i, i < 36 → wr.cell? ⟨b, off + m * 36 + i, none⟩ = (snC y)[i]? from fun i hi => by rw [Nat.add_assoc]; exact hcx0 i hi)
      clear hcx0
      obtain ⟨z, hz⟩ : ∃ z, z = cmpI y.q q := ⟨_, rfl⟩
      have CF0 := fun w => findF_any y q w
      rw [← hz] at CF0
      have CF := Lib.hid CF0
      clear CF0
      by_cases hlk : y.q < q
      · have B3 : Hid (∀ i (h : i < L.length), i < m + 1 → L[i].q < q) := Lib.hid (fun i h hi3 => by
          rcases Nat.lt_or_eq_of_le (show i ≤ m by omega) with h4 | h4
          · have := SO.out i m h m3 h4; rw [← hy] at this; omega
          · subst h4; rw [← hy]; exact hlk)
        have Z : z < 0 := by rw [hz]; exact cmpI_neg.2 hlk
        clear hy hlk hz
        go_wp2_with (first | ((with_reducible refine wpList_load_part (o := ⟨some 28, _, _, _, _, _⟩) rfl 77 (.tmp 27) rfl _ (off + m * 36) rfl (snV y) _ RG Tryd.underlying77 rfl (infoSN y) ?_)) | ((with_reducible refine (CF.out _).mono ?_); rintro e w1 ⟨rfl, g⟩))
        exact ⟨⟨m + 1, hi, by push_cast; rfl, rfl, by omega, by omega, B3, B2, chain bel g⟩, by simp [intOf]; omega⟩
      · have B3 : Hid (∀ i (h : i < L.length), m ≤ i → q ≤ L[i].q) := Lib.hid (fun i h hi3 => by
          rcases Nat.lt_or_eq_of_le hi3 with h4 | h4
          · have := SO.out m i m3 h h4; rw [← hy] at this; omega
          · subst h4; rw [← hy]; omega)
        have Z : ¬ z < 0 := by rw [hz]; exact fun h => hlk (cmpI_neg.1 h)
        clear hy hlk hz
        go_wp2_with (first | ((with_reducible refine wpList_load_part (o := ⟨some 28, _, _, _, _, _⟩) rfl 77 (.tmp 27) rfl _ (off + m * 36) rfl (snV y) _ RG Tryd.underlying77 rfl (infoSN y) ?_)) | ((with_reducible refine (CF.out _).mono ?_); rintro e w1 ⟨rfl, g⟩))
        exact ⟨⟨lo, m, rfl, rfl, by omega, by omega, B1, B3, chain bel g⟩, by simp [intOf]; omega⟩
    · obtain rfl : lo = hi := by omega
      obtain ⟨n, hpm⟩ : ∃ n, n = lo := ⟨_, rfl⟩
      subst hpm
      by_cases hp : n < L.length
      · have FP := Lib.hid (show ∀ b, b = decide ((L.getD n sn0).q = q) → FndP L q n b from fun b hb => ⟨by omega, fun i h hi => B1.out i h hi, fun i h hi => B2.out i h hi, by rw [hb, decide_eq_true hp, Bool.true_and]⟩)
        obtain ⟨b, off, rfl, hb, hcx0⟩ := RdK.cell snC_len (HRD.out.below bel (Nat.le_refl _)) n hp
        obtain ⟨y, hy⟩ : ∃ y, y = L[n]'hp := ⟨_, rfl⟩
        rw [← hy] at hcx0
        have RG := sn_range (show ∀ i, i < 36 → wr.cell? ⟨b, off + n * 36 + i, none⟩ = (snC y)[i]? from fun i hi => by rw [Nat.add_assoc]; exact hcx0 i hi)
        clear hcx0
        obtain ⟨z, hz⟩ : ∃ z, z = cmpI y.q q := ⟨_, rfl⟩
        have CF0 := fun w => findF_any y q w
        rw [← hz] at CF0
        have CF := Lib.hid CF0
        clear CF0
        obtain ⟨Zb, hZb⟩ : ∃ Zb, (z == 0) = Zb := ⟨_, rfl⟩
        have FQ := Lib.hid (show FndP L q n Zb from FP.out Zb (by
          rw [← hZb, hz, getD_at hp, ← hy]
          by_cases h0 : y.q = q
          · rw [decide_eq_true h0, cmpI_zero.2 h0]; rfl
          · rw [decide_eq_false h0]; exact beq_eq_false_iff_ne.2 (fun h => h0 (cmpI_zero.1 h))))
        have hpi : (n : Int) < L.length := by omega
        clear hy hz FP
        go_wp2_with (first | ((with_reducible refine wpList_load_part_g (o := ⟨some 44, _, _, _, _, _⟩) ?_ 77 (.tmp 43) rfl _ (off + n * 36) rfl (snV y) _ RG Tryd.underlying77 rfl (infoSN y) ?_); rfl) | ((with_reducible refine (CF.out _).mono ?_); rintro e w1 ⟨rfl, g⟩))
        go_ret2
        exact FndC.mk FQ.out (chain bel g)
      · have FQ := Lib.hid (show FndP L q n false from ⟨by omega, fun i h hi => B1.out i h hi, fun i h hi => B2.out i h hi, by rw [decide_eq_false hp, Bool.false_and]⟩)
        have hpn : decide ((n : Int) < (L.length : Int)) = false := decide_eq_false (by omega)
        have hpn2 : decide (n < L.length) = false := decide_eq_false hp
        go_wp2_with fail
        go_ret2
        exact FndC.mk FQ.out bel
theorem find14_any (v : Value) (L : List Sn) (q : Int) (w : World) (h : RdK 36 snC w v L) (h64 : L.length ≤ 64) (hs : SrtQ L) :
    Calls Tryd.prog 85 #[v, .int .i64 q] w (FndC w L q) := by
  have SE := search14_any v L q w h h64 hs
  obtain ⟨a, n, c, rfl⟩ : ∃ a n c, v = .slice a n c := by obtain ⟨a, c, e, _⟩ := h; exact ⟨_, _, _, e⟩
  clear h
  go_enter Tryd.func85, Tryd.ntmps85
  go_wp2_with fail
  refine SE.mono ?_
  rintro e w2 ⟨⟨n9, b9, rfl, hF⟩, g⟩
  have HF := Lib.hid hF
  clear hF
  go_wp2_with fail
  go_ret2
  exact FndC.mk HF.out g
theorem snap_info : ∃ i0, Tryd.prog.info? 77 = some i0 ∧ i0.zero = some (.agg zSN) ∧ i0.size = 36 ∧ i0.bytes = 544 := by
  have h : (Tryd.prog.info? 77).map (fun i => (i.zero, i.size, i.bytes)) = some (some (.agg zSN), 36, 544) := by kernel_rfl
  obtain ⟨i0, h1, h2, h3, h4⟩ := info_parts h
  exact ⟨i0, h1, h2, h3, h4⟩
/-- A call hands back a list of snaps in a row of its own. -/
def OwnSn (w : World) (L : List Sn) (e : Ending) (w' : World) : Prop := ∃ v', e = .returned v' ∧ w'.ownsRow w.heap.size 77 36 v' L.length (L.flatMap snC) ∧ Below w.heap.size w w'
set_option maxHeartbeats 1000000 in
theorem clone14_any (v : Value) (L : List Sn) (w : World) (h : RdK 36 snC w v L) (h66 : L.length ≤ 1000) :
    Calls Tryd.prog 84 #[v] w (OwnSn w L) := by
  obtain ⟨i0, hi, hz0, hz1, hz2⟩ := snap_info
  obtain ⟨ao, cap, rfl, hc, hm, hr⟩ := RdK.open h
  cases ao with
  | none =>
    have hcap : cap = 0 := by obtain ⟨_, _, he, _, _, h4, _⟩ := hr; cases he; exact h4 rfl
    obtain rfl : L = [] := List.eq_nil_of_length_eq_zero (by omega)
    subst hcap
    have hnil : ∀ W, (binOp .eql 70 (.slice none 0 0) (.slice none 0 0)).run Tryd.prog W = .ok (.bool true) W := fun W => Lib.run_eql_slice_nil_nil W 0 0 Tryd.underlying70
    clear h hr
    go_enter Tryd.func84, Tryd.ntmps84
    go_wp2_with fail
    go_ret
    exact ⟨_, rfl, World.ownsRow_nil _ _ _ _, Below.refl _ _⟩
  | some ad =>
    have hr : RdK 36 snC w (.slice (some ad) L.length cap) L := hr
    have HSZ := Lib.hid (show (w.alloc (.cells #[] 77)).heap.size = w.heap.size + 1 from by simp)
    have HLIT := Lib.hid (World.ownsRow_lit (e := 77) (size := 36) w #[] 0 (Nat.le_refl _) (by decide) rfl)
    have HRD := Lib.hid hr
    have hsome := fun W => Lib.run_eql_slice_some_nil (P := Tryd.prog) W ad L.length cap Tryd.underlying70
    clear h hr
    go_enter Tryd.func84, Tryd.ntmps84
    go_wp2_with (at_builtin; refine wpList_app_rdk snC_len (by decide) w rfl (.tmp 5) (.tmp 6) 70 rfl w.heap.size 77 i0 (.agg zSN) 544 Tryd.underlying70 hi hz0 hz1 hz2 rfl (.slice (some ⟨w.heap.size, 0, none⟩) 0 0) [] rfl HLIT.out (.slice (some ad) L.length cap) L rfl (HRD.out.below ((Below.refl _ _).alloc (Nat.le_refl _) _) (Nat.le_refl _)) snC_one (by unfold maxLen; simp; omega) (by simp; omega) (Nat.le_refl _) ((Below.refl _ _).alloc (Nat.le_refl _) _) ?_; intro v' w1 hown2 hb2 hq2; clear hq2)
    go_ret
    exact ⟨_, rfl, hown2, hb2⟩
end Go.Proofs.YtbdfcgffkonbiaaDoor
namespace Go.Proofs.YtbdfcgffkonbiaaDoor
open Go Go.RowKit
set_option linter.unusedVariables false
set_option linter.unusedSimpArgs false
theorem fold_putA : ∀ (l : List Value) (k off : Nat) (cells : Array Value), (l.zipIdx k).foldl (fun (cs : Array Value) (p : Value × Nat) => cs.setIfInBounds (off + p.2) p.1) cells = putA cells (off + k) l
  | [], _, _, _ => rfl
  | v :: r, k, off, cells => by
    rw [List.zipIdx_cons, List.foldl_cons, putA]
    exact fold_putA r (k + 1) off _
theorem fill_one {place : Nat → Option (Nat × Nat)} {cells cs : Array Value} {i off size : Nat} {v : Value} {rest : List (Nat × Value)} (hp : place i = some (off, size)) (hv : v.cells = cs) (hs : cs.size = size) (hb : off + size ≤ cells.size) :
    Instr.fill place cells ((i, v) :: rest) = Instr.fill place (putA cells off cs.toList) rest := by
  rw [Instr.fill, hp]
  simp only [hv, hs]
  rw [if_neg (by simp; omega)]
  congr 1
  rw [← Array.foldl_toList, Array.toList_zipIdx]
  exact fold_putA cs.toList 0 off cells
theorem putA_all {cells cs : Array Value} (h : cells.size = cs.size) : putA cells 0 cs.toList = cs := by
  apply Array.ext_getElem?
  intro i
  rcases Nat.lt_or_ge i cs.size with hi | hi
  · have := putA_in cs.toList 0 cells i (by simp; omega) (by simpa using hi)
    rw [Nat.zero_add] at this
    rw [this]; simp
  · rw [Array.getElem?_eq_none (by rw [putA_size]; omega), Array.getElem?_eq_none hi]
section
variable {P : Program}
theorem built_struct {t : TypeId} {it : TypeInfo} {z : Value} {places : List (Nat × Nat)} {parts : List (Nat × Value)} (h1 : P.info? t = some it) (h3 : it.zero = some z)
    (h4 : (match P.underlying t with | some (.struct fs) => fs.toList.mapM (fun f => (P.info? f.type).map fun i => (f.offset, i.size)) | _ => none) = some places) :
    P.built t parts = Instr.fill (places.toArray[·]?) z.cells parts := by
  unfold Program.built
  cases hu : P.underlying t with
  | none => rw [hu] at h4; cases h4
  | some d =>
    rw [hu] at h4
    cases d <;> first | (cases h4; done) | (simp only [h1, h3]; simp only [] at h4; rw [h4])
/-- A slice of one element of many cells is made. -/
theorem slice_one (w : World) (t e : TypeId) (cs z : Array Value) (ie : TypeInfo) (n : Nat) (hu : P.underlying t = some (.slice e)) (hie : P.info? e = some ie) (hz : ie.zero = some (.agg z)) (hn : ie.size = n) (hcs : cs.size = n) (h0 : 0 < n) (hsm : n ≤ 2 ^ 24) :
    (Instr.buildSlice t 1 #[(0, .agg cs)]).run P w = .ok (.slice (some ⟨w.heap.size, 0, none⟩) 1 1) (w.alloc (.cells cs e)) := by
  refine run_buildSlice w t e 1 _ cs ie (.agg z) hu hie hz (by rw [hn]; omega) (by rw [hn]; omega) ?_
  show Instr.fill _ _ [(0, Value.agg cs)] = some cs
  rw [fill_one (cs := cs) (off := 0) (size := n) (by simp [hn]) rfl hcs (by simp [hn]), Instr.fill]
  rw [putA_all (by simp [hn, hcs])]
end
end Go.Proofs.YtbdfcgffkonbiaaDoor
