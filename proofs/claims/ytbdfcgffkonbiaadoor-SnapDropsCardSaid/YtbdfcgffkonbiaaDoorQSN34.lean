/- Snaps: follows, Check, is; the document's Check, Is. Written by wip/tools/gen14b.py. -/
import Derived.Test.YtbdfcgffkonbiaaDoorQSN30
import Derived.Test.YtbdfcgffkonbiaaDoorQSN33
namespace Go.Proofs.YtbdfcgffkonbiaaDoor
open Go Go.RowKit
set_option linter.unusedVariables false
set_option linter.unusedSimpArgs false
def zSN : Array Value := #[.int .i64 0, .slice none 0 0, .slice none 0 0, .slice none 0 0, .slice none 0 0, .slice none 0 0, .slice none 0 0, .slice none 0 0, .slice none 0 0, .slice none 0 0, .slice none 0 0, .slice none 0 0, .slice none 0 0, .slice none 0 0, .slice none 0 0, .slice none 0 0, .slice none 0 0, .int .i64 0, .int .i64 0, .int .i64 0, .int .i64 0, .int .i64 0, .int .i64 0, .int .i64 0, .int .i64 0, .int .i64 0, .int .i64 0, .int .i64 0, .int .i64 0, .int .i64 0, .int .i64 0, .int .i64 0, .int .i64 0, .int .i64 0, .int .i64 0, .int .i64 0]
theorem zeroSN_run (w : World) : (zeroValue 77).run Tryd.prog w = .ok (.agg zSN) w := by kernel_rfl
theorem zSN_ne : zSN ≠ #[] := by simp [zSN]
theorem zSN_size : zSN.size = 36 := rfl
def snV (x : Sn) : Array Value := (snC x).toArray
theorem snV_size (x : Sn) : (snV x).size = 36 := by unfold snV; rw [List.size_toArray, snC_len]
theorem info36 : (Tryd.prog.info? 77).map (·.size) = some 36 := by kernel_rfl
theorem infoSN (x : Sn) : (Tryd.prog.info? 77).map (·.size) = some (snV x).size := by rw [snV_size]; exact info36
theorem snV_0 (x : Sn) : (snV x)[0]? = some (.int .i64 x.q) := by simp [snV, snC]
theorem snV_at (x : Sn) (i : Nat) : (snV x)[i + 1]? = (snA x)[i]? := by simp [snV, snC, snA, stA]
/-- The cells of a snap, out of a row of them. -/
theorem sn_range {w : World} {b o : Nat} {x : Sn} (h : ∀ i, i < 36 → w.cell? ⟨b, o + i, none⟩ = (snC x)[i]?) : w.rangeAt b o (snV x).toList := fun j v hv => by
  have hv2 : (snC x)[j]? = some v := hv
  have hj := (List.getElem?_eq_some_iff.1 hv2).1
  rw [snC_len] at hj
  rw [h j hj, hv2]
theorem sn_store {w : World} {b o : Nat} {x : Sn} (h : ∀ i, i < 36 → w.cell? ⟨b, o + i, none⟩ = (snC x)[i]?) : w.rangeAt b (o + 1) (snA x).toList := fun j v hv => by
  have hj := (List.getElem?_eq_some_iff.1 hv).1
  rw [Array.length_toList, snA_size] at hj
  have h1 := h (j + 1) (by omega)
  rw [show o + 1 + j = o + (j + 1) by omega, h1]
  have h2 := snV_at x j
  rw [Array.getElem?_toList] at hv
  rw [hv] at h2
  simpa [snV] using h2
theorem sn_trunk {w : World} {b o : Nat} {x : Sn} (h : ∀ i, i < 36 → w.cell? ⟨b, o + i, none⟩ = (snC x)[i]?) : w.rangeAt b (o + 1) (tC (snA x)).toList := fun j v hv => by
  refine sn_store h j v ?_
  have hj := (List.getElem?_eq_some_iff.1 hv).1
  rw [Array.length_toList, tC_size (snA_size x)] at hj
  rw [Array.getElem?_toList, tC_at hj] at hv
  rw [Array.getElem?_toList]; exact hv
theorem infoSA (x : Sn) : (Tryd.prog.info? 28).map (·.size) = some (snA x).size := infoS (snA_size x)
theorem blk_cells {w : World} {g : Nat} {x : Sn} {t : TypeId} (h : w.heap[g]? = some (.cells (snV x) t (0, 0))) : ∀ i, i < 36 → w.cell? ⟨g, 0 + i, none⟩ = (snC x)[i]? := fun i hi => by
  rw [Nat.zero_add, block_cell h i]; simp [snV]
theorem snV_one {w : World} {x : Sn} (h : RdS w (snA x) x.s) : (snV x).all (·.oneCell') = true := by
  exact Array.all_eq_true_iff_forall_mem.2 fun u hu => snC_one x u (by simpa [snV] using hu)
/-- May one snap come right behind another one? -/
def folB (a x : Sn) : Bool := decide (a.q < x.q) && decide (a.s.ver ≤ x.s.ver) && decide (x.s.by_ = a.s.by_) && decide (x.s.ke = a.s.ke)
def snBad (L : List Sn) (i : Nat) : Nat := if (L.getD i sn0).q < 0 ∨ mayS (L.getD i sn0).s = false then 1 else if 0 < i ∧ folB (L.getD (i - 1) sn0) (L.getD i sn0) = false then 3 else 0
def badGo (L : List Sn) : Nat → Nat → Nat × Nat
  | 0, _ => (0, 0)
  | n + 1, i => if snBad L i = 0 then badGo L n (i + 1) else (snBad L i, i)
/-- What is wrong with a list of snaps, and where. -/
def chk14 (L : List Sn) : Nat × Nat := if 8 < L.length then (5, 8) else badGo L L.length 0
theorem badGo_bad {L : List Sn} {i c : Nat} (hi : i < L.length) (h : snBad L i = c) (hc : c ≠ 0) : badGo L (L.length - i) i = (c, i) := by
  obtain ⟨m, hm⟩ : ∃ m, L.length - i = m + 1 := ⟨L.length - i - 1, by omega⟩
  rw [hm, badGo, h, if_neg hc]
theorem badGo_next {L : List Sn} {i : Nat} (hi : i < L.length) (h : snBad L i = 0) : badGo L (L.length - i) i = badGo L (L.length - (i + 1)) (i + 1) := by
  obtain ⟨m, hm⟩ : ∃ m, L.length - i = m + 1 := ⟨L.length - i - 1, by omega⟩
  rw [hm, badGo, if_pos h, show L.length - (i + 1) = m by omega]
theorem getD_at {L : List Sn} {i : Nat} (h : i < L.length) : L.getD i sn0 = L[i] := by simp [List.getD, h]
theorem bad_q {L : List Sn} {i : Nat} (hi : i < L.length) (h : L[i].q < 0) : snBad L i = 1 := by unfold snBad; rw [getD_at hi, if_pos (.inl h)]
theorem bad_may {L : List Sn} {i : Nat} (hi : i < L.length) (h : mayS L[i].s = false) : snBad L i = 1 := by unfold snBad; rw [getD_at hi, if_pos (.inr h)]
theorem bad_fol {L : List Sn} {i : Nat} (hi : i + 1 < L.length) (h1 : ¬ L[i + 1].q < 0) (h2 : mayS L[i + 1].s = true) (h : folB L[i] L[i + 1] = false) : snBad L (i + 1) = 3 := by
  unfold snBad; rw [getD_at hi, if_neg (by rintro (h | h); exact h1 h; rw [h2] at h; cases h), Nat.add_sub_cancel, getD_at (by omega : i < L.length), if_pos ⟨by omega, h⟩]
theorem bad_no0 {L : List Sn} (hi : 0 < L.length) (h1 : ¬ L[0].q < 0) (h2 : mayS L[0].s = true) : snBad L 0 = 0 := by
  unfold snBad; rw [getD_at hi, if_neg (by rintro (h | h); exact h1 h; rw [h2] at h; cases h), if_neg (by rintro ⟨h, _⟩; omega)]
theorem bad_no {L : List Sn} {i : Nat} (hi : i + 1 < L.length) (h1 : ¬ L[i + 1].q < 0) (h2 : mayS L[i + 1].s = true) (h : folB L[i] L[i + 1] = true) : snBad L (i + 1) = 0 := by
  unfold snBad; rw [getD_at hi, if_neg (by rintro (h | h); exact h1 h; rw [h2] at h; cases h), Nat.add_sub_cancel, getD_at (by omega : i < L.length), if_neg (by rintro ⟨_, h3⟩; rw [h] at h3; cases h3)]
def LenSn (l : List Sn) : Prop := ∀ x ∈ l, ∀ b, b < 16 → (x.s.lv b).length ≤ 100
set_option maxRecDepth 100000 in
set_option maxHeartbeats 1000000 in
theorem follows_any (a x : Sn) (w : World) (ha : RdS w (snA a) a.s) (hx : RdS w (snA x) x.s) :
    Calls Tryd.prog 82 #[.agg (snV a), .agg (snV x)] w fun e w' => e = .returned (.bool (folB a x)) ∧ Below w.heap.size w w' := by
  obtain ⟨q2, q3, -, -⟩ := two_allocs w (.cells (snV a) 77) (.cells (snV x) 77)
  have bel : Below w.heap.size w ((w.alloc (.cells (snV a) 77)).alloc (.cells (snV x) 77)) := ((Below.refl _ w).alloc (Nat.le_refl _) _).alloc (by simp) _
  have a0 := (block_cell q2 0).trans (snV_0 a)
  have a1 := (block_cell q2 33).trans ((snV_at a 32).trans ha.ver)
  have a2 := (block_cell q2 34).trans ((snV_at a 33).trans ha.by_)
  have a3 := (block_cell q2 35).trans ((snV_at a 34).trans ha.ke)
  have b0 := (block_cell q3 0).trans (snV_0 x)
  have b1 := (block_cell q3 33).trans ((snV_at x 32).trans hx.ver)
  have b2 := (block_cell q3 34).trans ((snV_at x 33).trans hx.by_)
  have b3 := (block_cell q3 35).trans ((snV_at x 34).trans hx.ke)
  obtain ⟨R, hR⟩ : ∃ R, R = folB a x := ⟨_, rfl⟩
  rw [← hR]
  unfold folB at hR
  obtain ⟨QA, hQA⟩ : ∃ z, z = a.q := ⟨_, rfl⟩
  obtain ⟨QX, hQX⟩ : ∃ z, z = x.q := ⟨_, rfl⟩
  obtain ⟨VA, hVA⟩ : ∃ z, z = a.s.ver := ⟨_, rfl⟩
  obtain ⟨VX, hVX⟩ : ∃ z, z = x.s.ver := ⟨_, rfl⟩
  obtain ⟨BA, hBA⟩ : ∃ z, z = a.s.by_ := ⟨_, rfl⟩
  obtain ⟨BX, hBX⟩ : ∃ z, z = x.s.by_ := ⟨_, rfl⟩
  obtain ⟨KA, hKA⟩ : ∃ z, z = a.s.ke := ⟨_, rfl⟩
  obtain ⟨KX, hKX⟩ : ∃ z, z = x.s.ke := ⟨_, rfl⟩
  rw [← hQA, ← hQX, ← hVA, ← hVX, ← hBA, ← hBX, ← hKA, ← hKX] at hR
  rw [← hQA] at a0
  rw [← hVA] at a1
  rw [← hBA] at a2
  rw [← hKA] at a3
  rw [← hQX] at b0
  rw [← hVX] at b1
  rw [← hBX] at b2
  rw [← hKX] at b3
  have HR := Lib.hid hR
  clear hR hQA hQX hVA hVX hBA hBX hKA hKX ha hx
  by_cases k0 : QA < QX
  · have t0 : decide (QA < QX) = true := decide_eq_true k0
    by_cases k1 : VA ≤ VX
    · have t1 : decide (VA ≤ VX) = true := decide_eq_true k1
      by_cases k2 : BX = BA
      · have t2 : decide (BX = BA) = true := decide_eq_true k2
        have s2 : (BX == BA) = true := by simp [k2]
        by_cases k3 : KX = KA
        · have t3 : decide (KX = KA) = true := decide_eq_true k3
          have s3 : (KX == KA) = true := by simp [k3]
          have E := Lib.hid (show R = true by rw [HR.out]; simp [t0, t1, t2, t3])
          go_enter Tryd.func82, Tryd.ntmps82
          go_wp2_with fail
          go_ret
          exact ⟨by rw [E.out]; rfl, bel⟩
        · have t3 : decide (KX = KA) = false := decide_eq_false k3
          have s3 : (KX == KA) = false := by simp [k3]
          have E := Lib.hid (show R = false by rw [HR.out]; simp [t3])
          go_enter Tryd.func82, Tryd.ntmps82
          go_wp2_with fail
          go_ret
          exact ⟨by rw [E.out]; rfl, bel⟩
      · have t2 : decide (BX = BA) = false := decide_eq_false k2
        have s2 : (BX == BA) = false := by simp [k2]
        have E := Lib.hid (show R = false by rw [HR.out]; simp [t2])
        go_enter Tryd.func82, Tryd.ntmps82
        go_wp2_with fail
        go_ret
        exact ⟨by rw [E.out]; rfl, bel⟩
    · have t1 : decide (VA ≤ VX) = false := decide_eq_false k1
      have E := Lib.hid (show R = false by rw [HR.out]; simp [t1])
      go_enter Tryd.func82, Tryd.ntmps82
      go_wp2_with fail
      go_ret
      exact ⟨by rw [E.out]; rfl, bel⟩
  · have t0 : decide (QA < QX) = false := decide_eq_false k0
    have E := Lib.hid (show R = false by rw [HR.out]; simp [t0])
    go_enter Tryd.func82, Tryd.ntmps82
    go_wp2_with fail
    go_ret
    exact ⟨by rw [E.out]; rfl, bel⟩
end Go.Proofs.YtbdfcgffkonbiaaDoor
