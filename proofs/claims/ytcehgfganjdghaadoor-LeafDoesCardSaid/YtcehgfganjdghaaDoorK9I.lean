/- Leaves: the chunks: the library's iterator, and the list of their encodings. Written by wip/tools/gen9i.py. -/
import Derived.Test.YtcehgfganjdghaaDoorK9H
import Derived.Test.YtcehgfganjdghaaDoorRng
import Derived.Sort.QuietIn
import Derived.Stop.RegionWithIn
namespace Go.Proofs.YtcehgfganjdghaaDoor
open Go Go.RowKit
attribute [local go_sem] Oper.semAt_some
set_option linter.unusedVariables false
set_option linter.unusedSimpArgs false
/-- How many items the chunk has that begins at i. -/
def mm (n i : Nat) : Nat := min 8 (n - i)
/-- Where chunks begin. -/
def starts (n : Nat) : List Nat := (List.range ((n + 7) / 8)).map (8 * ·)
def chunkAt (l : List It) (i : Nat) : List It := (l.drop i).take 8
def chunksL (l : List It) : List (List UInt8) := (starts l.length).map fun i => encC (chunkAt l i)
def ckV (ao : Option Addr) (n i : Nat) : Value := .slice (ao.map fun a => a.add (i * 5)) (mm n i) (mm n i)
def TwC (X Y : World) : Prop := ∃ n, Y = X.drewN n
def KpC (B : Nat) (X Y : World) : Prop := X.heap.size ≤ Y.heap.size ∧ Y.heap[B]? = X.heap[B]? ∧ Y.heap[B + 1]? = X.heap[B + 1]?
theorem KpC.trans {B : Nat} {X Y Z : World} (h : KpC B X Y) (k : KpC B Y Z) : KpC B X Z := ⟨Nat.le_trans h.1 k.1, k.2.1.trans h.2.1, k.2.2.trans h.2.2⟩
theorem starts_succ (j : Nat) : (List.range (j + 1)).map (8 * ·) = (List.range j).map (8 * ·) ++ [8 * j] := by
  rw [List.range_succ, List.map_append]; rfl
theorem chunk_any (ao : Option Addr) (n cap : Nat) (w : World) :
    Calls Tryd.prog 60 #[.slice ao n cap, .int .i64 8] w fun e w' => e = .returned (.func (.func 88) #[] #[.pointer (some ⟨w.heap.size, 0, none⟩), .pointer (some ⟨w.heap.size + 1, 0, none⟩)]) ∧ w' = (w.alloc (.cells #[.slice ao n cap] 22)).alloc (.cells #[.int .i64 8] 3) := by
  go_enter Tryd.func60, Tryd.ntmps60
  go_wp2_with fail
  go_ret
  exact ⟨by simp, rfl⟩
theorem boxed_drewC {X : World} {B : Nat} {t : TypeId} {v : Value} (h : Boxed X B t v) (n : Nat) : Boxed (X.drewN n) B t v := h
set_option maxRecDepth 100000 in
set_option maxHeartbeats 1000000 in
theorem chunk_gives (n : Nat) (hn : 1 ≤ n) (B : Nat) (ao : Option Addr) (len cap : Nat) (hlen : len ≤ 1000) (hc : len ≤ cap) (hcm : cap ≤ 9223372036854775807) (hao : 0 < len → ∃ b off, ao = some ⟨b, off, none⟩) (w : World) (hbox : Boxed w B 22 (.slice ao len cap)) (hbn : Boxed w (B + 1) 3 (.int .i64 8)) :
    Gives Fence.wide n Tryd.prog 88 #[.pointer (some ⟨B, 0, none⟩), .pointer (some ⟨B + 1, 0, none⟩)] (fun i : Nat => #[ckV ao len i]) TwC (KpC B) (fun xs => xs = starts len) (fun pre => True) 1000 w := by
  intro l J Jx W hW hJT hJxT hY h0
  have hb0 : Boxed W B 22 (.slice ao len cap) := (hW.block _ hbox.lt).trans hbox
  have hb1 : Boxed W (B + 1) 3 (.int .i64 8) := (hW.block _ hbn.lt).trans hbn
  obtain ⟨i0, hi, hz0, hz1, hz2⟩ := info_parts item_info
  refine callsIn_of_wp Tryd.func88 rfl trivial ?_ rfl
  simp only [Tryd.ntmps88, List.size_toArray, List.length_cons, List.length_nil, Nat.reduceAdd, Nat.reduceSub, Array.replicate_succ, Array.replicate_zero, List.push_toArray, List.append_toArray, List.nil_append, List.cons_append]
  clear hW hbox hbn
  gi_wp2
  gi_loopw [4] (fun i wr => ∃ j : Nat, i = .int .i64 ((8 * j : Nat) : Int) ∧ Hid (j = 0 ∨ 8 * (j - 1) < len) ∧ 8 * j ≤ len + 8 ∧ Boxed wr B 22 (.slice ao len cap) ∧ Boxed wr (B + 1) 3 (.int .i64 8) ∧ J ((List.range j).map (8 * ·)) wr)
    (fun i wr => 2000 - (intOf i).toNat)
  case atStart => exact ⟨0, rfl, .inl rfl, by omega, hb0, hb1, h0⟩
  case round =>
    obtain ⟨j, rfl, hj0, hj8, hb, hbn, hJ⟩ := hrel
    have hc0 := hb.cell
    have hc1 := hbn.cell
    obtain ⟨i, hij⟩ : ∃ i, i = 8 * j := ⟨_, rfl⟩
    rw [← hij] at hj8 ⊢
    have HIJ := Lib.hid hij
    clear hij
    by_cases hlt : i < len
    · obtain ⟨b, off, rfl⟩ := hao (by omega)
      obtain ⟨m, hm⟩ : ∃ m, m = mm len i := ⟨_, rfl⟩
      have hm1 : 1 ≤ m := by rw [hm]; unfold mm; omega
      have hm2 : i + m ≤ len := by rw [hm]; unfold mm; omega
      have hm8 : m ≤ 8 := by rw [hm]; unfold mm; omega
      have hcut : ckV (some ⟨b, off, none⟩) len i = .slice (some ⟨b, off + i * 5, none⟩) m m := by unfold ckV; rw [← hm, Option.map_some, Addr.add_lit]
      have hmin : min (8 : Int) ((len : Int) - (i : Int)) = (m : Int) := by rw [hm]; unfold mm; omega
      have hmin2 : min 8 (len - i) = m := by rw [hm]; rfl
      have hmin3 : min (8 : Int) ((len - i : Nat) : Int) = (m : Int) := by rw [hm]; unfold mm; omega
      have e9 : i + m - i = m := by omega
      have e10 : ((i : Int) + (m : Int)).toNat = i + m := by omega
      have hne : ¬ cap = i := by omega
      have HM := Lib.hid hm
      have HCUT := Lib.hid hcut
      clear hm hcut
      gi_wp2
      gi_quiet (fail)
      have hJY := hJT _ _ _ hJ ⟨nq, rfl⟩
      have hbY := boxed_drewC hb nq
      have hbnY := boxed_drewC hbn nq
      obtain ⟨Y, hYe⟩ : ∃ Y, Y = World.drewN wr nq := ⟨_, rfl⟩
      rw [← hYe] at hJY hbY hbnY ⊢
      clear hYe hc0 hc1 hb hbn hJ
      have hc0 := hbY.cell
      have hc1 := hbnY.cell
      obtain ⟨fn, tmps, assign, body, hy, hR⟩ := hY _ i Y hJY (by simp; have := HIJ.out; omega)
      rw [HCUT.out] at hy
      gi_wp2
      refine hR.mono ?_
      rintro e W3 (⟨rfl, hJ3, hk3⟩ | ⟨rfl, hJx3⟩)
      · have hb3 := hk3.2.1.trans hbY
        have hbn3 := hk3.2.2.trans hbnY
        have hc3 := Boxed.cell hb3
        have hcn3 := Boxed.cell hbn3
        have hJ4 : J ((List.range (j + 1)).map (8 * ·)) W3 := by rw [starts_succ, ← HIJ.out]; exact hJ3
        clear hJY hbY hbnY hy hR hJ3 hc0 hc1 hY
        have HJ4 := Lib.hid hJ4
        clear hJ4
        gi_wp2
        go_roundw
        case rel => exact ⟨j + 1, by rw [HIJ.out]; push_cast; rfl, .inr (by have := HIJ.out; omega), by have := HIJ.out; omega, hb3, hbn3, HJ4.out⟩
        case measure => have := HIJ.out; simp [intOf]; omega
      · gi_wp2
        refine bodyPost_ret (results_none rfl _ _ _) rfl ?_
        exact ⟨⟨_, rfl⟩, .inr ⟨_, trivial, hJx3⟩⟩
    · have hst : starts len = (List.range j).map (8 * ·) := by
        unfold starts
        have := hj0.out
        have := HIJ.out
        congr 2
        omega
      have HST := Lib.hid hst
      clear hst
      gi_wp2
      go_end0
      exact ⟨⟨_, rfl⟩, .inl ⟨_, HST.out.symm, hJ⟩⟩
end Go.Proofs.YtcehgfganjdghaaDoor
