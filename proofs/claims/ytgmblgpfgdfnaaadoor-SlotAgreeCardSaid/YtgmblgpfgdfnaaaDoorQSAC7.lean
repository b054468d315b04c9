/- Quorums: the numbers of a set, one behind the other: the iterator. -/
import Derived.Test.YtgmblgpfgdfnaaaDoorQSAC5
import Derived.Test.YtgmblgpfgdfnaaaDoorQSAC6
namespace Go.Proofs.YtgmblgpfgdfnaaaDoor
open Go Go.RowKit
attribute [local go_sem] Oper.semAt_some
set_option linter.unusedVariables false
set_option linter.unusedSimpArgs false
/-- The iterator turns its own cell. -/
def TwB (B : Nat) (X Y : World) : Prop := ∃ v, Y = X.setCell ⟨B, 0, none⟩ v
/-- A round keeps the iterator's cell, and the library's table. -/
def KpB (B : Nat) (X Y : World) : Prop := X.heap.size ≤ Y.heap.size ∧ Y.heap[B]? = X.heap[B]? ∧ Y.heap[0]? = X.heap[0]?
theorem KpB.trans {B : Nat} {X Y Z : World} (h : KpB B X Y) (k : KpB B Y Z) : KpB B X Z := ⟨Nat.le_trans h.1 k.1, k.2.1.trans h.2.1, k.2.2.trans h.2.2⟩
theorem KpB.tab {B : Nat} {X Y : World} (h : KpB B X Y) (t : TabAt X) : TabAt Y :=
  ⟨Nat.lt_of_lt_of_le t.1 h.1, fun i hi => by rw [← t.2 i hi]; simp only [World.cell?, h.2.2]⟩
theorem tab_set {B : Nat} {X : World} (t : TabAt X) (hB : 0 < B) (v : Value) : TabAt (X.setCell ⟨B, 0, none⟩ v) := by
  refine ⟨by simpa using t.1, fun i hi => ?_⟩
  rw [← t.2 i hi]
  simp only [World.cell?, set_old (w := X) (B := B) (i := 0) (k := 0) (u := v) (by omega)]
/-- What the iterator's cell holds. -/
def setAt (B : Nat) (w : World) : Nat := match w.cell? ⟨B, 0, none⟩ with
  | some (.int _ z) => z.toNat
  | _ => 0
theorem setAt_of {B : Nat} {w : World} {s : Nat} {t : TypeId} (h : Boxed w B t (.int .u64 (s : Int))) : setAt B w = s := by
  unfold setAt; rw [h.cell]; rfl
theorem numbers_any (s : Nat) (w : World) :
    Calls Tryd.prog 59 #[.int .u64 (s : Int)] w fun e w' => e = .returned (.func (.func 62) #[] #[.pointer (some ⟨w.heap.size, 0, none⟩)]) ∧ w' = w.alloc (.cells #[.int .u64 (s : Int)] 67) := by
  go_enter Tryd.func59, Tryd.ntmps59
  go_wp2_with fail
  go_ret
  exact ⟨rfl, rfl⟩
theorem sub_and (x y : Nat) (hx : x < 18446744073709551616) (h0 : 0 < x) (h : x &&& (x - 1) = y) : bits .and .u64 (x : Int) ((x : Int) - 1) = (y : Int) := by
  have e : (x : Int) - 1 = ((x - 1 : Nat) : Int) := by omega
  rw [e, and_p x (x - 1) y hx (by omega) h]
set_option maxRecDepth 100000 in
set_option maxHeartbeats 1000000 in
theorem nums_gives (n : Nat) (hn : 1 ≤ n) (B s : Nat) (hs : s < 18446744073709551616) (hB : 0 < B) (w : World) (hbox : Boxed w B 67 (.int .u64 (s : Int))) (hT : TabAt w) :
    Gives Fence.wide n Tryd.prog 62 #[.pointer (some ⟨B, 0, none⟩)] (fun x : Nat => #[Value.int .i64 (x : Int)]) (TwB B) (KpB B) (fun xs => xs = listN s) (fun pre => pre <+: listN s) 64 w := by
  intro l J Jx W hW hJT hJxT hY h0
  have hb0 : Boxed W B 67 (.int .u64 (s : Int)) := (hW.block _ hbox.lt).trans hbox
  have hT0 : TabAt W := hT.below hW hT.1
  refine callsIn_of_wp Tryd.func62 rfl trivial ?_ rfl
  simp only [Tryd.ntmps62, List.size_toArray, List.length_cons, List.length_nil, Nat.reduceAdd, Nat.reduceSub, Array.replicate_succ, Array.replicate_zero, List.push_toArray, List.append_toArray, List.nil_append, List.cons_append]
  clear hW hbox hT
  gi_wp2
  gi_loopw [3] (fun p wr => ∃ (pre : List Nat) (s' : Nat), Hid (listN s = pre ++ listN s') ∧ Hid (s' < 18446744073709551616) ∧ Boxed wr B 67 (.int .u64 (s' : Int)) ∧ TabAt wr ∧ J pre wr)
    (fun p wr => setAt B wr)
  case atStart => exact ⟨[], s, rfl, hs, hb0, hT0, h0⟩
  case round =>
    obtain ⟨pre, s', hl, hs', hb, hT, hJ⟩ := hrel
    have hc := hb.cell
    have hf := hb.frozen
    rcases Nat.eq_zero_or_pos s' with rfl | hpos
    · gi_wp2
      go_end0
      exact ⟨⟨_, rfl⟩, .inl ⟨pre, by have := hl.out; rw [list_zero, List.append_nil] at this; exact this.symm, hJ⟩⟩
    · obtain ⟨k, m, ek⟩ := odd_part s' s' (Nat.le_refl _) hpos
      have hk : k < 64 := by
        have h1 : 2 ^ k < 2 ^ 64 := Nat.lt_of_le_of_lt (show 2 ^ k ≤ s' by rw [ek]; exact Nat.le_add_left _ _) (by simpa using hs'.out)
        exact (Nat.pow_lt_pow_iff_right (by decide)).1 h1
      have e1 : listN s' = k :: listN (2 ^ (k + 1) * m) := by rw [ek]; exact list_low k m hk
      have e2 : s' &&& (s' - 1) = 2 ^ (k + 1) * m := by
        have := drop_low k m
        rw [← ek] at this
        exact this
      have hlt2 : 2 ^ (k + 1) * m < s' := by
        have := Nat.two_pow_pos k
        rw [ek]; omega
      have L := fun w ht => low_any k m hk s' ek hs'.out w ht
      have E3 := sub_and s' _ hs'.out hpos e2
      have hlen : pre.length < 64 := by
        have h1 := congrArg List.length hl.out
        rw [e1] at h1
        have h2 := list_len s
        have h3 := pop_le 64 s
        simp at h1; omega
      generalize 2 ^ (k + 1) * m = s2 at e1 e2 hlt2 E3
      have E1 := Lib.hid e1
      have EL := Lib.hid L
      have HS := hs'.out
      clear e1 e2 ek L
      obtain ⟨fn, tmps, assign, body, hy, hR⟩ := hY pre k wr hJ hlen
      gi_wp2_with (refine ⟨trivial, ?_⟩; gi_at_call 63; refine (callsIn_wide.2 (EL.out _ hT)).mono ?_; rintro e w' ⟨rfl, rfl⟩)
      refine hR.mono ?_
      rintro e W3 (⟨rfl, hJ3, hk3⟩ | ⟨rfl, hJx3⟩)
      · have hb3 : Boxed W3 B 67 (.int .u64 (s' : Int)) := hk3.2.1.trans hb
        have hT3 := hk3.tab hT
        have hc3 := hb3.cell
        have hf3 := hb3.frozen
        have hJ4 := hJT _ _ _ hJ3 ⟨.int .u64 (s2 : Int), rfl⟩
        have hb4 := hb3.set (.int .u64 (s2 : Int))
        have hT4 := tab_set hT3 hB (.int .u64 (s2 : Int))
        have hm : setAt B wr = s' := setAt_of hb
        have hm4 := setAt_of hb4
        have HM := Lib.hid hm
        have HM4 := Lib.hid hm4
        have hl4 : listN s = (pre ++ [k]) ++ listN s2 := by rw [hl.out, E1.out]; simp
        have HL4 := Lib.hid hl4
        clear hl4 hm hm4 hb hc hf hT
        gi_wp2
        go_roundw
        case rel => exact ⟨pre ++ [k], s2, HL4, show _ < _ by omega, hb4, hT4, hJ4⟩
        case measure => rw [HM.out, HM4.out]; exact hlt2
      · gi_wp2
        refine bodyPost_ret (results_none rfl _ _ _) rfl ?_
        exact ⟨⟨_, rfl⟩, .inr ⟨pre ++ [k], ⟨listN s2, by rw [hl.out, E1.out]; simp⟩, hJx3⟩⟩
end Go.Proofs.YtgmblgpfgdfnaaaDoor
