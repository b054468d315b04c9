/- Keys: the parts of a key, one behind the other: the iterator; the list of them. -/
import Derived.Test.YtkcflkgfipfdfaaDoorK8G
namespace Go.Proofs.YtkcflkgfipfdfaaDoor
open Go Go.RowKit
attribute [local go_sem] Oper.semAt_some
set_option linter.unusedVariables false
set_option linter.unusedSimpArgs false
/-- The iterator draws, and turns its own cell. -/
def TwB (B : Nat) (X Y : World) : Prop := ∃ n v, Y = (X.drewN n).setCell ⟨B, 0, none⟩ v
/-- A round keeps the iterator's cell, and the table. -/
def KpB (B : Nat) (X Y : World) : Prop := X.heap.size ≤ Y.heap.size ∧ Y.heap[B]? = X.heap[B]? ∧ Y.heap[0]? = X.heap[0]?
theorem KpB.trans {B : Nat} {X Y Z : World} (h : KpB B X Y) (k : KpB B Y Z) : KpB B X Z := ⟨Nat.le_trans h.1 k.1, k.2.1.trans h.2.1, k.2.2.trans h.2.2⟩
theorem KpB.tab {B : Nat} {X Y : World} (h : KpB B X Y) (t : TabAt X) : TabAt Y := by
  refine ⟨Nat.lt_of_lt_of_le t.1 h.1, ?_, ?_⟩
  · rw [← t.2.1]; simp only [World.cell?, h.2.2]
  · rw [← t.2.2]; simp only [World.cell?, h.2.2]
theorem tab_set {B : Nat} {X : World} (t : TabAt X) (hB : 0 < B) (v : Value) : TabAt (X.setCell ⟨B, 0, none⟩ v) := by
  have e := set_old (w := X) (B := B) (i := 0) (k := 0) (u := v) (by omega)
  refine ⟨by simpa using t.1, ?_, ?_⟩
  · rw [← t.2.1]; simp only [World.cell?, e]
  · rw [← t.2.2]; simp only [World.cell?, e]
theorem tab_drew {X : World} (t : TabAt X) (n : Nat) : TabAt (X.drewN n) := t.below (below_drewN (Below.refl _ _))
theorem boxed_drew {X : World} {B : Nat} {t : TypeId} {v : Value} (h : Boxed X B t v) (n : Nat) : Boxed (X.drewN n) B t v := h
/-- How long the text in the iterator's cell is. -/
def lenAt (B : Nat) (w : World) : Nat := match w.cell? ⟨B, 0, none⟩ with
  | some (.string b) => b.size
  | _ => 0
theorem lenAt_of {B : Nat} {w : World} {s : List UInt8} {t : TypeId} (h : Boxed w B t (.string (str s))) : lenAt B w = s.length := by
  unfold lenAt; rw [h.cell]; exact str_size s
def boolOf : Value → Nat
  | .bool true => 1
  | _ => 0
theorem parts_any (s : List UInt8) (w : World) :
    Calls Tryd.prog 32 #[.string (str s)] w fun e w' => e = .returned (.func (.func 42) #[] #[.pointer (some ⟨w.heap.size, 0, none⟩)]) ∧ w' = w.alloc (.cells #[.string (str s)] 9) := by
  go_enter Tryd.func32, Tryd.ntmps32
  go_wp2_with fail
  go_ret
  exact ⟨rfl, rfl⟩
theorem isB_len {l : List UInt8} (h : isB l = true) : l.length ≤ 24 := by
  unfold isB patB at h
  simp only [Bool.and_eq_true, decide_eq_true_eq] at h
  exact h.2.1
def sv (x : List UInt8) : Value := .string (str x)
set_option maxRecDepth 100000 in
set_option maxHeartbeats 1000000 in
theorem parts_gives (n : Nat) (hn : 1 ≤ n) (B : Nat) (s : List UInt8) (hs : s.length ≤ maxLen) (hB : 0 < B) (w : World) (hbox : Boxed w B 9 (.string (str s))) (hT : TabAt w) :
    Gives Fence.wide n Tryd.prog 42 #[.pointer (some ⟨B, 0, none⟩)] (fun x : List UInt8 => #[Value.string (str x)]) (TwB B) (KpB B) (fun xs => xs = partsB s) (fun pre => pre <+: partsB s) 64 w := by
  intro l J Jx W hW hJT hJxT hY h0
  have hb0 : Boxed W B 9 (.string (str s)) := (hW.block _ hbox.lt).trans hbox
  have hT0 : TabAt W := hT.below hW
  refine callsIn_of_wp Tryd.func42 rfl trivial ?_ rfl
  simp only [Tryd.ntmps42, List.size_toArray, List.length_cons, List.length_nil, Nat.reduceAdd, Nat.reduceSub, Array.replicate_succ, Array.replicate_zero, List.push_toArray, List.append_toArray, List.nil_append, List.cons_append]
  clear hW hbox hT
  have hc0 := hb0.cell
  have IS := Lib.hid (is_any s hs)
  gi_wp2_with (refine ⟨trivial, ?_⟩; gi_at_call 12; refine (callsIn_wide.2 (IS.out _ hT0)).mono ?_; rintro e w' ⟨rfl, rfl⟩)
  clear hc0
  gi_loopw [3, 4] (fun m _ wr => ∃ (pre : List (List UInt8)) (s' : List UInt8) (b : Bool), m = .bool b ∧ Hid (partsB s = pre ++ if b = true then splitL s' else []) ∧ Hid (b = true → s'.length ≤ 24 ∧ pre.length + s'.length ≤ 24) ∧ Boxed wr B 9 (.string (str s')) ∧ TabAt wr ∧ J pre wr)
    (fun m _ wr => lenAt B wr + boolOf m)
  case atStart =>
    refine ⟨[], s, isB s, rfl, ?_, ?_, hb0, hT0, h0⟩
    · show partsB s = _
      unfold partsB
      simp
    · intro h
      have := isB_len h
      exact ⟨this, by simp; omega⟩
  case round =>
    obtain ⟨pre, s', b, rfl, hl, hs', hb, hT, hJ⟩ := hrel
    have hc := hb.cell
    have hf := hb.frozen
    cases b with
    | false =>
      gi_wp2
      go_end0
      exact ⟨⟨_, rfl⟩, .inl ⟨pre, by have := hl.out; simpa using this.symm, hJ⟩⟩
    | true =>
      have hlen := (hs'.out rfl).1
      have hplen := (hs'.out rfl).2
      have hl1 := hl.out
      rw [if_pos rfl] at hl1
      have hm : lenAt B wr = s'.length := lenAt_of hb
      have HM := Lib.hid hm
      clear hm hl hs'
      rcases byte_split s' with ⟨hno, hi⟩ | ⟨x, y, e, hx, hi⟩
      · have e1 : splitL s' = [s'] := by unfold splitL; rw [partsGo_none [] s' hno]; rfl
        rw [e1] at hl1
        have C := fun w => cut_any s' s' [] false w (fun w => cut0_no s' hi w)
        have HC := Lib.hid C
        have HL := Lib.hid hl1
        clear C hl1 e1 hno hi
        gi_wp2_with (refine ⟨trivial, ?_⟩; gi_at_call 43; refine (callsIn_wide.2 (HC.out _)).mono ?_; rintro e w' ⟨rfl, k, rfl⟩)
        have hJY := hJT _ _ _ hJ ⟨k, .string (str []), rfl⟩
        have hbY := (boxed_drew hb k).set (.string (str []))
        have hTY := tab_set (tab_drew hT k) hB (.string (str []))
        obtain ⟨Y, hYe⟩ : ∃ Y, Y = (World.drewN wr k).setCell ⟨B, 0, none⟩ (.string (str [])) := ⟨_, rfl⟩
        rw [← hYe] at hJY hbY hTY ⊢
        clear hYe hc hf
        obtain ⟨fn, tmps, assign, body, hy, hR⟩ := hY pre s' Y hJY (by omega)
        go_simp
        refine hR.mono ?_
        rintro e W3 (⟨rfl, hJ3, hk3⟩ | ⟨rfl, hJx3⟩)
        · have hb3 : Boxed W3 B 9 (.string (str [])) := hk3.2.1.trans hbY
          have hT3 := hk3.tab hTY
          have hm3 := Lib.hid (lenAt_of hb3)
          have HL3 : Hid (partsB s = (pre ++ [s']) ++ if false = true then splitL [] else []) := by
            show _ = _
            rw [HL.out]
            simp
          have HS3 : Hid (false = true → ([] : List UInt8).length ≤ 24 ∧ (pre ++ [s']).length + ([] : List UInt8).length ≤ 24) := fun h => by cases h
          clear hb hT hJY hbY hTY hJ
          gi_wp2
          go_roundw
          case rel => exact ⟨pre ++ [s'], [], false, rfl, HL3, HS3, hb3, hT3, hJ3⟩
          case measure => rw [HM.out, hm3.out]; simp [boolOf]; try omega
        · gi_wp2
          refine bodyPost_ret (results_none rfl _ _ _) rfl ?_
          refine ⟨⟨_, rfl⟩, .inr ⟨pre ++ [s'], ?_, hJx3⟩⟩
          rw [HL.out]
          exact List.prefix_refl _
      · have e1 : splitL s' = x :: splitL y := by unfold splitL; rw [e, partsGo_split [] x y hx]; rfl
        have hly : y.length + x.length + 1 = s'.length := by rw [e]; simp; omega
        rw [e1] at hl1
        have hsm : s'.length ≤ maxLen := by unfold maxLen; omega
        have C := fun w => cut_any s' x y true w (fun w => cut0_yes s' x y hsm x.length rfl e hi w)
        have HC := Lib.hid C
        have HL := Lib.hid hl1
        clear C hl1 e1 e hx hi
        gi_wp2_with (refine ⟨trivial, ?_⟩; gi_at_call 43; refine (callsIn_wide.2 (HC.out _)).mono ?_; rintro e w' ⟨rfl, k, rfl⟩)
        have hJY := hJT _ _ _ hJ ⟨k, .string (str y), rfl⟩
        have hbY := (boxed_drew hb k).set (.string (str y))
        have hTY := tab_set (tab_drew hT k) hB (.string (str y))
        obtain ⟨Y, hYe⟩ : ∃ Y, Y = (World.drewN wr k).setCell ⟨B, 0, none⟩ (.string (str y)) := ⟨_, rfl⟩
        rw [← hYe] at hJY hbY hTY ⊢
        clear hYe hc hf
        obtain ⟨fn, tmps, assign, body, hy, hR⟩ := hY pre x Y hJY (by omega)
        go_simp
        refine hR.mono ?_
        rintro e W3 (⟨rfl, hJ3, hk3⟩ | ⟨rfl, hJx3⟩)
        · have hb3 : Boxed W3 B 9 (.string (str y)) := hk3.2.1.trans hbY
          have hT3 := hk3.tab hTY
          have hm3 := Lib.hid (lenAt_of hb3)
          have HL3 : Hid (partsB s = (pre ++ [x]) ++ if true = true then splitL y else []) := by
            show _ = _
            rw [HL.out]
            simp
          have HS3 : Hid (true = true → y.length ≤ 24 ∧ (pre ++ [x]).length + y.length ≤ 24) := fun _ => ⟨by omega, by simp; omega⟩
          clear hb hT hJY hbY hTY hJ
          gi_wp2
          go_roundw
          case rel => exact ⟨pre ++ [x], y, true, rfl, HL3, fun _ => HS3.out trivial, hb3, hT3, hJ3⟩
          case measure => rw [HM.out, hm3.out]; simp [boolOf]; try omega
        · gi_wp2
          refine bodyPost_ret (results_none rfl _ _ _) rfl ?_
          refine ⟨⟨_, rfl⟩, .inr ⟨pre ++ [x], ?_, hJx3⟩⟩
          rw [HL.out]
          exact ⟨splitL y, by simp⟩
end Go.Proofs.YtkcflkgfipfdfaaDoor
