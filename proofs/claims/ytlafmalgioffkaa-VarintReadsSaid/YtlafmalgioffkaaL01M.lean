/- The reader of layer 1: its small functions. Written by wip/tools/gen1r.py. -/
import Derived.Test.YtlafmalgioffkaaL01T
import Derived.Test.YtlafmalgioffkaaReg
import Derived.Test.YtlafmalgioffkaaMem
import Derived.Laws.ByValue
namespace Go.Proofs.Ytlafmalgioffkaa
open Go.RowKit
set_option linter.unusedVariables false
set_option linter.unusedSimpArgs false
theorem cells3 {w : World} {B : Nat} {a0 a1 a2 : Value} {t : TypeId} (h : w.heap[B]? = some (.cells #[a0, a1, a2] t (0, 0))) :
    w.cell? ⟨B, 0, none⟩ = some a0 ∧ w.cell? ⟨B, 1, none⟩ = some a1 ∧ w.cell? ⟨B, 2, none⟩ = some a2 ∧ ∀ i, w.frozen? ⟨B, i, none⟩ = false := by
  refine ⟨?_, ?_, ?_, fun i => block_frozen h i⟩
  all_goals simp [World.cell?, h]
/-- A reader: what it reads, where it is, what went wrong. -/
def RS (w : World) (B : Nat) (v : Value) (l : List UInt8) (at_ err : Nat) : Prop :=
  w.heap[B]? = some (.cells #[v, .int .i64 (at_ : Int), .int .i64 (err : Int)] 82 (0, 0)) ∧ at_ ≤ l.length ∧ l.length ≤ 2000 ∧ Hid (∀ w', (∀ k, k < B → w'.heap[k]? = w.heap[k]?) → Rd w' v l)
/-- What the document's reader keeps. -/
def TS (w : World) (B : Nat) (l : List UInt8) (at_ err : Nat) : Prop :=
  w.heap[B]? = some (.cells #[.string (str l), .int .i64 (at_ : Int), .int .i64 (err : Int)] 65 (0, 0)) ∧ at_ ≤ l.length ∧ l.length ≤ 2000
theorem grown_of_below {w w' : World} {r : Option Nat} (h : Below w.heap.size w w') : w.grownBy w' r := ⟨h.os, h.tape, h.output, h.size, fun k hk _ => h.block k hk⟩
theorem RS.rd {w : World} {B : Nat} {v : Value} {l : List UInt8} {at_ err : Nat} (h : RS w B v l at_ err) : Rd w v l := h.2.2.2.out _ fun _ _ => rfl
theorem RS.below {w w' : World} {B : Nat} {v : Value} {l : List UInt8} {at_ err : Nat} (h : RS w B v l at_ err) (hb : Below w.heap.size w w') : RS w' B v l at_ err :=
  ⟨(hb.block _ (lt_of_block h.1)).trans h.1, h.2.1, h.2.2.1, Lib.hid fun w'' hg => h.2.2.2.out w'' fun k hk => (hg k hk).trans (hb.block k (Nat.lt_trans hk (lt_of_block h.1)))⟩
theorem TS.below {w w' : World} {B : Nat} {l : List UInt8} {at_ err : Nat} (h : TS w B l at_ err) (hb : Below w.heap.size w w') : TS w' B l at_ err :=
  ⟨(hb.block _ (lt_of_block h.1)).trans h.1, h.2.1, h.2.2⟩
theorem RS.other {w w' : World} {B D : Nat} {v : Value} {l : List UInt8} {at_ err : Nat} (h : RS w B v l at_ err) (hg : w.grownBy w' (some D)) (hd : B < D) : RS w' B v l at_ err :=
  ⟨(hg.block B (lt_of_block h.1) (by simpa using (by omega : B ≠ D))).trans h.1, h.2.1, h.2.2.1, Lib.hid fun w'' hk => h.2.2.2.out w'' fun k k1 => (hk k k1).trans (hg.block k (Nat.lt_trans k1 (lt_of_block h.1)) (by simpa using (by omega : k ≠ D)))⟩
theorem TS.other {w w' : World} {B D : Nat} {l : List UInt8} {at_ err : Nat} (h : TS w D l at_ err) (hg : w.grownBy w' (some B)) (hd : B < D) : TS w' D l at_ err :=
  ⟨(hg.block D (lt_of_block h.1) (by simpa using (by omega : D ≠ B))).trans h.1, h.2.1, h.2.2⟩
theorem slice_op {op : Oper} {a : Act} {w : World} (T e : TypeId) (s x : Operand) (ho : op.op = .slice T s (some x) none none) (ti : TypeInfo) (ht : Try.prog.underlying T = some (.slice e)) (hi : Try.prog.info? e = some ti) (hz : ti.size = 1)
    (ao : Option Addr) (n cap : Nat) (hs : a.eval s = .slice ao n cap) (kx : IntKind) (X : Int) (hx : a.eval x = .int kx X) (i : Nat) (h0 : X = (i : Int)) (h2 : i ≤ n) (hnc : n ≤ cap) (z : Value) (hz2 : z = .slice (if cap = i then ao else ao.map (·.add (i * 1))) (n - i) (cap - i)) :
    (execOp a.eval op).run Try.prog w = .ok (.value z) w := by
  subst hz2
  have h0' : 0 ≤ X := by omega
  have e1 : X.toNat = i := by omega
  subst h0
  simp [execOp, ho, hs, hx, Instr.sliceAt, Instr.slice, run_underlying ht, Instr.sliceBounds, Instr.sliceBound, asIntOf, h0', (by omega : (i : Int) ≤ (n : Int)), (by omega : (n : Int) ≤ cap), (by omega : (i : Int) ≤ max (n : Int) 0), sizeOf, typeInfo, hi, hz, h2, Result.andThen]
set_option maxRecDepth 100000 in
theorem rest_any (B : Nat) (v : Value) (l : List UInt8) (at_ err : Nat) (w : World) (h : RS w B v l at_ err) :
    Calls Try.prog 60 #[.pointer (some ⟨B, 0, none⟩)] w fun e w' => ∃ v', e = .returned v' ∧ Rd w' v' (l.drop at_) ∧ Below w.heap.size w w' := by
  have hr := h.rd
  obtain ⟨q, hat, hle, -⟩ := h
  obtain ⟨u0, ui, uz0, uz1, uz2⟩ := info_parts u8info
  have H := Lib.hid hr
  obtain ⟨ao, cap, rfl, hl, hm, -, -⟩ := hr
  have hB := lt_of_block q
  obtain ⟨z, hz⟩ : ∃ z, z = Value.slice (if cap = at_ then ao else ao.map (·.add (at_ * 1))) (l.length - at_) (cap - at_) := ⟨_, rfl⟩
  have HZ := Lib.hid hz
  clear hz
  go_enter Try.func60, Try.ntmps60
  go_wp2_with fail
  refine g_start (by kernel_rfl) ?_
  refine g_take (i := 0) (d := (some 3)) (v := ?_) rfl rfl (by kernel_rfl) (fun _ _ _ h => h) (by rfl) (fun w' hb' => ?_) ?_
  rotate_left
  · (try go_simp); (try with_reducible rfl)
  try simp only [Act.put, List.setIfInBounds_toArray, List.set_cons_zero, List.set_cons_succ]
  refine g_take (i := 1) (d := (some 4)) (v := ?_) rfl rfl (by kernel_rfl) (fun _ _ _ h => h) (by rfl) (fun w' hb' => ?_) ?_
  rotate_left
  · (try go_simp); (try with_reducible rfl)
  try simp only [Act.put, List.setIfInBounds_toArray, List.set_cons_zero, List.set_cons_succ]
  refine g_take (i := 2) (d := (some 5)) (v := ?_) rfl rfl (by kernel_rfl) (fun _ _ _ h => h) (by rfl) (fun w' hb' => ?_) ?_
  rotate_left
  · (try go_simp); (try with_reducible rfl)
  try simp only [Act.put, List.setIfInBounds_toArray, List.set_cons_zero, List.set_cons_succ]
  refine g_take (i := 3) (d := (some 6)) (v := ?_) rfl rfl (by kernel_rfl) (fun _ _ _ h => h) (by rfl) (fun w' hb' => ?_) ?_
  rotate_left
  · have hc := ((cells3 ((hb'.block _ hB).trans q)).1); (try go_simp); (try with_reducible rfl)
  try simp only [Act.put, List.setIfInBounds_toArray, List.set_cons_zero, List.set_cons_succ]
  refine g_take (i := 4) (d := (some 7)) (v := ?_) rfl rfl (by kernel_rfl) (fun _ _ _ h => h) (by rfl) (fun w' hb' => ?_) ?_
  rotate_left
  · (try go_simp); (try with_reducible rfl)
  try simp only [Act.put, List.setIfInBounds_toArray, List.set_cons_zero, List.set_cons_succ]
  refine g_take (i := 5) (d := (some 8)) (v := ?_) rfl rfl (by kernel_rfl) (fun _ _ _ h => h) (by rfl) (fun w' hb' => ?_) ?_
  rotate_left
  · (try go_simp); (try with_reducible rfl)
  try simp only [Act.put, List.setIfInBounds_toArray, List.set_cons_zero, List.set_cons_succ]
  refine g_take (i := 6) (d := (some 9)) (v := ?_) rfl rfl (by kernel_rfl) (fun _ _ _ h => h) (by rfl) (fun w' hb' => ?_) ?_
  rotate_left
  · (try go_simp); (try with_reducible rfl)
  try simp only [Act.put, List.setIfInBounds_toArray, List.set_cons_zero, List.set_cons_succ]
  refine g_take (i := 7) (d := (some 10)) (v := ?_) rfl rfl (by kernel_rfl) (fun _ _ _ h => h) (by rfl) (fun w' hb' => ?_) ?_
  rotate_left
  · have hc := ((cells3 ((hb'.block _ hB).trans q)).2.1); (try go_simp); (try with_reducible rfl)
  try simp only [Act.put, List.setIfInBounds_toArray, List.set_cons_zero, List.set_cons_succ]
  refine g_take (i := 8) (d := (some 11)) (v := ?_) rfl rfl (by kernel_rfl) (fun _ _ _ h => h) (by rfl) (fun w' hb' => ?_) ?_
  rotate_left
  · refine slice_op 24 5 (.tmp 6) (.tmp 10) ?_ u0 Try.underlying24 ui uz1 ao l.length cap ?_ .i64 (at_ : Int) ?_ at_ rfl hat hl z HZ.out <;> rfl; (try go_simp); (try with_reducible rfl)
  try simp only [Act.put, List.setIfInBounds_toArray, List.set_cons_zero, List.set_cons_succ]
  refine g_take (i := 9) (d := (some 2)) (v := ?_) rfl rfl (by kernel_rfl) (fun _ _ _ h => h) (by rfl) (fun w' hb' => ?_) ?_
  rotate_left
  · (try go_simp); (try with_reducible rfl)
  try simp only [Act.put, List.setIfInBounds_toArray, List.set_cons_zero, List.set_cons_succ]
  refine g_done (by kernel_rfl) ?_
  go_wp2_with fail
  go_ret
  have hs := rd_sliced H.out at_ l.length (by omega) (Nat.le_refl _)
  rw [List.take_of_length_le (by simp), ← HZ.out] at hs
  exact ⟨z, rfl, hs.below ((Below.refl _ _).drew) (Nat.le_refl _), (Below.refl _ _).drew⟩
set_option maxRecDepth 100000 in
set_option maxHeartbeats 1000000 in
theorem step_num (B : Nat) (most : Int) (v : Value) (l : List UInt8) (at_ err n c : Nat) (x : Value) (w : World) (h : RS w B v l at_ err) (hn : at_ + n ≤ l.length)
    (C : ∀ w, RS w B v l at_ err → Calls Try.prog 51 #[.agg #[.pointer (some ⟨B, 0, none⟩), .int .u64 most]] w fun e w' => e = .returned (.tuple #[x, .int .i64 (n : Int), .int .i64 (c : Int)]) ∧ Below w.heap.size w w') :
    Calls Try.prog 50 #[.pointer (some ⟨B, 0, none⟩), .func (.func 51) #[.agg #[.pointer (some ⟨B, 0, none⟩), .int .u64 most]] #[]] w fun e w' => e = .returned (if err = 0 ∧ c = 0 then x else .int .u64 0) ∧ RS w' B v l (if err = 0 ∧ c = 0 then at_ + n else at_) (if err = 0 then c else err) ∧ w.grownBy w' (some B) := by
  have h0 := h
  obtain ⟨q, hat, hle, HR⟩ := h
  have hB := lt_of_block q
  by_cases he : err = 0
  · subst he
    by_cases hc : c = 0
    · subst hc
      have CC := Lib.hid (C w h0)
      clear C
      obtain ⟨q0, q1, q2, qf⟩ := cells3 q
      go_enter Try.func50, Try.ntmps50
      go_wp2_with (go_at_call 51; refine CC.out.mono ?_)
      rintro e w1 ⟨rfl, g⟩
      have h1 := h0.below g
      obtain ⟨p, -, -, HR1⟩ := h1
      obtain ⟨p0, p1, p2, pf⟩ := cells3 p
      have hw : ((at_ + n : Nat) : Int) = (at_ : Int) + (n : Int) := by omega
      clear q0 q1 q2 qf
      go_wp2_with fail
      go_ret
      have gg := grown_setB (B := B) (i := 1) (u := .int .i64 ((at_ : Int) + (n : Int))) (grown_of_below (r := some B) g)
      refine ⟨rfl, ⟨by rw [hw]; simpa using set_at (i := 1) (u := .int .i64 ((at_ : Int) + (n : Int))) p, hn, hle, Lib.hid fun w'' hg => HR.out w'' fun k hk => (hg k hk).trans (gg.block k (by omega) (by simpa using (by omega : k ≠ B)))⟩, gg⟩
    · have hc' : ((c : Int) != 0) = true := by simp; omega
      have CC := Lib.hid (C w h0)
      clear C
      obtain ⟨q0, q1, q2, qf⟩ := cells3 q
      go_enter Try.func50, Try.ntmps50
      go_wp2_with (go_at_call 51; refine CC.out.mono ?_)
      rintro e w1 ⟨rfl, g⟩
      have h1 := h0.below g
      obtain ⟨p, -, -, HR1⟩ := h1
      obtain ⟨p0, p1, p2, pf⟩ := cells3 p
      clear q0 q1 q2 qf
      go_wp2_with fail
      go_ret
      have gg := grown_setB (B := B) (i := 2) (u := .int .i64 (c : Int)) (grown_of_below (r := some B) g)
      refine ⟨rfl, ⟨by simpa using set_at (i := 2) (u := .int .i64 (c : Int)) p, hat, hle, Lib.hid fun w'' hg => HR.out w'' fun k hk => (hg k hk).trans (gg.block k (by omega) (by simpa using (by omega : k ≠ B)))⟩, gg⟩
  · have he' : ((err : Int) != 0) = true := by simp; omega
    clear C
    obtain ⟨q0, q1, q2, qf⟩ := cells3 q
    go_enter Try.func50, Try.ntmps50
    go_wp2_with fail
    go_ret
    exact ⟨rfl, h0, grown_reflB⟩
set_option maxRecDepth 100000 in
set_option maxHeartbeats 1000000 in
theorem step_int (B : Nat)  (v : Value) (l : List UInt8) (at_ err n c : Nat) (x : Value) (w : World) (h : RS w B v l at_ err) (hn : at_ + n ≤ l.length)
    (C : ∀ w, RS w B v l at_ err → Calls Try.prog 53 #[.pointer (some ⟨B, 0, none⟩)] w fun e w' => e = .returned (.tuple #[x, .int .i64 (n : Int), .int .i64 (c : Int)]) ∧ Below w.heap.size w w') :
    Calls Try.prog 52 #[.pointer (some ⟨B, 0, none⟩), .func (.func 53) #[.pointer (some ⟨B, 0, none⟩)] #[]] w fun e w' => e = .returned (if err = 0 ∧ c = 0 then x else .int .i64 0) ∧ RS w' B v l (if err = 0 ∧ c = 0 then at_ + n else at_) (if err = 0 then c else err) ∧ w.grownBy w' (some B) := by
  have h0 := h
  obtain ⟨q, hat, hle, HR⟩ := h
  have hB := lt_of_block q
  by_cases he : err = 0
  · subst he
    by_cases hc : c = 0
    · subst hc
      have CC := Lib.hid (C w h0)
      clear C
      obtain ⟨q0, q1, q2, qf⟩ := cells3 q
      go_enter Try.func52, Try.ntmps52
      go_wp2_with (go_at_call 53; refine CC.out.mono ?_)
      rintro e w1 ⟨rfl, g⟩
      have h1 := h0.below g
      obtain ⟨p, -, -, HR1⟩ := h1
      obtain ⟨p0, p1, p2, pf⟩ := cells3 p
      have hw : ((at_ + n : Nat) : Int) = (at_ : Int) + (n : Int) := by omega
      clear q0 q1 q2 qf
      go_wp2_with fail
      go_ret
      have gg := grown_setB (B := B) (i := 1) (u := .int .i64 ((at_ : Int) + (n : Int))) (grown_of_below (r := some B) g)
      refine ⟨rfl, ⟨by rw [hw]; simpa using set_at (i := 1) (u := .int .i64 ((at_ : Int) + (n : Int))) p, hn, hle, Lib.hid fun w'' hg => HR.out w'' fun k hk => (hg k hk).trans (gg.block k (by omega) (by simpa using (by omega : k ≠ B)))⟩, gg⟩
    · have hc' : ((c : Int) != 0) = true := by simp; omega
      have CC := Lib.hid (C w h0)
      clear C
      obtain ⟨q0, q1, q2, qf⟩ := cells3 q
      go_enter Try.func52, Try.ntmps52
      go_wp2_with (go_at_call 53; refine CC.out.mono ?_)
      rintro e w1 ⟨rfl, g⟩
      have h1 := h0.below g
      obtain ⟨p, -, -, HR1⟩ := h1
      obtain ⟨p0, p1, p2, pf⟩ := cells3 p
      clear q0 q1 q2 qf
      go_wp2_with fail
      go_ret
      have gg := grown_setB (B := B) (i := 2) (u := .int .i64 (c : Int)) (grown_of_below (r := some B) g)
      refine ⟨rfl, ⟨by simpa using set_at (i := 2) (u := .int .i64 (c : Int)) p, hat, hle, Lib.hid fun w'' hg => HR.out w'' fun k hk => (hg k hk).trans (gg.block k (by omega) (by simpa using (by omega : k ≠ B)))⟩, gg⟩
  · have he' : ((err : Int) != 0) = true := by simp; omega
    clear C
    obtain ⟨q0, q1, q2, qf⟩ := cells3 q
    go_enter Try.func52, Try.ntmps52
    go_wp2_with fail
    go_ret
    exact ⟨rfl, h0, grown_reflB⟩
set_option maxRecDepth 100000 in
set_option maxHeartbeats 1000000 in
theorem step_text (B : Nat)  (v : Value) (l : List UInt8) (at_ err n c : Nat) (x : Value) (w : World) (h : RS w B v l at_ err) (hn : at_ + n ≤ l.length)
    (C : ∀ w, RS w B v l at_ err → Calls Try.prog 55 #[.pointer (some ⟨B, 0, none⟩)] w fun e w' => e = .returned (.tuple #[x, .int .i64 (n : Int), .int .i64 (c : Int)]) ∧ Below w.heap.size w w') :
    Calls Try.prog 54 #[.pointer (some ⟨B, 0, none⟩), .func (.func 55) #[.pointer (some ⟨B, 0, none⟩)] #[]] w fun e w' => e = .returned (if err = 0 ∧ c = 0 then x else .string (str [])) ∧ RS w' B v l (if err = 0 ∧ c = 0 then at_ + n else at_) (if err = 0 then c else err) ∧ w.grownBy w' (some B) := by
  have h0 := h
  obtain ⟨q, hat, hle, HR⟩ := h
  have hB := lt_of_block q
  by_cases he : err = 0
  · subst he
    by_cases hc : c = 0
    · subst hc
      have CC := Lib.hid (C w h0)
      clear C
      obtain ⟨q0, q1, q2, qf⟩ := cells3 q
      go_enter Try.func54, Try.ntmps54
      go_wp2_with (go_at_call 55; refine CC.out.mono ?_)
      rintro e w1 ⟨rfl, g⟩
      have h1 := h0.below g
      obtain ⟨p, -, -, HR1⟩ := h1
      obtain ⟨p0, p1, p2, pf⟩ := cells3 p
      have hw : ((at_ + n : Nat) : Int) = (at_ : Int) + (n : Int) := by omega
      clear q0 q1 q2 qf
      go_wp2_with fail
      go_ret
      have gg := grown_setB (B := B) (i := 1) (u := .int .i64 ((at_ : Int) + (n : Int))) (grown_of_below (r := some B) g)
      refine ⟨rfl, ⟨by rw [hw]; simpa using set_at (i := 1) (u := .int .i64 ((at_ : Int) + (n : Int))) p, hn, hle, Lib.hid fun w'' hg => HR.out w'' fun k hk => (hg k hk).trans (gg.block k (by omega) (by simpa using (by omega : k ≠ B)))⟩, gg⟩
    · have hc' : ((c : Int) != 0) = true := by simp; omega
      have CC := Lib.hid (C w h0)
      clear C
      obtain ⟨q0, q1, q2, qf⟩ := cells3 q
      go_enter Try.func54, Try.ntmps54
      go_wp2_with (go_at_call 55; refine CC.out.mono ?_)
      rintro e w1 ⟨rfl, g⟩
      have h1 := h0.below g
      obtain ⟨p, -, -, HR1⟩ := h1
      obtain ⟨p0, p1, p2, pf⟩ := cells3 p
      clear q0 q1 q2 qf
      go_wp2_with fail
      go_ret
      have gg := grown_setB (B := B) (i := 2) (u := .int .i64 (c : Int)) (grown_of_below (r := some B) g)
      refine ⟨rfl, ⟨by simpa using set_at (i := 2) (u := .int .i64 (c : Int)) p, hat, hle, Lib.hid fun w'' hg => HR.out w'' fun k hk => (hg k hk).trans (gg.block k (by omega) (by simpa using (by omega : k ≠ B)))⟩, gg⟩
  · have he' : ((err : Int) != 0) = true := by simp; omega
    clear C
    obtain ⟨q0, q1, q2, qf⟩ := cells3 q
    go_enter Try.func54, Try.ntmps54
    go_wp2_with fail
    go_ret
    exact ⟨rfl, h0, grown_reflB⟩
set_option maxRecDepth 100000 in
set_option maxHeartbeats 1000000 in
theorem step_byte (B : Nat)  (v : Value) (l : List UInt8) (at_ err n c : Nat) (x : Value) (w : World) (h : RS w B v l at_ err) (hn : at_ + n ≤ l.length)
    (C : ∀ w, RS w B v l at_ err → Calls Try.prog 57 #[.pointer (some ⟨B, 0, none⟩)] w fun e w' => e = .returned (.tuple #[x, .int .i64 (n : Int), .int .i64 (c : Int)]) ∧ Below w.heap.size w w') :
    Calls Try.prog 56 #[.pointer (some ⟨B, 0, none⟩), .func (.func 57) #[.pointer (some ⟨B, 0, none⟩)] #[]] w fun e w' => e = .returned (if err = 0 ∧ c = 0 then x else .int .u8 0) ∧ RS w' B v l (if err = 0 ∧ c = 0 then at_ + n else at_) (if err = 0 then c else err) ∧ w.grownBy w' (some B) := by
  have h0 := h
  obtain ⟨q, hat, hle, HR⟩ := h
  have hB := lt_of_block q
  by_cases he : err = 0
  · subst he
    by_cases hc : c = 0
    · subst hc
      have CC := Lib.hid (C w h0)
      clear C
      obtain ⟨q0, q1, q2, qf⟩ := cells3 q
      go_enter Try.func56, Try.ntmps56
      go_wp2_with (go_at_call 57; refine CC.out.mono ?_)
      rintro e w1 ⟨rfl, g⟩
      have h1 := h0.below g
      obtain ⟨p, -, -, HR1⟩ := h1
      obtain ⟨p0, p1, p2, pf⟩ := cells3 p
      have hw : ((at_ + n : Nat) : Int) = (at_ : Int) + (n : Int) := by omega
      clear q0 q1 q2 qf
      go_wp2_with fail
      go_ret
      have gg := grown_setB (B := B) (i := 1) (u := .int .i64 ((at_ : Int) + (n : Int))) (grown_of_below (r := some B) g)
      refine ⟨rfl, ⟨by rw [hw]; simpa using set_at (i := 1) (u := .int .i64 ((at_ : Int) + (n : Int))) p, hn, hle, Lib.hid fun w'' hg => HR.out w'' fun k hk => (hg k hk).trans (gg.block k (by omega) (by simpa using (by omega : k ≠ B)))⟩, gg⟩
    · have hc' : ((c : Int) != 0) = true := by simp; omega
      have CC := Lib.hid (C w h0)
      clear C
      obtain ⟨q0, q1, q2, qf⟩ := cells3 q
      go_enter Try.func56, Try.ntmps56
      go_wp2_with (go_at_call 57; refine CC.out.mono ?_)
      rintro e w1 ⟨rfl, g⟩
      have h1 := h0.below g
      obtain ⟨p, -, -, HR1⟩ := h1
      obtain ⟨p0, p1, p2, pf⟩ := cells3 p
      clear q0 q1 q2 qf
      go_wp2_with fail
      go_ret
      have gg := grown_setB (B := B) (i := 2) (u := .int .i64 (c : Int)) (grown_of_below (r := some B) g)
      refine ⟨rfl, ⟨by simpa using set_at (i := 2) (u := .int .i64 (c : Int)) p, hat, hle, Lib.hid fun w'' hg => HR.out w'' fun k hk => (hg k hk).trans (gg.block k (by omega) (by simpa using (by omega : k ≠ B)))⟩, gg⟩
  · have he' : ((err : Int) != 0) = true := by simp; omega
    clear C
    obtain ⟨q0, q1, q2, qf⟩ := cells3 q
    go_enter Try.func56, Try.ntmps56
    go_wp2_with fail
    go_ret
    exact ⟨rfl, h0, grown_reflB⟩
set_option maxRecDepth 100000 in
set_option maxHeartbeats 1000000 in
theorem step_flag (B : Nat)  (v : Value) (l : List UInt8) (at_ err n c : Nat) (x : Value) (w : World) (h : RS w B v l at_ err) (hn : at_ + n ≤ l.length)
    (C : ∀ w, RS w B v l at_ err → Calls Try.prog 59 #[.pointer (some ⟨B, 0, none⟩)] w fun e w' => e = .returned (.tuple #[x, .int .i64 (n : Int), .int .i64 (c : Int)]) ∧ Below w.heap.size w w') :
    Calls Try.prog 58 #[.pointer (some ⟨B, 0, none⟩), .func (.func 59) #[.pointer (some ⟨B, 0, none⟩)] #[]] w fun e w' => e = .returned (if err = 0 ∧ c = 0 then x else .bool false) ∧ RS w' B v l (if err = 0 ∧ c = 0 then at_ + n else at_) (if err = 0 then c else err) ∧ w.grownBy w' (some B) := by
  have h0 := h
  obtain ⟨q, hat, hle, HR⟩ := h
  have hB := lt_of_block q
  by_cases he : err = 0
  · subst he
    by_cases hc : c = 0
    · subst hc
      have CC := Lib.hid (C w h0)
      clear C
      obtain ⟨q0, q1, q2, qf⟩ := cells3 q
      go_enter Try.func58, Try.ntmps58
      go_wp2_with (go_at_call 59; refine CC.out.mono ?_)
      rintro e w1 ⟨rfl, g⟩
      have h1 := h0.below g
      obtain ⟨p, -, -, HR1⟩ := h1
      obtain ⟨p0, p1, p2, pf⟩ := cells3 p
      have hw : ((at_ + n : Nat) : Int) = (at_ : Int) + (n : Int) := by omega
      clear q0 q1 q2 qf
      go_wp2_with fail
      go_ret
      have gg := grown_setB (B := B) (i := 1) (u := .int .i64 ((at_ : Int) + (n : Int))) (grown_of_below (r := some B) g)
      refine ⟨rfl, ⟨by rw [hw]; simpa using set_at (i := 1) (u := .int .i64 ((at_ : Int) + (n : Int))) p, hn, hle, Lib.hid fun w'' hg => HR.out w'' fun k hk => (hg k hk).trans (gg.block k (by omega) (by simpa using (by omega : k ≠ B)))⟩, gg⟩
    · have hc' : ((c : Int) != 0) = true := by simp; omega
      have CC := Lib.hid (C w h0)
      clear C
      obtain ⟨q0, q1, q2, qf⟩ := cells3 q
      go_enter Try.func58, Try.ntmps58
      go_wp2_with (go_at_call 59; refine CC.out.mono ?_)
      rintro e w1 ⟨rfl, g⟩
      have h1 := h0.below g
      obtain ⟨p, -, -, HR1⟩ := h1
      obtain ⟨p0, p1, p2, pf⟩ := cells3 p
      clear q0 q1 q2 qf
      go_wp2_with fail
      go_ret
      have gg := grown_setB (B := B) (i := 2) (u := .int .i64 (c : Int)) (grown_of_below (r := some B) g)
      refine ⟨rfl, ⟨by simpa using set_at (i := 2) (u := .int .i64 (c : Int)) p, hat, hle, Lib.hid fun w'' hg => HR.out w'' fun k hk => (hg k hk).trans (gg.block k (by omega) (by simpa using (by omega : k ≠ B)))⟩, gg⟩
  · have he' : ((err : Int) != 0) = true := by simp; omega
    clear C
    obtain ⟨q0, q1, q2, qf⟩ := cells3 q
    go_enter Try.func58, Try.ntmps58
    go_wp2_with fail
    go_ret
    exact ⟨rfl, h0, grown_reflB⟩
end Go.Proofs.Ytlafmalgioffkaa
