/- The reader of layer 1: its methods. Written by wip/tools/gen1t.py. -/
import Derived.Test.YtlafmalgioffkaaL01N
namespace Go.Proofs.Ytlafmalgioffkaa
open Go.RowKit
set_option linter.unusedVariables false
set_option linter.unusedSimpArgs false
/-- What a step leaves: where it is then, and what is wrong then. -/
def RR (B : Nat) (v : Value) (l : List UInt8) (at_ err n c : Nat) (z z0 : Value) (w : World) (e : Ending) (w' : World) : Prop :=
  e = .returned (if err = 0 ∧ c = 0 then z else z0) ∧ RS w' B v l (if err = 0 ∧ c = 0 then at_ + n else at_) (if err = 0 then c else err) ∧ w.grownBy w' (some B)
set_option maxRecDepth 100000 in
theorem num_meth (B : Nat) (most : Int) (v : Value) (l : List UInt8) (at_ err n c : Nat) (x : Value) (w : World) (h : RS w B v l at_ err) (hn : at_ + n ≤ l.length)
    (C : ∀ w, RS w B v l at_ err → Calls Try.prog 51 #[.agg #[.pointer (some ⟨B, 0, none⟩), .int .u64 most]] w fun e w' => e = .returned (.tuple #[x, .int .i64 (n : Int), .int .i64 (c : Int)]) ∧ Below w.heap.size w w') :
    Calls Try.prog 32 #[.pointer (some ⟨B, 0, none⟩), .int .u64 most] w (RR B v l at_ err n c x (.int .u64 0) w) := by
  have hmf : ∀ (fn : Fn) (first cap : Array Value) (w : World), (Instr.makeFunc fn first cap).run Try.prog w = .ok (.func fn first cap) w := fun _ _ _ _ => rfl
  have CC := Lib.hid (step_num B most v l at_ err n c x w h hn C)
  clear C
  go_enter Try.func32, Try.ntmps32
  go_wp2_with fail
  refine CC.out.mono ?_
  rintro e w1 ⟨rfl, hs, g⟩
  obtain ⟨zz, hzz⟩ : ∃ zz, zz = (if err = 0 ∧ c = 0 then x else .int .u64 0) := ⟨_, rfl⟩
  rw [← hzz]
  have HZ := Lib.hid hzz
  clear hzz
  go_wp2_with fail
  go_ret
  rw [HZ.out]
  exact ⟨rfl, hs, g⟩
set_option maxRecDepth 100000 in
theorem int_meth (B : Nat)  (v : Value) (l : List UInt8) (at_ err n c : Nat) (x : Value) (w : World) (h : RS w B v l at_ err) (hn : at_ + n ≤ l.length)
    (C : ∀ w, RS w B v l at_ err → Calls Try.prog 53 #[.pointer (some ⟨B, 0, none⟩)] w fun e w' => e = .returned (.tuple #[x, .int .i64 (n : Int), .int .i64 (c : Int)]) ∧ Below w.heap.size w w') :
    Calls Try.prog 34 #[.pointer (some ⟨B, 0, none⟩)] w (RR B v l at_ err n c x (.int .i64 0) w) := by
  have hmf : ∀ (fn : Fn) (first cap : Array Value) (w : World), (Instr.makeFunc fn first cap).run Try.prog w = .ok (.func fn first cap) w := fun _ _ _ _ => rfl
  have CC := Lib.hid (step_int B v l at_ err n c x w h hn C)
  clear C
  go_enter Try.func34, Try.ntmps34
  go_wp2_with fail
  refine CC.out.mono ?_
  rintro e w1 ⟨rfl, hs, g⟩
  obtain ⟨zz, hzz⟩ : ∃ zz, zz = (if err = 0 ∧ c = 0 then x else .int .i64 0) := ⟨_, rfl⟩
  rw [← hzz]
  have HZ := Lib.hid hzz
  clear hzz
  go_wp2_with fail
  go_ret
  rw [HZ.out]
  exact ⟨rfl, hs, g⟩
set_option maxRecDepth 100000 in
theorem text_meth (B : Nat)  (v : Value) (l : List UInt8) (at_ err n c : Nat) (x : Value) (w : World) (h : RS w B v l at_ err) (hn : at_ + n ≤ l.length)
    (C : ∀ w, RS w B v l at_ err → Calls Try.prog 55 #[.pointer (some ⟨B, 0, none⟩)] w fun e w' => e = .returned (.tuple #[x, .int .i64 (n : Int), .int .i64 (c : Int)]) ∧ Below w.heap.size w w') :
    Calls Try.prog 36 #[.pointer (some ⟨B, 0, none⟩)] w (RR B v l at_ err n c x (.string (str [])) w) := by
  have hmf : ∀ (fn : Fn) (first cap : Array Value) (w : World), (Instr.makeFunc fn first cap).run Try.prog w = .ok (.func fn first cap) w := fun _ _ _ _ => rfl
  have CC := Lib.hid (step_text B v l at_ err n c x w h hn C)
  clear C
  go_enter Try.func36, Try.ntmps36
  go_wp2_with fail
  refine CC.out.mono ?_
  rintro e w1 ⟨rfl, hs, g⟩
  obtain ⟨zz, hzz⟩ : ∃ zz, zz = (if err = 0 ∧ c = 0 then x else .string (str [])) := ⟨_, rfl⟩
  rw [← hzz]
  have HZ := Lib.hid hzz
  clear hzz
  go_wp2_with fail
  go_ret
  rw [HZ.out]
  exact ⟨rfl, hs, g⟩
set_option maxRecDepth 100000 in
theorem byte_meth (B : Nat)  (v : Value) (l : List UInt8) (at_ err n c : Nat) (x : Value) (w : World) (h : RS w B v l at_ err) (hn : at_ + n ≤ l.length)
    (C : ∀ w, RS w B v l at_ err → Calls Try.prog 57 #[.pointer (some ⟨B, 0, none⟩)] w fun e w' => e = .returned (.tuple #[x, .int .i64 (n : Int), .int .i64 (c : Int)]) ∧ Below w.heap.size w w') :
    Calls Try.prog 38 #[.pointer (some ⟨B, 0, none⟩)] w (RR B v l at_ err n c x (.int .u8 0) w) := by
  have hmf : ∀ (fn : Fn) (first cap : Array Value) (w : World), (Instr.makeFunc fn first cap).run Try.prog w = .ok (.func fn first cap) w := fun _ _ _ _ => rfl
  have CC := Lib.hid (step_byte B v l at_ err n c x w h hn C)
  clear C
  go_enter Try.func38, Try.ntmps38
  go_wp2_with fail
  refine CC.out.mono ?_
  rintro e w1 ⟨rfl, hs, g⟩
  obtain ⟨zz, hzz⟩ : ∃ zz, zz = (if err = 0 ∧ c = 0 then x else .int .u8 0) := ⟨_, rfl⟩
  rw [← hzz]
  have HZ := Lib.hid hzz
  clear hzz
  go_wp2_with fail
  go_ret
  rw [HZ.out]
  exact ⟨rfl, hs, g⟩
set_option maxRecDepth 100000 in
theorem flag_meth (B : Nat)  (v : Value) (l : List UInt8) (at_ err n c : Nat) (x : Value) (w : World) (h : RS w B v l at_ err) (hn : at_ + n ≤ l.length)
    (C : ∀ w, RS w B v l at_ err → Calls Try.prog 59 #[.pointer (some ⟨B, 0, none⟩)] w fun e w' => e = .returned (.tuple #[x, .int .i64 (n : Int), .int .i64 (c : Int)]) ∧ Below w.heap.size w w') :
    Calls Try.prog 40 #[.pointer (some ⟨B, 0, none⟩)] w (RR B v l at_ err n c x (.bool false) w) := by
  have hmf : ∀ (fn : Fn) (first cap : Array Value) (w : World), (Instr.makeFunc fn first cap).run Try.prog w = .ok (.func fn first cap) w := fun _ _ _ _ => rfl
  have CC := Lib.hid (step_flag B v l at_ err n c x w h hn C)
  clear C
  go_enter Try.func40, Try.ntmps40
  go_wp2_with fail
  refine CC.out.mono ?_
  rintro e w1 ⟨rfl, hs, g⟩
  obtain ⟨zz, hzz⟩ : ∃ zz, zz = (if err = 0 ∧ c = 0 then x else .bool false) := ⟨_, rfl⟩
  rw [← hzz]
  have HZ := Lib.hid hzz
  clear hzz
  go_wp2_with fail
  go_ret
  rw [HZ.out]
  exact ⟨rfl, hs, g⟩
end Go.Proofs.Ytlafmalgioffkaa
