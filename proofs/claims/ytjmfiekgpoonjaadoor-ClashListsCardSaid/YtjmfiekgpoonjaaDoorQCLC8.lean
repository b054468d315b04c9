/- Keys: the small calls, by the program and by the document. -/
import Derived.Test.YtjmfiekgpoonjaaDoorQCLC6
import Derived.Test.YtjmfiekgpoonjaaDoorQCLC2
import Derived.Test.YtjmfiekgpoonjaaDoorQCLC7
import Derived.Test.YtjmfiekgpoonjaaDoorProg
import Derived.Lib.Hide
namespace Go.Proofs.YtjmfiekgpoonjaaDoor
open Go Go.RowKit
set_option linter.unusedVariables false
set_option linter.unusedSimpArgs false
theorem str_tl (l : List UInt8) : (str l).toList = l := by unfold str; simp
theorem ret_bool {a b : Bool} (h : a = b) : Ending.returned (.bool a) = Ending.returned (.bool b) := by rw [h]
theorem ret_str {a b : ByteArray} (h : a = b) : Ending.returned (.string a) = Ending.returned (.string b) := by rw [h]
theorem str_byte (l : List UInt8) (k : Nat) (h : k < (str l).size) : (str l)[k]'h = l.getD k 0 := by
  have h' : k < l.length := by rwa [str_size] at h
  show l.toArray[k] = _
  simp [List.getD, h']
theorem str_extract (l : List UInt8) (i j : Nat) : (str l).extract i j = str ((l.drop i).take (j - i)) := by
  apply ByteArray.ext
  simp [str, ByteArray.data_extract]
theorem str_append (a b : List UInt8) : str a ++ str b = str (a ++ b) := by
  apply ByteArray.ext
  simp [str, ByteArray.data_append]
theorem str_e : (ByteArray.mk #[]) = str [] := rfl
/-- The table of bytes that a key may have, as it lies in memory. -/
def TabAt (w : World) : Prop := 0 < w.heap.size ∧ w.cell? ⟨0, 0, none⟩ = some (.int .u64 288195191779622912) ∧ w.cell? ⟨0, 1, none⟩ = some (.int .u64 576460745860972544)
theorem TabAt.below {w w' : World} (h : TabAt w) (g : Below w.heap.size w w') : TabAt w' :=
  ⟨Nat.lt_of_lt_of_le h.1 g.size, (g.cell (p := ⟨0, 0, none⟩) h.1).trans h.2.1, (g.cell (p := ⟨0, 1, none⟩) h.1).trans h.2.2⟩
/-- A call hands back this, whatever the world; what was there stays. -/
def Ret (f : Nat) (args : Array Value) (v : Value) : Prop := ∀ w, TabAt w → Calls Tryd.prog f args w fun e w' => e = .returned v ∧ Below w.heap.size w w'
theorem Ret.at {f : Nat} {args : Array Value} {v : Value} (h : Ret f args v) (w : World) (t : TabAt w) : Calls Tryd.prog f args w fun e w' => e = .returned v ∧ Below w.heap.size w w' := h w t
/-- The same of a call that leaves the world as it is. -/
def Pure (f : Nat) (args : Array Value) (v : Value) : Prop := ∀ w, TabAt w → Calls Tryd.prog f args w fun e w' => e = .returned v ∧ w = w'
theorem Pure.ret {f : Nat} {args : Array Value} {v : Value} (h : Pure f args v) : Ret f args v := fun w t => (h w t).mono fun e w' x => ⟨x.1, by rw [← x.2]; exact Below.refl _ _⟩
set_option maxRecDepth 100000 in
theorem mayHave_any (m : Nat) (hm : m < 256) : Pure 71 #[.int .u8 (m : Int)] (.bool (okN m)) := by
  rintro w ⟨t0, t1, t2⟩
  by_cases h : m < 128
  · by_cases h6 : m < 64
    · have e1 : (m : Int) / 64 = 0 := by omega
      have e2 : (m : Int) % 64 = (m : Int) := by omega
      have e3 := tab_ok0 m h6
      generalize okN m = B at e3
      go_enter Tryd.func71, Tryd.ntmps71
      go_wp2_with fail
      go_ret
      exact ⟨rfl, rfl⟩
    · obtain ⟨n, rfl⟩ : ∃ n, m = 64 + n := ⟨m - 64, by omega⟩
      have e1 : ((64 + n : Nat) : Int) / 64 = 1 := by omega
      have e2 : ((64 + n : Nat) : Int) % 64 = (n : Int) := by omega
      have e3 := tab_ok1 n (by omega)
      generalize okN (64 + n) = B at e3
      generalize 64 + n = k at *
      go_enter Tryd.func71, Tryd.ntmps71
      go_wp2_with fail
      go_ret
      exact ⟨rfl, rfl⟩
  · have e : okN m = false := by unfold okN; simp; omega
    rw [e]
    go_enter Tryd.func71, Tryd.ntmps71
    go_wp2_with fail
    go_ret
    exact ⟨rfl, rfl⟩
set_option maxRecDepth 100000 in
theorem sign_any (m : Nat) (hm : m < 256) : Pure 73 #[.int .u8 (m : Int)] (.bool (okN m)) := by
  rintro w -
  obtain ⟨B, hB⟩ : ∃ B, B = okN m := ⟨_, rfl⟩
  rw [← hB]
  have HB := Lib.hid hB
  clear hB
  rcases (show m < 45 ∨ m = 45 ∨ m = 46 ∨ m = 47 ∨ (48 ≤ m ∧ m ≤ 57) ∨ (58 ≤ m ∧ m < 95) ∨ m = 95 ∨ m = 96 ∨ (97 ≤ m ∧ m ≤ 122) ∨ 122 < m by omega) with h | rfl | rfl | rfl | ⟨h, h'⟩ | ⟨h, h'⟩ | rfl | rfl | ⟨h, h'⟩ | h
  all_goals
    go_enter Tryd.func73, Tryd.ntmps73
    go_wp2_with fail
    all_goals
      go_ret
      refine ⟨ret_bool ?_, rfl⟩
      rw [HB.out]
      unfold okN
      first | rfl | (rw [Bool.eq_iff_iff]; simp; omega)
end Go.Proofs.YtjmfiekgpoonjaaDoor
