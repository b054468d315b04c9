/- The small functions of layer 1: each comes to what the plain function says. -/
import Derived.Test.YtcehgfganjdghaaDoorQVTC17
import Derived.Test.YtcehgfganjdghaaDoorQVTC18
import Derived.Lib.AppendStr
import Derived.WalkSpells
namespace Go.Proofs.YtcehgfganjdghaaDoor
open Go.RowKit
set_option linter.unusedVariables false
set_option linter.unusedSimpArgs false
theorem i64_of_wf {x : Int} (h : (Lit.int .i64 x).wf = true) : I64 x := by
  simp [Lit.wf, IntKind.min, IntKind.max, IntKind.signed, IntKind.bits] at h
  exact ⟨by omega, by omega⟩
theorem u64_of_wf {x : Int} (h : (Lit.int .u64 x).wf = true) : U64 x := by
  simp [Lit.wf, IntKind.min, IntKind.max, IntKind.signed, IntKind.bits] at h
  exact ⟨by omega, by omega⟩
theorem strCells_str (l : List UInt8) : Lib.strCells (str l) = l.map bv := by simp [Lib.strCells, str]; intros; rfl
/-- Put of a number, its value written out. -/
theorem put_at (v : Int) (m : Nat) (hv : v = (m : Int)) (hu : U64 v) (w : World) :
    Calls Tryd.prog 89 #[.int .u64 v] w fun e w' => ∃ g n cap, e = .returned (.slice (some ⟨g, 0, none⟩) n cap) ∧ n ≤ 10 ∧ Hid (n = (putL m).length) ∧ w'.ownsRow w.heap.size 5 1 (.slice (some ⟨g, 0, none⟩) n cap) n ((putL m).map bv) ∧ Below w.heap.size w w' := by
  refine (put_any v hu w).mono ?_
  rintro e w' ⟨v', rfl, hown, hb⟩
  subst hv
  rw [Int.toNat_natCast] at hown
  have hl := putL_len m
  obtain ⟨g, cap, rfl, _, _⟩ := slice_of_own hown (by omega)
  exact ⟨g, _, cap, rfl, hl.2, rfl, hown, hb⟩
theorem cut_at (v : Value) (l : List UInt8) (x n c : Nat) (hr : Hid (cutL l = (x, n, c))) (w : World) (h : Rd w v l) :
    Calls Tryd.prog 92 #[v] w fun e w' => e = .returned (.tuple #[.int .u64 x, .int .i64 n, .int .i64 c]) ∧ w = w' := by
  refine (cut_any v l w h).mono ?_
  rintro e w' ⟨rfl, rfl⟩
  rw [hr.out]
  exact ⟨rfl, rfl⟩
set_option maxRecDepth 100000 in
theorem putInt_any (v : Int) (hu : I64 v) (w : World) :
    Calls Tryd.prog 82 #[.int .i64 v] w fun e w' => ∃ g n cap, e = .returned (.slice (some ⟨g, 0, none⟩) n cap) ∧ n ≤ 10 ∧ Hid (n = (putL (zigN v)).length) ∧ w'.ownsRow w.heap.size 5 1 (.slice (some ⟨g, 0, none⟩) n cap) n ((putL (zigN v)).map bv) ∧ Below w.heap.size w w' := by
  go_enter Tryd.func82, Tryd.ntmps82
  go_wp2_with fail
  rw [zig_bits hu]
  refine (put_at _ (zigN v) rfl (zigN_u64 hu) _).mono ?_
  rintro e w' ⟨g, n, cap, rfl, hn, hl, hown, hb⟩
  go_wp2
  go_ret
  exact ⟨g, n, cap, rfl, hn, hl, hown, hb⟩
set_option maxRecDepth 100000 in
theorem zig_any (v : Int) (hu : I64 v) (w : World) :
    Calls Tryd.prog 50 #[.int .i64 v] w fun e w' => e = .returned (.int .u64 (zigN v)) ∧ w = w' := by
  go_enter Tryd.func50, Tryd.ntmps50
  go_wp2_with fail
  all_goals
    obtain ⟨h1, h2⟩ := hu
    go_ret
    refine ⟨?_, rfl⟩
    unfold zigN
    try unfold wrap64
    simp [IntKind.wrap_u64]
    split <;> omega
set_option maxRecDepth 100000 in
theorem cutInt_at (v : Value) (l : List UInt8) (x n c : Nat) (hr : Hid (cutL l = (x, n, c))) (w : World) (h : Rd w v l) :
    Calls Tryd.prog 106 #[v] w fun e w' => e = .returned (.tuple #[.int .i64 (unzig x), .int .i64 n, .int .i64 c]) ∧ w = w' := by
  have hf := cutL_facts hr.out
  obtain ⟨f1, _⟩ := hf
  have F := Lib.hid f1
  clear f1
  go_enter Tryd.func106, Tryd.ntmps106
  go_wp2_with (go_at_call 92; refine (cut_at _ _ x n c hr _ h).mono ?_; rintro e w' ⟨rfl, rfl⟩)
  go_ret3
  refine ⟨?_, rfl⟩
  have f := F.out
  have ea := u64_and_nat x 1 f (by decide)
  rw [Nat.and_one_is_mod] at ea
  have eb := unzig_bits f (wrap64 ((x : Int) / 2)) (wrap64 (-wrap64 (bits BinOp.and IntKind.u64 (x : Int) 1))) (by unfold wrap64; omega) (by rw [show (1 : Int) = ((1 : Nat) : Int) from rfl, ea]; unfold wrap64; omega)
  show Ending.returned (.tuple #[.int .i64 (bits BinOp.xor .i64 (wrap64 ((x : Int) / 2)) (wrap64 (-wrap64 (bits BinOp.and IntKind.u64 (x : Int) 1)))), .int .i64 n, .int .i64 c]) = _
  rw [eb]
def textL (s : List UInt8) : List UInt8 := if s.length ≤ 255 then putL s.length ++ s else []
set_option maxRecDepth 100000 in
theorem putText_any (s : List UInt8) (w : World) (hs : s.length ≤ maxLen) :
    Calls Tryd.prog 83 #[.string (str s)] w fun e w' => ∃ v, e = .returned v ∧ Rd w' v (textL s) ∧ w'.ownsRow w.heap.size 5 1 v (textL s).length ((textL s).map bv) ∧ Below w.heap.size w w' := by
  obtain ⟨i0, hi, hz0, hz1, hz2⟩ := info_parts u8info
  unfold maxLen at hs
  have hz : (str s).size = s.length := str_size s
  by_cases h255 : 255 < s.length
  · have e : textL s = [] := if_neg (by omega)
    have E := Lib.hid e
    clear e
    go_enter Tryd.func83, Tryd.ntmps83
    go_wp2_with fail
    go_ret
    refine ⟨_, rfl, ?_⟩
    rw [E.out]
    exact ⟨rd_nil _, World.ownsRow_nil _ _ _ _, Below.refl _ _⟩
  · have e : textL s = putL s.length ++ s := if_pos (by omega)
    have E := Lib.hid e
    clear e
    go_enter Tryd.func83, Tryd.ntmps83
    go_wp2_with (first
     | (go_at_call 89; go_loud (refine (put_at _ s.length rfl ⟨by omega, by omega⟩ _).mono ?_); rintro e w1 ⟨g, n, cap, rfl, hn, hl, hown, hb⟩)
     | (at_builtin; go_loud (refine Lib.wpList_append_own_string _ rfl _ _ 58 9 rfl w.heap.size 5 i0 Tryd.underlying58 Tryd.underlying9 hi hz0 hz1 hz2 _ _ _ rfl hown _ rfl (by unfold maxLen; omega) (by omega) hb.size ?_); intro v' w2 h1 h2 h3))
    go_ret
    have ho : w2.ownsRow w.heap.size 5 1 v' (textL s).length ((textL s).map bv) := by
      rw [E.out, List.length_append, ← hl.out, List.map_append]
      rw [str_size, strCells_str] at h1
      exact h1
    have hpos : 0 < (textL s).length := by rw [E.out, List.length_append]; have := (putL_len s.length).1; omega
    obtain ⟨g', cap', rfl, _, _⟩ := slice_of_own ho hpos
    exact ⟨_, rfl, own_rd ho, ho, grown_below hb (Nat.le_refl _) hown h2⟩
end Go.Proofs.YtcehgfganjdghaaDoor
