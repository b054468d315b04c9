/- Put of package varint: the bytes that it makes are the document's, in memory of its own. -/
import Derived.Test.YtcehgfganjdghaaDoorProg
import Derived.Test.YtcehgfganjdghaaDoorQVTC16
import Derived.WalkKit
namespace Go.Proofs.YtcehgfganjdghaaDoor
open Go.RowKit
theorem u8info : (Tryd.prog.info? 5).map (fun i => (i.zero, i.size, i.bytes)) = some (some (.int .u8 0), 1, 1) := by kernel_rfl
set_option maxRecDepth 100000 in
set_option maxHeartbeats 400000 in
theorem put_any (v : Int) (hu : U64 v) (w : World) :
    Calls Tryd.prog 89 #[.int .u64 v] w fun e w' => ∃ v', e = .returned v' ∧ w'.ownsRow w.heap.size 5 1 v' (putL v.toNat).length ((putL v.toNat).map bv) ∧ Below w.heap.size w w' := by
  obtain ⟨i0, hi, hz0, hz1, hz2⟩ := info_parts u8info
  go_enter Tryd.func89, Tryd.ntmps89
  go_wp2_with (at_make; refine wpList_make_own _ rfl _ _ 58 rfl w.heap.size 5 i0 (.int .u8 0) 1 Tryd.underlying58 hi hz0 hz1 .i64 .i64 _ 10 rfl rfl rfl (by rw [hz2]; decide) (by decide) (Nat.le_refl _) ?_; intro w1 hown1 hg1)
  obtain ⟨n, rfl⟩ := Int.eq_ofNat_of_zero_le hu.1
  go_loopw [0, 3] (fun x s wr => ∃ (y : Nat) (pre : List UInt8), x = .int .u64 y ∧ Hid (y * 128 ^ pre.length < 18446744073709551616) ∧ pre.length ≤ 9 ∧ wr.ownsRow w.heap.size 5 1 s pre.length (pre.map bv) ∧ Hid (pre ++ putF (9 - pre.length) y = putL n) ∧ Below w.heap.size w wr)
    (fun x _ _ => (intOf x).toNat)
  case atStart => exact ⟨n, [], rfl, by have := hu.2; show _ < _; simp; omega, by simp, hown1, rfl, (Below.refl _ _).grown hg1 (Nat.le_refl _) (by simp)⟩
  case round =>
    obtain ⟨y, pre, rfl, hy, hp, hown, hpre, hb⟩ := hrel
    by_cases h128 : 128 ≤ (y : Int)
    · go_wp2_with (at_builtin; go_loud (refine wpList_app1 w rfl _ _ 58 rfl w.heap.size 5 i0 (.int .u8 0) 1 Tryd.underlying58 hi hz0 hz1 hz2 rfl _ _ _ rfl hown _ _ rfl rfl (by unfold maxLen; omega) (by omega) (Nat.le_refl _) hb ?_); intro v' w1 hown' hb')
      rw [byte_more] at hown'
      have hs := put_step hy hp hpre (by omega)
      go_roundw
      case rel => exact ⟨y / 128, pre ++ [UInt8.ofNat (y % 128 + 128)], by go_num, hs.2.1, by simp; omega, by simpa using hown', hs.2.2, hb'⟩
      case measure => simp [intOf]; omega
    · have hl := put_last hpre (by omega)
      go_wp2_with (at_builtin; go_loud (refine wpList_app1 w rfl _ _ 58 rfl w.heap.size 5 i0 (.int .u8 0) 1 Tryd.underlying58 hi hz0 hz1 hz2 rfl _ _ _ rfl hown _ _ rfl rfl (by unfold maxLen; omega) (by omega) (Nat.le_refl _) hb ?_); intro v' w1 hown' hb')
      rw [byte_last y (by omega)] at hown'
      go_ret
      exact ⟨v', rfl, by rw [← hl]; simpa using hown', hb'⟩
end Go.Proofs.YtcehgfganjdghaaDoor
