/- Put of package varint: the bytes that it makes are the document's, in memory of its own. -/
/- Cut of package varint: what it reads is what the document says, whatever bytes there are. -/
/- The small functions of layer 1: each comes to what the plain function says. -/
/- The document's cut of a string's bytes: the plain function's answer. -/
import Derived.Test.YtoagdmglchccnaaGreatDoorProg
import Derived.Test.YtoagdmglchccnaaGreatDoorQRR8
import Derived.WalkKit
import Derived.Lib.AppendStr
import Derived.WalkSpells
namespace Go.Proofs.YtoagdmglchccnaaGreatDoor
open Go.RowKit
theorem u8info : (Tryz.prog.info? 5).map (fun i => (i.zero, i.size, i.bytes)) = some (some (.int .u8 0), 1, 1) := by kernel_rfl
set_option maxRecDepth 100000 in
set_option maxHeartbeats 400000 in
theorem put_any (v : Int) (hu : U64 v) (w : World) :
    Calls Tryz.prog 110 #[.int .u64 v] w fun e w' => ∃ v', e = .returned v' ∧ w'.ownsRow w.heap.size 5 1 v' (putL v.toNat).length ((putL v.toNat).map bv) ∧ Below w.heap.size w w' := by
  obtain ⟨i0, hi, hz0, hz1, hz2⟩ := info_parts u8info
  go_enter Tryz.func110, Tryz.ntmps110
  go_wp2_with (at_make; refine wpList_make_own _ rfl _ _ 115 rfl w.heap.size 5 i0 (.int .u8 0) 1 Tryz.underlying115 hi hz0 hz1 .i64 .i64 _ 10 rfl rfl rfl (by rw [hz2]; decide) (by decide) (Nat.le_refl _) ?_; intro w1 hown1 hg1)
  obtain ⟨n, rfl⟩ := Int.eq_ofNat_of_zero_le hu.1
  go_loopw [0, 3] (fun x s wr => ∃ (y : Nat) (pre : List UInt8), x = .int .u64 y ∧ Hid (y * 128 ^ pre.length < 18446744073709551616) ∧ pre.length ≤ 9 ∧ wr.ownsRow w.heap.size 5 1 s pre.length (pre.map bv) ∧ Hid (pre ++ putF (9 - pre.length) y = putL n) ∧ Below w.heap.size w wr)
    (fun x _ _ => (intOf x).toNat)
  case atStart => exact ⟨n, [], rfl, by have := hu.2; show _ < _; simp; omega, by simp, hown1, rfl, (Below.refl _ _).grown hg1 (Nat.le_refl _) (by simp)⟩
  case round =>
    obtain ⟨y, pre, rfl, hy, hp, hown, hpre, hb⟩ := hrel
    by_cases h128 : 128 ≤ (y : Int)
    · go_wp2_with (at_builtin; go_loud (refine wpList_app1 w rfl _ _ 115 rfl w.heap.size 5 i0 (.int .u8 0) 1 Tryz.underlying115 hi hz0 hz1 hz2 rfl _ _ _ rfl hown _ _ rfl rfl (by unfold maxLen; omega) (by omega) (Nat.le_refl _) hb ?_); intro v' w1 hown' hb')
      rw [byte_more] at hown'
      have hs := put_step hy hp hpre (by omega)
      go_roundw
      case rel => exact ⟨y / 128, pre ++ [UInt8.ofNat (y % 128 + 128)], by go_num, hs.2.1, by simp; omega, by simpa using hown', hs.2.2, hb'⟩
      case measure => simp [intOf]; omega
    · have hl := put_last hpre (by omega)
      go_wp2_with (at_builtin; go_loud (refine wpList_app1 w rfl _ _ 115 rfl w.heap.size 5 i0 (.int .u8 0) 1 Tryz.underlying115 hi hz0 hz1 hz2 rfl _ _ _ rfl hown _ _ rfl rfl (by unfold maxLen; omega) (by omega) (Nat.le_refl _) hb ?_); intro v' w1 hown' hb')
      rw [byte_last y (by omega)] at hown'
      go_ret
      exact ⟨v', rfl, by rw [← hl]; simpa using hown', hb'⟩
end Go.Proofs.YtoagdmglchccnaaGreatDoor
namespace Go.Proofs.YtoagdmglchccnaaGreatDoor
open Go.RowKit
set_option linter.unusedVariables false
set_option linter.unusedSimpArgs false
/-- Three results as a value. -/
def cutV (r : Nat × Nat × Nat) : Value := .tuple #[.int .u64 (r.1 : Int), .int .i64 (r.2.1 : Int), .int .i64 (r.2.2 : Int)]
set_option maxRecDepth 100000 in
set_option maxHeartbeats 400000 in
theorem cut_any (v : Value) (l : List UInt8) (w : World) (h : Rd w v l) :
    Calls Tryz.prog 150 #[v] w fun e w' => e = .returned (cutV (cutL l)) ∧ w = w' := by
  obtain ⟨ao, cap, rfl, hl, hm, hn, hx⟩ := h
  unfold maxLen at hm
  by_cases h0 : l.length = 0
  · obtain rfl : l = [] := List.eq_nil_of_length_eq_zero h0
    clear hn hx h0 hl hm
    go_enter Tryz.func150, Tryz.ntmps150
    go_wp2; go_step3; go_wp2; go_step3; go_wp2
    go_loop [5, 6] (fun v i => i = .int .i64 0) (fun _ i => 0)
    case atStart => rfl
    case round =>
      obtain rfl := hrel
      go_wp2
      go_ret3
      exact ⟨rfl, rfl⟩
  · obtain ⟨b, off, rfl, hb, hcell⟩ := hx (by omega)
    clear h0
    clear hx hn
    have HC := Lib.hid hcell
    clear hcell
    go_enter Tryz.func150, Tryz.ntmps150
    go_wp2; go_step3; go_wp2; go_step3; go_wp2
    go_loop [5, 6] (fun v i => ∃ k a : Nat, k ≤ 9 ∧ k ≤ l.length ∧ i = .int .i64 k ∧ v = .int .u64 a ∧ Hid (a < 128 ^ k) ∧ Hid (cutGo k a (l.drop k) = cutL l)) (fun _ i => 10 - (intOf i).toNat)
    case atStart => exact ⟨0, 0, by omega, by omega, rfl, rfl, by show _ < _; decide, rfl⟩
    case round =>
      obtain ⟨k, a, hk9, hkl, rfl, rfl, ha, hr⟩ := hrel
      by_cases hlt : k < l.length
      · have hcc := HC.out k hlt
        obtain ⟨c, hc⟩ : ∃ c, (l.getD k 0).toNat = c := ⟨_, rfl⟩
        have hc256 : c < 256 := by rw [← hc]; exact (l.getD k 0).toNat_lt
        rw [bv, hc] at hcc
        have Hc := Lib.hid hc
        clear hc
        by_cases h9 : k = 9 ∧ 1 < c
        · obtain ⟨rfl, h1⟩ := h9
          have hres := cut_over hr hlt Hc rfl h1
          have HR := Lib.hid hres
          clear hres
          go_wp2
          go_ret3
          refine ⟨?_, rfl⟩
          rw [HR.out]; rfl
        · by_cases h128 : c < 128
          · by_cases h0 : c = 0 ∧ 0 < k
            · obtain ⟨hc0, hk0⟩ := h0
              have hres := cut_form hr hlt Hc h9 hc0 hk0
              have hc0 : c ≤ 0 := by omega
              have HR := Lib.hid hres
              clear hres hr Hc
              rcases Decidable.em (k = 9) with rfl | hk
              all_goals
                go_wp2
                go_ret3
                refine ⟨?_, rfl⟩
                rw [HR.out]; rfl
            · have hres := cut_ok hr hlt Hc h9 h128 h0
              have HR := Lib.hid hres
              clear hres hr Hc
              by_cases hc0 : c = 0
              · obtain rfl : k = 0 := by omega
                subst hc0
                clear h9 h0
                rw [Nat.add_zero] at hcc
                have e := or_shift a 0 0 (by omega) ha.out (by decide)
                have E := Lib.hid e
                clear e
                go_wp2
                go_ret3
                refine ⟨?_, rfl⟩
                rw [HR.out]
                have e := E.out
                simp [IntKind.wrap_u64] at e
                simp [cutV, e]
              · have e := or_shift a c k hk9 ha.out (shift_fits hk9 h128 (by omega))
                have E := Lib.hid e
                clear e
                rcases Decidable.em (k = 9) with rfl | hk
                · have hc1 : c ≤ 1 := by omega
                  have e := E.out
                  rw [IntKind.wrap_u64, show (c : Int) * 2 ^ (7 * 9) % 18446744073709551616 = (c : Int) * 9223372036854775808 from by omega] at e
                  have E2 := Lib.hid e
                  clear e E
                  go_wp2
                  go_ret3
                  refine ⟨?_, rfl⟩
                  rw [HR.out]
                  show Ending.returned (.tuple #[.int .u64 (bits BinOp.or .u64 (a : Int) ((c : Int) * 9223372036854775808)), .int .i64 10, .int .i64 0]) = _
                  rw [E2.out]; rfl
                · go_wp2
                  go_ret3
                  refine ⟨?_, rfl⟩
                  rw [HR.out]
                  show Ending.returned (.tuple #[.int .u64 (bits BinOp.or .u64 (a : Int) (IntKind.u64.wrap ((c : Int) * 2 ^ (7 * k)))), .int .i64 ((k : Int) + 1), .int .i64 0]) = _
                  rw [E.out]; rfl
          · by_cases hk : k = 9
            · omega
            · have hres := cut_more hr ha hlt Hc h9 (by omega)
              have H1 := Lib.hid hres
              have e := or_shift a (c - 128) k hk9 ha.out (shift_fits hk9 (by omega) (by omega))
              have E := Lib.hid e
              clear hres hr Hc h9 e
              go_wp2
              go_round
              case rel =>
                refine ⟨k + 1, a + (c - 128) * 128 ^ k, by omega, by omega, by go_num, ?_, H1.out.2, H1.out.1⟩
                have e := E.out
                rw [show ((c - 128 : Nat) : Int) = (c : Int) - 128 from by omega] at e
                rw [e]
              case measure => simp [intOf]; omega
      · have hres := cut_end hr (by omega)
        obtain rfl : k = l.length := by omega
        have HR := Lib.hid hres
        clear hres
        go_wp2
        go_ret3
        refine ⟨?_, rfl⟩
        rw [HR.out]; rfl
end Go.Proofs.YtoagdmglchccnaaGreatDoor
namespace Go.Proofs.YtoagdmglchccnaaGreatDoor
open Go.RowKit
set_option linter.unusedVariables false
set_option linter.unusedSimpArgs false
theorem strCells_str (l : List UInt8) : Lib.strCells (str l) = l.map bv := by simp [Lib.strCells, str]; intros; rfl
/-- Put of a number, its value written out. -/
theorem put_at (v : Int) (m : Nat) (hv : v = (m : Int)) (hu : U64 v) (w : World) :
    Calls Tryz.prog 110 #[.int .u64 v] w fun e w' => ∃ g n cap, e = .returned (.slice (some ⟨g, 0, none⟩) n cap) ∧ n ≤ 10 ∧ Hid (n = (putL m).length) ∧ w'.ownsRow w.heap.size 5 1 (.slice (some ⟨g, 0, none⟩) n cap) n ((putL m).map bv) ∧ Below w.heap.size w w' := by
  refine (put_any v hu w).mono ?_
  rintro e w' ⟨v', rfl, hown, hb⟩
  subst hv
  rw [Int.toNat_natCast] at hown
  have hl := putL_len m
  obtain ⟨g, cap, rfl, _, _⟩ := slice_of_own hown (by omega)
  exact ⟨g, _, cap, rfl, hl.2, rfl, hown, hb⟩
theorem cut_at (v : Value) (l : List UInt8) (x n c : Nat) (hr : Hid (cutL l = (x, n, c))) (w : World) (h : Rd w v l) :
    Calls Tryz.prog 150 #[v] w fun e w' => e = .returned (.tuple #[.int .u64 x, .int .i64 n, .int .i64 c]) ∧ w = w' := by
  refine (cut_any v l w h).mono ?_
  rintro e w' ⟨rfl, rfl⟩
  rw [hr.out]
  exact ⟨rfl, rfl⟩
set_option maxRecDepth 100000 in
theorem putInt_any (v : Int) (hu : I64 v) (w : World) :
    Calls Tryz.prog 137 #[.int .i64 v] w fun e w' => ∃ g n cap, e = .returned (.slice (some ⟨g, 0, none⟩) n cap) ∧ n ≤ 10 ∧ Hid (n = (putL (zigN v)).length) ∧ w'.ownsRow w.heap.size 5 1 (.slice (some ⟨g, 0, none⟩) n cap) n ((putL (zigN v)).map bv) ∧ Below w.heap.size w w' := by
  go_enter Tryz.func137, Tryz.ntmps137
  go_wp2_with fail
  rw [zig_bits hu]
  refine (put_at _ (zigN v) rfl (zigN_u64 hu) _).mono ?_
  rintro e w' ⟨g, n, cap, rfl, hn, hl, hown, hb⟩
  go_wp2
  go_ret
  exact ⟨g, n, cap, rfl, hn, hl, hown, hb⟩
set_option maxRecDepth 100000 in
theorem cutInt_at (v : Value) (l : List UInt8) (x n c : Nat) (hr : Hid (cutL l = (x, n, c))) (w : World) (h : Rd w v l) :
    Calls Tryz.prog 170 #[v] w fun e w' => e = .returned (.tuple #[.int .i64 (unzig x), .int .i64 n, .int .i64 c]) ∧ w = w' := by
  have hf := cutL_facts hr.out
  obtain ⟨f1, _⟩ := hf
  have F := Lib.hid f1
  clear f1
  go_enter Tryz.func170, Tryz.ntmps170
  go_wp2_with (go_at_call 150; refine (cut_at _ _ x n c hr _ h).mono ?_; rintro e w' ⟨rfl, rfl⟩)
  go_ret3
  refine ⟨?_, rfl⟩
  have f := F.out
  have ea := u64_and_nat x 1 f (by decide)
  rw [Nat.and_one_is_mod] at ea
  have eb := unzig_bits f (wrap64 ((x : Int) / 2)) (wrap64 (-wrap64 (bits BinOp.and IntKind.u64 (x : Int) 1))) (by unfold wrap64; omega) (by rw [show (1 : Int) = ((1 : Nat) : Int) from rfl, ea]; unfold wrap64; omega)
  show Ending.returned (.tuple #[.int .i64 (bits BinOp.xor .i64 (wrap64 ((x : Int) / 2)) (wrap64 (-wrap64 (bits BinOp.and IntKind.u64 (x : Int) 1)))), .int .i64 n, .int .i64 c]) = _
  rw [eb]
def textL (s : List UInt8) : List UInt8 := if s.length ≤ 255 then putL s.length ++ s else []
set_option maxRecDepth 100000 in
theorem putText_any (s : List UInt8) (w : World) (hs : s.length ≤ maxLen) :
    Calls Tryz.prog 108 #[.string (str s)] w fun e w' => ∃ v, e = .returned v ∧ Rd w' v (textL s) ∧ w'.ownsRow w.heap.size 5 1 v (textL s).length ((textL s).map bv) ∧ Below w.heap.size w w' := by
  obtain ⟨i0, hi, hz0, hz1, hz2⟩ := info_parts u8info
  unfold maxLen at hs
  have hz : (str s).size = s.length := str_size s
  by_cases h255 : 255 < s.length
  · have e : textL s = [] := if_neg (by omega)
    have E := Lib.hid e
    clear e
    go_enter Tryz.func108, Tryz.ntmps108
    go_wp2_with fail
    go_ret
    refine ⟨_, rfl, ?_⟩
    rw [E.out]
    exact ⟨rd_nil _, World.ownsRow_nil _ _ _ _, Below.refl _ _⟩
  · have e : textL s = putL s.length ++ s := if_pos (by omega)
    have E := Lib.hid e
    clear e
    go_enter Tryz.func108, Tryz.ntmps108
    go_wp2_with (first
     | (go_at_call 110; go_loud (refine (put_at _ s.length rfl ⟨by omega, by omega⟩ _).mono ?_); rintro e w1 ⟨g, n, cap, rfl, hn, hl, hown, hb⟩)
     | (at_builtin; go_loud (refine Lib.wpList_append_own_string _ rfl _ _ 115 9 rfl w.heap.size 5 i0 Tryz.underlying115 Tryz.underlying9 hi hz0 hz1 hz2 _ _ _ rfl hown _ rfl (by unfold maxLen; omega) (by omega) hb.size ?_); intro v' w2 h1 h2 h3))
    go_ret
    have ho : w2.ownsRow w.heap.size 5 1 v' (textL s).length ((textL s).map bv) := by
      rw [E.out, List.length_append, ← hl.out, List.map_append]
      rw [str_size, strCells_str] at h1
      exact h1
    have hpos : 0 < (textL s).length := by rw [E.out, List.length_append]; have := (putL_len s.length).1; omega
    obtain ⟨g', cap', rfl, _, _⟩ := slice_of_own ho hpos
    exact ⟨_, rfl, own_rd ho, ho, grown_below hb (Nat.le_refl _) hown h2⟩
end Go.Proofs.YtoagdmglchccnaaGreatDoor
namespace Go.Proofs.YtoagdmglchccnaaGreatDoor
open Go.RowKit
set_option linter.unusedVariables false
set_option linter.unusedSimpArgs false
theorem str_byte (l : List UInt8) (k : Nat) (h : k < (str l).size) : (str l)[k]'h = l.getD k 0 := by
  have h' : k < l.length := by rwa [str_size] at h
  show l.toArray[k] = _
  simp [List.getD, h']
set_option maxRecDepth 100000 in
set_option maxHeartbeats 400000 in
theorem refCut_at (l : List UInt8) (x n c : Nat) (hr : Hid (cutL l = (x, n, c))) (hlen : l.length ≤ maxLen) (w : World) :
    Calls Tryz.prog 128 #[.string (str l)] w fun e w' => e = .returned (.tuple #[.int .u64 x, .int .i64 n, .int .i64 c]) ∧ w = w' := by
  unfold maxLen at hlen
  have hsz : (str l).size = l.length := str_size l
  go_enter Tryz.func128, Tryz.ntmps128
  go_wp2
  go_loop [5] (fun i => ∃ k : Nat, k ≤ 8 ∧ k ≤ l.length ∧ i = .int .i64 k ∧ Hid (cutGo k (val (l.take k)) (l.drop k) = cutL l)) (fun i => 10 - (intOf i).toNat)
  case atStart => exact ⟨0, by omega, by omega, rfl, rfl⟩
  case round =>
    obtain ⟨k, hk8, hkl, rfl, hs⟩ := hrel
    by_cases hlt : k < l.length
    · have hcc : ∀ h : k < (str l).size, ((str l)[k]'h).toNat = (l.getD k 0).toNat := fun h => by rw [str_byte]
      obtain ⟨c0, hc⟩ : ∃ c, (l.getD k 0).toNat = c := ⟨_, rfl⟩
      have hc256 : c0 < 256 := by rw [← hc]; exact (l.getD k 0).toNat_lt
      simp only [hc] at hcc
      have Hc := Lib.hid hc
      clear hc
      by_cases h128 : c0 < 128
      · by_cases h0 : c0 = 0 ∧ 0 < k
        · obtain ⟨h00, hk0⟩ := h0
          have ha : Hid (val (l.take k) < 128 ^ k) := by have := val_lt (l.take k); rw [List.length_take, Nat.min_eq_left (by omega)] at this; exact this
          have hres := hr.out.symm.trans (cut_form hs hlt Hc (by omega) h00 hk0)
          simp only [Prod.mk.injEq] at hres
          obtain ⟨rfl, rfl, rfl⟩ := hres
          have h00 : c0 ≤ 0 := by omega
          clear hs Hc ha
          go_wp2
          go_ret3
          exact ⟨rfl, rfl⟩
        · have hres := hr.out.symm.trans (cut_ok' hs hlt Hc (by omega) h128 h0)
          simp only [Prod.mk.injEq] at hres
          obtain ⟨rfl, rfl, rfl⟩ := hres
          clear hs Hc
          have hf := cutL_facts hr.out
          have hx := hf.1
          have hv := Lib.hid hx
          clear hf hx
          go_wp2_with fail
          all_goals
            go_loop [6, 7] (fun v i => ∃ m : Nat, m ≤ k + 1 ∧ i = .int .i64 ((m : Int) - 1) ∧ v = .int .u64 (val ((l.take (k + 1)).drop m) : Nat)) (fun _ i => (intOf i + 1).toNat)
            case atStart => exact ⟨k + 1, by omega, by first | rfl | go_num, by rw [List.drop_eq_nil_of_le (by simp; omega)]; rfl⟩
            case round =>
              obtain ⟨m, hm, rfl, rfl⟩ := hrel
              cases m with
              | zero =>
                go_wp2
                go_ret3
                exact ⟨rfl, rfl⟩
              | succ q =>
                rw [show (((q + 1 : Nat) : Int) - 1) = (q : Int) from by omega]
                have hq : ∀ h : q < (str l).size, ((str l)[q]'h).toNat = (l.getD q 0).toNat := fun h => by rw [str_byte]
                have hvd := val_step l (k + 1) q (by omega) (by omega) hv.out
                obtain ⟨cq, hcq⟩ : ∃ c, (l.getD q 0).toNat = c := ⟨_, rfl⟩
                have hcq256 : cq < 256 := by rw [← hcq]; exact (l.getD q 0).toNat_lt
                rw [hcq] at hvd
                simp only [hcq] at hq
                clear hcq
                have HD := Lib.hid hvd
                clear hvd
                go_wp2
                rw [HD.out]
                go_round
                case rel => exact ⟨q, by omega, rfl, rfl⟩
                case measure => simp [intOf]
      · have hs' := cut_more' hs hlt Hc (by omega) (by omega)
        rcases Nat.lt_or_ge k 8 with hk | hk
        · clear hs Hc
          go_wp2
          go_round
          case rel => exact ⟨k + 1, by omega, by omega, by go_num, hs'⟩
          case measure => simp [intOf]; omega
        · obtain rfl : k = 8 := by omega
          clear hs Hc
          have hs9 : Hid (cutGo 9 (val (l.take 9)) (l.drop 9) = cutL l) := hs'
          clear hs'
          by_cases h9 : 9 < l.length
          · have hcc9 : ∀ h : 9 < (str l).size, ((str l)[9]'h).toNat = (l.getD 9 0).toNat := fun h => by rw [str_byte]
            obtain ⟨c9, hc9⟩ : ∃ c, (l.getD 9 0).toNat = c := ⟨_, rfl⟩
            have hc9256 : c9 < 256 := by rw [← hc9]; exact (l.getD 9 0).toNat_lt
            simp only [hc9] at hcc9
            have Hc9 := Lib.hid hc9
            clear hc9
            by_cases h1 : 1 < c9
            · have hres := hr.out.symm.trans (cut_over hs9 h9 Hc9 rfl h1)
              simp only [Prod.mk.injEq] at hres
              obtain ⟨rfl, rfl, rfl⟩ := hres
              clear hs9 Hc9
              go_wp2
              go_ret3
              exact ⟨rfl, rfl⟩
            · by_cases h0 : c9 = 0
              · have hres := hr.out.symm.trans (cut_form hs9 h9 Hc9 (by omega) h0 (by omega))
                simp only [Prod.mk.injEq] at hres
                obtain ⟨rfl, rfl, rfl⟩ := hres
                have h00 : c9 ≤ 0 := by omega
                clear hs9 Hc9 h0
                go_wp2
                go_ret3
                exact ⟨rfl, rfl⟩
              · have hres := hr.out.symm.trans (cut_ok' hs9 h9 Hc9 (by omega) (by omega) (by omega))
                simp only [Prod.mk.injEq] at hres
                obtain ⟨rfl, rfl, rfl⟩ := hres
                have hp9 : 0 < c9 := by omega
                clear hs9 Hc9 h0
                have hf := cutL_facts hr.out
                have hx := hf.1
                have hv := Lib.hid hx
                clear hf hx
                go_wp2_with fail
                all_goals
                  go_loop [6, 7] (fun v i => ∃ m : Nat, m ≤ 9 + 1 ∧ i = .int .i64 ((m : Int) - 1) ∧ v = .int .u64 (val ((l.take (9 + 1)).drop m) : Nat)) (fun _ i => (intOf i + 1).toNat)
                  case atStart => exact ⟨9 + 1, by omega, by first | rfl | go_num, by rw [List.drop_eq_nil_of_le (by simp; omega)]; rfl⟩
                  case round =>
                    obtain ⟨m, hm, rfl, rfl⟩ := hrel
                    cases m with
                    | zero =>
                      go_wp2
                      go_ret3
                      exact ⟨rfl, rfl⟩
                    | succ q =>
                      rw [show (((q + 1 : Nat) : Int) - 1) = (q : Int) from by omega]
                      have hq : ∀ h : q < (str l).size, ((str l)[q]'h).toNat = (l.getD q 0).toNat := fun h => by rw [str_byte]
                      have hvd := val_step l (9 + 1) q (by omega) (by omega) hv.out
                      obtain ⟨cq, hcq⟩ : ∃ c, (l.getD q 0).toNat = c := ⟨_, rfl⟩
                      have hcq256 : cq < 256 := by rw [← hcq]; exact (l.getD q 0).toNat_lt
                      rw [hcq] at hvd
                      simp only [hcq] at hq
                      clear hcq
                      have HD := Lib.hid hvd
                      clear hvd
                      go_wp2
                      rw [HD.out]
                      go_round
                      case rel => exact ⟨q, by omega, rfl, rfl⟩
                      case measure => simp [intOf]
          · have hres := hr.out.symm.trans (cut_end hs9 (by omega))
            simp only [Prod.mk.injEq] at hres
            obtain ⟨rfl, rfl, rfl⟩ := hres
            clear hs9
            go_wp2
            go_ret3
            exact ⟨rfl, rfl⟩
    · have hres := hr.out.symm.trans (cut_end hs (by omega))
      simp only [Prod.mk.injEq] at hres
      obtain ⟨rfl, rfl, rfl⟩ := hres
      clear hs
      go_wp2
      go_ret3
      exact ⟨rfl, rfl⟩
end Go.Proofs.YtoagdmglchccnaaGreatDoor
