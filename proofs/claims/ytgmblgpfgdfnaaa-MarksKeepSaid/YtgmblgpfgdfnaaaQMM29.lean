/- Marks: stable by the program; the order of the sort. Written by wip/tools/gen30g.py. -/
import Derived.Test.YtgmblgpfgdfnaaaQMM28
import Derived.Test.YtgmblgpfgdfnaaaQMM9
namespace Go.Proofs.Ytgmblgpfgdfnaaa
open Go Go.RowKit
set_option linter.unusedVariables false
set_option linter.unusedSimpArgs false
set_option maxRecDepth 100000

/-- Is a checkpoint at seq with a term said by strong many? -/
def stbB (l : List Vt) (seq tm n : Int) : Bool := enoughB (agrN seq tm l) n (strongZ n)
def stbT (l : List Vt) (seq n : Int) : Option Int := (l.find? fun x => stbB l seq x.tm n).map Vt.tm
theorem stb_some {l : List Vt} {seq n : Int} {k : Nat} (hk : k < l.length) (h1 : ∀ j (hj : j < l.length), j < k → stbB l seq l[j].tm n = false) (h2 : stbB l seq l[k].tm n = true) : stbT l seq n = some l[k].tm := by
  unfold stbT
  rw [show (l.find? fun x => stbB l seq x.tm n) = some l[k] from by
    rw [List.find?_eq_some_iff_getElem]
    exact ⟨h2, k, hk, rfl, fun j hj => by simpa using h1 j (by omega) hj⟩]
  rfl
theorem stb_none {l : List Vt} {seq n : Int} (h1 : ∀ j (hj : j < l.length), j < l.length → stbB l seq l[j].tm n = false) : stbT l seq n = none := by
  unfold stbT
  rw [show (l.find? fun x => stbB l seq x.tm n) = none from by
    rw [List.find?_eq_none]
    intro x hx
    obtain ⟨i, hi, rfl⟩ := List.getElem_of_mem hx
    simp [h1 i hi hi]]
  rfl
set_option maxHeartbeats 2000000 in
theorem stable_any (m : Ms) (v : Value) (seq n : Int) (w : World) (h : RdT w v m.l) (hn : -9223372036854775808 ≤ n ∧ n ≤ 9223372036854775807) : Calls Try.prog 39 #[mV m v, .int .i64 seq, .int .i64 n] w fun e w' => e = .returned (.tuple #[.int .i64 ((stbT m.l seq n).getD 0), .bool (stbT m.l seq n).isSome]) ∧ Below w.heap.size w w' := by
  obtain ⟨low, root, l⟩ := m
  simp only at h ⊢
  obtain ⟨ao, cap, rfl, hc, hm, hr⟩ := RdK.open h
  have hr : RdT w (.slice ao l.length cap) l := hr
  have WI0 := fun s (hs : s < 18446744073709551616) p w => with_any s hs p w
  have IS0 := fun s (hs : s < 18446744073709551616) w => isStrong_any s hs n hn w
  have WI := Lib.hid WI0
  have IS := Lib.hid IS0
  obtain ⟨R, hR⟩ : ∃ R, R = stbT l seq n := ⟨_, rfl⟩
  rw [← hR]
  have HR := Lib.hid hR
  unfold mV
  simp only
  obtain ⟨W0, hW0⟩ : ∃ W, W = w.alloc (.cells #[.int .i64 low, .int .i64 root, .slice ao l.length cap] 24) := ⟨_, rfl⟩
  have qb := heap_alloc_new w (.cells #[.int .i64 low, .int .i64 root, .slice ao l.length cap] 24)
  have B0 := (Below.refl w.heap.size w).alloc (Nat.le_refl _) (.cells #[.int .i64 low, .int .i64 root, .slice ao l.length cap] 24)
  rw [← hW0] at qb B0
  have QB := Lib.hid qb
  have HRD := Lib.hid (RdT.below hr B0 (Nat.le_refl _))
  clear h hr hR WI0 IS0
  go_enter Try.func39, Try.ntmps39
  go_upto_region 1 with fail
  rw [← hW0]
  clear hW0
  obtain ⟨d0, d1, d2, df⟩ := block_cells3 qb
  go_wp2_with fail
  clear d0 d1 d2 df qb
  go_loopw [16] (fun i wr => ∃ k : Nat, k ≤ l.length ∧ i = .int .i64 (k : Int) ∧ Hid (∀ j (hj : j < l.length), j < k → stbB l seq l[j].tm n = false) ∧ Below W0.heap.size W0 wr) (fun i _ => l.length - (intOf i).toNat)
  case atStart => exact ⟨0, Nat.zero_le _, rfl, Lib.hid (fun j _ h => absurd h (Nat.not_lt_zero _)), Below.refl _ _⟩
  case round =>
    obtain ⟨k, hk, rfl, HA, BK⟩ := hrel
    by_cases hlt : k < l.length
    · obtain ⟨pb, po, rfl, hpb, C0, C1, C2⟩ := rdt_cells HRD.out k hlt
      have c0 := (BK.cell (p := ⟨pb, po + k * 3, none⟩) hpb).trans C0
      have c1 := (BK.cell (p := ⟨pb, po + k * 3 + 1, none⟩) hpb).trans C1
      have c2 := (BK.cell (p := ⟨pb, po + k * 3 + 2, none⟩) hpb).trans C2
      have qb := (BK.block _ (lt_of_block QB.out)).trans QB.out
      obtain ⟨x, hx⟩ : ∃ x, x = l[k] := ⟨_, rfl⟩
      rw [← hx] at c0 c1 c2
      have HX := Lib.hid hx
      obtain ⟨a, b, c⟩ := x
      simp only at c0 c1 c2
      clear hx C0 C1 C2
      go_upto_region 5 with fail
      obtain ⟨W8, hW8⟩ : ∃ W, W = wr.alloc (.cells #[.int .i64 a, .int .i64 b, .int .i64 c] 30) := ⟨_, rfl⟩
      rw [← hW8]
      have qx : W8.heap[wr.heap.size]? = some (.cells #[.int .i64 a, .int .i64 b, .int .i64 c] 30 (0, 0)) := by rw [hW8]; exact heap_alloc_new _ _
      replace qb : W8.heap[w.heap.size]? = some (.cells #[.int .i64 low, .int .i64 root, .slice (some ⟨pb, po, none⟩) l.length cap] 24 (0, 0)) := by rw [hW8]; exact (heap_alloc_old _ _ (lt_of_block qb)).trans qb
      have B8 : Below W0.heap.size W0 W8 := by rw [hW8]; exact BK.alloc BK.size _
      obtain ⟨X8, hX8⟩ : ∃ x, x = wr.heap.size := ⟨_, rfl⟩
      rw [← hX8] at qx ⊢
      have QX := Lib.hid qx
      clear hW8 c0 c1 c2 BK qx hX8
      obtain ⟨d0, d1, d2, df⟩ := block_cells3 qb
      have HR8 := Lib.hid (RdT.below HRD.out B8 (Nat.le_refl _))
      go_wp2_with fail
      clear d0 d1 d2 df qb
      go_loopw [10, 23] (fun s i wr => ∃ q : Nat, q ≤ l.length ∧ i = .int .i64 (q : Int) ∧ s = .int .u64 ((agrN seq c (l.take q) : Nat) : Int) ∧ Below W8.heap.size W8 wr) (fun _ i _ => l.length - (intOf i).toNat)
      case atStart => exact ⟨0, Nat.zero_le _, rfl, rfl, Below.refl _ _⟩
      case round =>
        obtain ⟨q, hq, rfl, rfl, BQ⟩ := hrel
        have qx := (BQ.block _ (lt_of_block QX.out)).trans QX.out
        by_cases hlq : q < l.length
        · obtain ⟨pb', po', hpo, hpb', C0, C1, C2⟩ := rdt_cells HR8.out q hlq
          cases hpo
          have c0 := (BQ.cell (p := ⟨pb, po + q * 3, none⟩) hpb').trans C0
          have c1 := (BQ.cell (p := ⟨pb, po + q * 3 + 1, none⟩) hpb').trans C1
          have c2 := (BQ.cell (p := ⟨pb, po + q * 3 + 2, none⟩) hpb').trans C2
          have HUP0 := agrN_up (vw := seq) (tm := c) hlq
          have hul := agrN_lt seq c (l.take q)
          obtain ⟨U, hU⟩ : ∃ U, U = agrN seq c (l.take q) := ⟨_, rfl⟩
          obtain ⟨y, hy⟩ : ∃ y, y = l[q] := ⟨_, rfl⟩
          rw [← hy] at c0 c1 c2 HUP0
          rw [← hU] at HUP0 hul ⊢
          unfold mat at HUP0
          obtain ⟨a', b', c'⟩ := y
          simp only at c0 c1 c2 HUP0
          have WW0 := WI.out U hul a'
          have WW := Lib.hid WW0
          clear hy hU C0 C1 C2 WW0
          go_upto_region 8 with fail
          obtain ⟨W9, hW9⟩ : ∃ W, W = wr.alloc (.cells #[.int .i64 a', .int .i64 b', .int .i64 c'] 30) := ⟨_, rfl⟩
          rw [← hW9]
          have qy : W9.heap[wr.heap.size]? = some (.cells #[.int .i64 a', .int .i64 b', .int .i64 c'] 30 (0, 0)) := by rw [hW9]; exact heap_alloc_new _ _
          have qx9 : W9.heap[X8]? = some (.cells #[.int .i64 a, .int .i64 b, .int .i64 c] 30 (0, 0)) := by rw [hW9]; exact (heap_alloc_old _ _ (lt_of_block qx)).trans qx
          have B9 : Below W8.heap.size W8 W9 := by rw [hW9]; exact BQ.alloc BQ.size _
          obtain ⟨d0, d1, d2, df⟩ := block_cells3 qx9
          obtain ⟨e0, e1, e2, ef⟩ := block_cells3 qy
          clear hW9 c0 c1 c2 BQ qx
          by_cases h1 : b' = seq
          · have g1 : (b' == seq) = true := by simpa using h1
            rw [decide_eq_true h1] at HUP0
            by_cases h2 : c' = c
            · have g2 : (c' == c) = true := by simpa using h2
              rw [decide_eq_true h2] at HUP0
              have HU := Lib.hid (HUP0.trans (if_pos rfl))
              clear h1 h2 HUP0
              go_wp2_with (first | ((with_reducible refine (WW.out _).mono ?_); rintro e w5 ⟨rfl, rfl⟩))
              exact ⟨⟨q + 1, by omega, by push_cast; rfl, by rw [HU.out], B9⟩, by simp [intOf]; omega⟩
            · have g2 : (c' == c) = false := by simpa using h2
              rw [decide_eq_false h2] at HUP0
              have HU := Lib.hid (HUP0.trans (if_neg (by simp)))
              clear h1 h2 HUP0
              go_wp2_with fail
              exact ⟨⟨q + 1, by omega, by push_cast; rfl, by rw [HU.out], B9⟩, by simp [intOf]; omega⟩
          · have g1 : (b' == seq) = false := by simpa using h1
            rw [decide_eq_false h1] at HUP0
            have HU := Lib.hid (HUP0.trans (if_neg (by simp)))
            clear h1 HUP0
            go_wp2_with fail
            exact ⟨⟨q + 1, by omega, by push_cast; rfl, by rw [HU.out], B9⟩, by simp [intOf]; omega⟩
        · obtain rfl : q = l.length := by omega
          rw [List.take_length]
          have hsl := agrN_lt seq c l
          have hst : stbB l seq c n = enoughB (agrN seq c l) n (strongZ n) := rfl
          obtain ⟨U, hU⟩ : ∃ U, U = agrN seq c l := ⟨_, rfl⟩
          rw [← hU] at hsl hst ⊢
          have II0 := IS.out U hsl
          obtain ⟨E, hE⟩ : ∃ E, E = enoughB U n (strongZ n) := ⟨_, rfl⟩
          rw [← hE] at II0 hst
          have II := Lib.hid II0
          have HS := Lib.hid (show stbB l seq l[k].tm n = E by rw [← HX.out]; exact hst)
          have HC := Lib.hid (show l[k].tm = c by rw [← HX.out])
          obtain ⟨d0, d1, d2, df⟩ := block_cells3 qx
          clear hU hE II0 hst
          cases E with
          | true =>
            have HF := Lib.hid (show R = some c by rw [HR.out, stb_some hlt HA.out HS.out, HC.out])
            go_wp2_with (first | ((with_reducible refine (II.out _).mono ?_); rintro e w5 ⟨rfl, rfl⟩))
            go_ret2
            exact ⟨by rw [HF.out]; rfl, chain B0 (chain B8 BQ)⟩
          | false =>
            have HF := Lib.hid (show ∀ j (hj : j < l.length), j < k + 1 → stbB l seq l[j].tm n = false from fun j hj h1 => by
              by_cases e : j = k
              · subst e; exact HS.out
              · exact HA.out j hj (by omega))
            go_wp2_with (first | ((with_reducible refine (II.out _).mono ?_); rintro e w5 ⟨rfl, rfl⟩))
            exact ⟨⟨k + 1, by omega, by push_cast; rfl, HF, chain B8 BQ⟩, by simp [intOf]; omega⟩
    · obtain rfl : k = l.length := by omega
      have HF := Lib.hid (show R = none by rw [HR.out]; exact stb_none HA.out)
      go_wp2_with fail
      go_ret2
      exact ⟨by rw [HF.out]; rfl, chain B0 BK⟩
theorem isNaN_any (x : Int) (w : World) : Calls Try.prog 51 #[.int .i64 x] w fun e w' => e = .returned (.bool false) ∧ w = w' := by
  go_enter Try.func51, Try.ntmps51
  go_wp2_with fail
  go_ret
  exact ⟨rfl, rfl⟩
def cmpZ (x y : Int) : Int := if x < y then -1 else if y < x then 1 else 0
theorem compare_any (x y : Int) (w : World) : Calls Try.prog 38 #[.int .i64 x, .int .i64 y] w fun e w' => e = .returned (.int .i64 (cmpZ x y)) ∧ w = w' := by
  have NX := Lib.hid (fun w => isNaN_any x w)
  have NY := Lib.hid (fun w => isNaN_any y w)
  rcases Int.lt_trichotomy x y with h | h | h
  · rw [show cmpZ x y = -1 by unfold cmpZ; rw [if_pos h]]
    go_enter Try.func38, Try.ntmps38
    go_wp2_with (first | ((with_reducible refine (NX.out _).mono ?_); rintro e w1 ⟨rfl, rfl⟩) | ((with_reducible refine (NY.out _).mono ?_); rintro e w1 ⟨rfl, rfl⟩))
    go_ret
    exact ⟨rfl, rfl⟩
  · subst h
    rw [show cmpZ x x = 0 by unfold cmpZ; simp]
    go_enter Try.func38, Try.ntmps38
    go_wp2_with ((with_reducible refine (NX.out _).mono ?_); rintro e w1 ⟨rfl, rfl⟩)
    go_ret
    exact ⟨rfl, rfl⟩
  · have h2 : ¬ x < y := by omega
    rw [show cmpZ x y = 1 by unfold cmpZ; rw [if_neg h2, if_pos h]]
    go_enter Try.func38, Try.ntmps38
    go_wp2_with (first | ((with_reducible refine (NX.out _).mono ?_); rintro e w1 ⟨rfl, rfl⟩) | ((with_reducible refine (NY.out _).mono ?_); rintro e w1 ⟨rfl, rfl⟩))
    go_ret
    exact ⟨rfl, rfl⟩
theorem cmpZ_lt {x y : Int} (h : x < y) : cmpZ x y = -1 := by unfold cmpZ; rw [if_pos h]
theorem cmpZ_gt {x y : Int} (h : y < x) : cmpZ x y = 1 := by unfold cmpZ; rw [if_neg (by omega), if_pos h]
theorem cmpZ_eq {x y : Int} (h : x = y) : cmpZ x y = 0 := by subst h; unfold cmpZ; simp
end Go.Proofs.Ytgmblgpfgdfnaaa
