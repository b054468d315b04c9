/- Voices, by the ring. Written by wip/tools/gen4f.py. -/
import Derived.Test.YtojjpnkdblaidaaR4E2
namespace Go.Proofs.Ytojjpnkdblaidaa
open Go Go.RowKit Go.Maps
set_option linter.unusedVariables false
set_option linter.unusedSimpArgs false
theorem own_slice {w : World} {base : Nat} {e : TypeId} {size : Nat} {v : Value} {n : Nat} {xs : List Value} (h : w.ownsRow base e size v n xs) : ∃ ao m c, v = .slice ao m c := by
  rcases h.2 with ⟨e, _⟩ | ⟨g, cap, cur, e, _⟩
  · exact ⟨_, _, _, e⟩
  · exact ⟨_, _, _, e⟩
theorem ix_run (bs : Array Value) (k : Nat) (v : Value) (hk : k < 64) (h : bs[k]? = some v) (w : World) : (Instr.index 53 (.agg bs) (.int .i64 (k : Int))).run Try.prog w = .ok v w := by
  have e1 : (sizeOf 4).run Try.prog w = .ok 1 w := by kernel_rfl
  have e2 : (isAgg 4).run Try.prog w = .ok false w := by kernel_rfl
  have e3 : (0 ≤ (k : Int) ∧ (k : Int) < 64) := by omega
  unfold Instr.index
  simp [asIntOf, run_underlying Try.underlying53, Sem.run_bind, e1, e2, e3, part, h]
  omega
/-- Who of these said it. -/
def spokeN (L l : List St) (want : St) (p : Nat) : Bool := decide ({ want with a := (p : Int) } ∈ l ∧ { want with a := (p : Int) } ∈ L)
def voicesN (L l : List St) (want : St) (k : Nat) : List Int := ((List.range k).filter (spokeN L l want)).map Int.ofNat
/-- The flags. -/
structure SP (bs : Array Value) (f : Nat → Bool) : Prop where
  size : bs.size = 64
  at_ : ∀ p, p < 64 → bs[p]? = some (.bool (f p))
theorem sp_zero : SP #[.bool false, .bool false, .bool false, .bool false, .bool false, .bool false, .bool false, .bool false, .bool false, .bool false, .bool false, .bool false, .bool false, .bool false, .bool false, .bool false, .bool false, .bool false, .bool false, .bool false, .bool false, .bool false, .bool false, .bool false, .bool false, .bool false, .bool false, .bool false, .bool false, .bool false, .bool false, .bool false, .bool false, .bool false, .bool false, .bool false, .bool false, .bool false, .bool false, .bool false, .bool false, .bool false, .bool false, .bool false, .bool false, .bool false, .bool false, .bool false, .bool false, .bool false, .bool false, .bool false, .bool false, .bool false, .bool false, .bool false, .bool false, .bool false, .bool false, .bool false, .bool false, .bool false, .bool false, .bool false] (fun _ => false) := by
  have e : (#[.bool false, .bool false, .bool false, .bool false, .bool false, .bool false, .bool false, .bool false, .bool false, .bool false, .bool false, .bool false, .bool false, .bool false, .bool false, .bool false, .bool false, .bool false, .bool false, .bool false, .bool false, .bool false, .bool false, .bool false, .bool false, .bool false, .bool false, .bool false, .bool false, .bool false, .bool false, .bool false, .bool false, .bool false, .bool false, .bool false, .bool false, .bool false, .bool false, .bool false, .bool false, .bool false, .bool false, .bool false, .bool false, .bool false, .bool false, .bool false, .bool false, .bool false, .bool false, .bool false, .bool false, .bool false, .bool false, .bool false, .bool false, .bool false, .bool false, .bool false, .bool false, .bool false, .bool false, .bool false] : Array Value) = Array.replicate 64 (.bool false) := rfl
  rw [e]
  exact ⟨by simp, fun p hp => by rw [Array.getElem?_replicate, if_pos hp]⟩
theorem SP.set {bs : Array Value} {f g : Nat → Bool} {k : Nat} (h : SP bs f) (hk : k < 64) (hg : ∀ p, p < 64 → g p = (f p || decide (p = k))) : SP (bs.setIfInBounds k (.bool true)) g := by
  refine ⟨by simpa using h.size, fun p hp => ?_⟩
  by_cases e : p = k
  · subst e; rw [hg p hp]; have hs' : p < bs.size := by have := h.size; omega
    simp [hs']
  · rw [Array.getElem?_setIfInBounds_ne (by omega), hg p hp, h.at_ p hp]; simp [e]
theorem SP.congr {bs : Array Value} {f g : Nat → Bool} (h : SP bs f) (hg : ∀ p, p < 64 → g p = f p) : SP bs g := ⟨h.size, fun p hp => by rw [hg p hp]; exact h.at_ p hp⟩
theorem spoke_yes {L l : List St} {want s : St} {k : Nat} (hs : s = { want with a := (k : Int) }) (hL : s ∈ L) : ∀ p, p < 64 → spokeN L (l ++ [s]) want p = (spokeN L l want p || decide (p = k)) := by
  intro p _
  subst hs
  unfold spokeN
  by_cases e : p = k
  · subst e; simp [hL]
  · have : ({ want with a := (p : Int) } : St) ≠ { want with a := (k : Int) } := by intro h; simp at h; exact e (by omega)
    simp [e, this]
theorem spoke_no {L l : List St} {want s : St} (hs : s ≠ { want with a := s.a } ∨ ¬ s ∈ L) : ∀ p, p < 64 → spokeN L (l ++ [s]) want p = spokeN L l want p := by
  intro p _
  unfold spokeN
  rw [decide_eq_decide]
  constructor
  · rintro ⟨h1, h2⟩
    refine ⟨?_, h2⟩
    rcases List.mem_append.1 h1 with h | h
    · exact h
    · have e := List.mem_singleton.1 h
      rcases hs with hs | hs
      · exact absurd (by rw [← e]) hs
      · exact absurd (e ▸ h2) hs
  · rintro ⟨h1, h2⟩
    exact ⟨List.mem_append_left _ h1, h2⟩
theorem want_wf {want s : St} (hw : want.Wf) (hs : s.Wf) : ({ want with a := s.a } : St).Wf := ⟨hs.1, hw.2⟩
set_option maxRecDepth 100000 in
set_option maxHeartbeats 1000000 in
theorem voices_any (base B M n : Nat) (bad : Nat → Bool) (sv : Value) (L : List St) (v : Value) (T : List St) (want : St) (hw : want.Wf) (hT : T.length ≤ 1000) (w : World) (h : RG w base B M n bad sv L) (hv : RdS w v T) :
    Calls Try.prog 19 #[.pointer (some ⟨B, 0, none⟩), v, want.v] w fun e w' => ∃ z, e = .returned z ∧ Below w.heap.size w w' ∧ RdV w' z ((voicesN L T want 64).map iv) := by
  obtain ⟨ao, cap, rfl, hc, hm, hwf, HA⟩ := hv
  have HW := Lib.hid hwf
  have HWw := Lib.hid hw
  obtain ⟨i0, hi0, hz0, hz1, hz2⟩ := info_parts int_info
  unfold St.v
  clear hwf hw
  go_enter Try.func19, Try.ntmps19
  go_wp2_with fail
  have sp0 := sp_zero
  obtain ⟨Z, hZ⟩ : ∃ Z : Array Value, Z = #[.bool false, .bool false, .bool false, .bool false, .bool false, .bool false, .bool false, .bool false, .bool false, .bool false, .bool false, .bool false, .bool false, .bool false, .bool false, .bool false, .bool false, .bool false, .bool false, .bool false, .bool false, .bool false, .bool false, .bool false, .bool false, .bool false, .bool false, .bool false, .bool false, .bool false, .bool false, .bool false, .bool false, .bool false, .bool false, .bool false, .bool false, .bool false, .bool false, .bool false, .bool false, .bool false, .bool false, .bool false, .bool false, .bool false, .bool false, .bool false, .bool false, .bool false, .bool false, .bool false, .bool false, .bool false, .bool false, .bool false, .bool false, .bool false, .bool false, .bool false, .bool false, .bool false, .bool false, .bool false] := ⟨_, rfl⟩
  rw [← hZ] at sp0 ⊢
  obtain ⟨q1, q2, q3, q4⟩ := two_allocs w (.cells #[.int .i64 want.a, .int .i64 want.b, .int .i64 want.c, .int .i64 want.d, .int .i64 want.e] 39) (.cells Z 53)
  have Be : Below w.heap.size w ((w.alloc (.cells #[.int .i64 want.a, .int .i64 want.b, .int .i64 want.c, .int .i64 want.d, .int .i64 want.e] 39)).alloc (.cells Z 53)) := ((Below.refl _ _).alloc (Nat.le_refl _) _).alloc (by simp) _
  obtain ⟨W, hW⟩ : ∃ W, W = (w.alloc (.cells #[.int .i64 want.a, .int .i64 want.b, .int .i64 want.c, .int .i64 want.d, .int .i64 want.e] 39)).alloc (.cells Z 53) := ⟨_, rfl⟩
  rw [← hW] at q1 q2 Be ⊢
  clear hW q3 q4 hZ
  go_loopw [15] (fun i wr => ∃ j : Nat, j ≤ T.length ∧ i = .int .i64 (j : Int) ∧ Below w.heap.size w wr ∧ (∃ x : Int, wr.heap[w.heap.size]? = some (.cells #[.int .i64 x, .int .i64 want.b, .int .i64 want.c, .int .i64 want.d, .int .i64 want.e] 39 (0, 0))) ∧ ∃ bs, wr.heap[w.heap.size + 1]? = some (.cells bs 53 (0, 0)) ∧ SP bs (spokeN L (T.take j) want)) (fun i _ => 1000 - (intOf i).toNat)
  case atStart => exact ⟨0, Nat.zero_le _, rfl, Be, ⟨_, q1⟩, Z, q2, sp0.congr (fun p _ => by simp [spokeN])⟩
  case round =>
    obtain ⟨j, hj, rfl, bel, ⟨x, hq1⟩, bs, hq2, sp⟩ := hrel
    by_cases hjx : j < T.length
    · obtain ⟨b, off, rfl, hb, hcells⟩ := HA.out (by omega)
      have hc5 := (hcells j hjx).of (bel.block b hb)
      have ht : T.take (j + 1) = T.take j ++ [T[j]] := by rw [List.take_succ_eq_append_getElem hjx]
      have hmem := HW.out T[j] (List.getElem_mem hjx)
      obtain ⟨s, es⟩ : ∃ s, s = T[j] := ⟨_, rfl⟩
      rw [← es] at hc5 ht hmem
      have HT := Lib.hid ht
      have HS := Lib.hid hmem
      obtain ⟨k1, k2, k3, k4, k5⟩ := hc5
      have lq2 := lt_of_block hq2
      have hE := eq_st s { want with a := s.a }
      dsimp only at hE
      obtain ⟨f1, f2, f3, f4, f5, f6⟩ := cells5 hq1
      have lq1 := lt_of_block hq1
      clear ht hmem es hcells
      cases hD : decide (s = { want with a := s.a }) with
      | false =>
        rw [hD] at hE
        have hD' := Lib.hid hD
        clear hD
        go_wp2_with fail
        go_roundw
        case rel =>
          refine ⟨j + 1, by omega, by go_num, ?_, ⟨s.a, ?_⟩, bs, ?_, ?_⟩
          · exact (bel.setCell (by simp) _).alloc (by simpa using bel.size) _
          · exact (heap_alloc_old _ _ (by simpa using lq1)).trans (by simpa using set_at (i := 0) (u := .int .i64 s.a) hq1)
          · exact (heap_alloc_old _ _ (by simpa using lq2)).trans ((set_old (by omega)).trans hq2)
          · rw [HT.out]; exact sp.congr (spoke_no (.inl (by simpa using hD'.out)))
        case measure => simp [intOf]; omega
      | true =>
        rw [hD] at hE
        have hs' : s = { want with a := s.a } := by simpa using hD
        have hwf' := HS.out
        have g5 : Below w.heap.size w (wr.setCell ⟨w.heap.size, 0, none⟩ (.int .i64 s.a)) := bel.setCell (by simp) _
        have g6 := g5.alloc g5.size (.cells #[.int .i64 s.a, .int .i64 s.b, .int .i64 s.c, .int .i64 s.d, .int .i64 s.e] 39)
        have Hh := has_any base B M n bad sv L s hwf' _ (h.below g6)
        have q6 := (heap_alloc_old (wr.setCell ⟨w.heap.size, 0, none⟩ (.int .i64 s.a)) (.cells #[.int .i64 s.a, .int .i64 s.b, .int .i64 s.c, .int .i64 s.d, .int .i64 s.e] 39) (by simpa using lq1)).trans (set_at (i := 0) (u := .int .i64 s.a) hq1)
        have q7 := (heap_alloc_old (wr.setCell ⟨w.heap.size, 0, none⟩ (.int .i64 s.a)) (.cells #[.int .i64 s.a, .int .i64 s.b, .int .i64 s.c, .int .i64 s.d, .int .i64 s.e] 39) (by simpa using lq2)).trans ((set_old (i := 0) (u := .int .i64 s.a) (by omega : w.heap.size + 1 ≠ w.heap.size)).trans hq2)
        have q8 := heap_alloc_new (wr.setCell ⟨w.heap.size, 0, none⟩ (.int .i64 s.a)) (.cells #[.int .i64 s.a, .int .i64 s.b, .int .i64 s.c, .int .i64 s.d, .int .i64 s.e] 39)
        rw [show (wr.setCell ⟨w.heap.size, 0, none⟩ (.int .i64 s.a)).heap.size = wr.heap.size from by simp] at q8
        obtain ⟨W1, hW1⟩ : ∃ W1, W1 = (wr.setCell ⟨w.heap.size, 0, none⟩ (.int .i64 s.a)).alloc (.cells #[.int .i64 s.a, .int .i64 s.b, .int .i64 s.c, .int .i64 s.d, .int .i64 s.e] 39) := ⟨_, rfl⟩
        rw [← hW1] at Hh q6 q7 q8 g6
        have HD := Lib.hid hs'
        unfold St.v at Hh
        have HL := Lib.hid h.par
        have HN := h.hn
        clear hD hwf' g5 hs'
        cases hM : decide (s ∈ L) with
        | false =>
          rw [hM] at Hh
          have HM := Lib.hid hM
          clear hM
          go_wp2_with ((try rw [← hW1]); fail)
          rw [← hW1]
          refine Hh.mono ?_
          rintro e W2 ⟨rfl, g⟩
          have r6 := (g.block _ (lt_of_block q6)).trans q6
          have r7 := (g.block _ (lt_of_block q7)).trans q7
          have bel2 := chain g6 g
          clear q6 q7 q8 g6 g
          go_wp2_with fail
          go_roundw
          case rel =>
            refine ⟨j + 1, by omega, by go_num, bel2, ⟨s.a, by simpa using r6⟩, bs, r7, ?_⟩
            rw [HT.out]; exact sp.congr (spoke_no (.inr (by simpa using HM.out)))
          case measure => simp [intOf]; omega
        | true =>
          rw [hM] at Hh
          have hM' : s ∈ L := by simpa using hM
          have hp := HL.out s hM'
          obtain ⟨k, hk⟩ : ∃ k : Nat, s.a = (k : Int) := ⟨s.a.toNat, by omega⟩
          have hk64 : k < 64 := by omega
          have hsp := sp.set (k := k) hk64 (spoke_yes (l := T.take j) (want := want) (by rw [← hk]; exact HD.out) hM')
          rw [← HT.out] at hsp
          have HSP := Lib.hid hsp
          have hfl := sp.at_ k hk64
          have HK := Lib.hid hk
          clear hM hM' hp hsp hk
          go_wp2_with fail
          rw [← hW1]
          refine Hh.mono ?_
          rintro e W2 ⟨rfl, g⟩
          have r6 := (g.block _ (lt_of_block q6)).trans q6
          have r7 := (g.block _ (lt_of_block q7)).trans q7
          have r8 := (g.block _ (lt_of_block q8)).trans q8
          have bel2 := chain g6 g
          obtain ⟨d1, d2, d3, d4, d5, d6⟩ := cells5 r8
          have c8 := (block_cell r7 k).trans hfl
          have c9 := block_frozen r7 k
          rw [HK.out] at d1
          clear q6 q7 q8 g6 g hfl
          go_wp2_with fail
          go_roundw
          case rel =>
            refine ⟨j + 1, by omega, by go_num, bel2.setCell (by simp) _, ⟨s.a, ?_⟩, _, set_at r7, HSP.out⟩
            rw [set_old (by omega)]; simpa using r6
          case measure => simp [intOf]; omega
    · rw [List.take_of_length_le (by omega)] at sp
      have hi53 : (Try.prog.info? 53).map (·.size) = some bs.size := by rw [sp.size]; kernel_rfl
      go_wp2_with (with_reducible refine wpList_load_row (o := ⟨some 34, _, _, _, _, _⟩) rfl 53 (.tmp 7) rfl _ rfl _ bs (0, 0) _ hq2 Try.underlying53 rfl hi53 ?_)
      obtain ⟨F, hF⟩ : ∃ F, F = spokeN L T want := ⟨_, rfl⟩
      rw [← hF] at sp
      have HFF := Lib.hid hF
      have HX := Lib.hid (fun (k : Nat) (hk : k < 64) (w : World) => ix_run bs k _ hk (sp.at_ k hk) w)
      clear hF sp hq1 hq2 hi53
      go_loopw [35, 10] (fun i z wr => ∃ k : Nat, k ≤ 64 ∧ i = .int .i64 (k : Int) ∧ Below w.heap.size w wr ∧ wr.ownsRow w.heap.size 3 1 z ((((List.range k).filter F).map Int.ofNat).map iv).length ((((List.range k).filter F).map Int.ofNat).map iv)) (fun i _ _ => 64 - (intOf i).toNat)
      case atStart => exact ⟨0, by omega, rfl, bel, World.ownsRow_nil _ _ _ _⟩
      case round =>
        obtain ⟨k, hk, rfl, bel, own⟩ := hrel
        by_cases hk2 : k < 64
        · have hX := HX.out k hk2
          have hr : (List.range (k + 1)).filter F = if F k = true then (List.range k).filter F ++ [k] else (List.range k).filter F := by
            rw [List.range_succ, List.filter_append]; by_cases e : F k = true <;> simp [e]
          cases hFk : F k with
          | false =>
            rw [hFk] at hX hr
            have HR := Lib.hid hr
            have HOwn := Lib.hid own
            clear hr hFk own
            go_wp2_with fail
            go_roundw
            case rel => exact ⟨k + 1, by omega, by go_num, bel, by rw [HR.out]; simpa using HOwn.out⟩
            case measure => simp [intOf]; omega
          | true =>
            rw [hFk] at hX hr
            obtain ⟨X, hXX⟩ : ∃ X, X = (((List.range k).filter F).map Int.ofNat).map iv := ⟨_, rfl⟩
            rw [← hXX] at own
            have hXl : X.length ≤ 64 := by rw [hXX]; simp; have := List.length_filter_le F (List.range k); simp at this; omega
            have HR := Lib.hid hr
            have HXX := Lib.hid hXX
            clear hr hFk hXX
            have B1 := (Below.refl w.heap.size w)
            go_wp2_with (at_builtin; refine wpList_app1 w rfl (.tmp 40) (.tmp 42) 22 rfl w.heap.size 3 i0 (.int .i64 0) 8 Try.underlying22 hi0 hz0 hz1 hz2 rfl _ X.length X rfl own 3 (.int .i64 (k : Int)) rfl rfl (by unfold maxLen; omega) (by omega) (Nat.le_refl _) bel ?_; intro z1 w1 own1 bel1)
            have HOwn := Lib.hid own1
            clear own own1
            go_roundw
            case rel =>
              refine ⟨k + 1, by omega, by go_num, bel1, ?_⟩
              have e : ((((List.range (k + 1)).filter F).map Int.ofNat).map iv) = X ++ [.int .i64 (k : Int)] := by rw [HR.out, if_pos rfl, HXX.out]; simp [iv]
              rw [e, List.length_append, List.length_singleton]
              exact HOwn.out
            case measure => simp [intOf]; omega
        · have hk3 : k = 64 := by omega
          subst hk3
          obtain ⟨b1, n1, c1, rfl⟩ := own_slice own
          have R := own_rdv own
          have HRR := Lib.hid R
          clear own R
          go_wp2_with fail
          go_ret
          refine ⟨_, rfl, bel, ?_⟩
          have := HRR.out
          rw [HFF.out] at this
          exact this
end Go.Proofs.Ytojjpnkdblaidaa
