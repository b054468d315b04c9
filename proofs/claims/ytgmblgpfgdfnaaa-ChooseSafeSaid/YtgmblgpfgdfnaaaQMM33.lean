/- Choose: May where it says yes. Written by wip/tools/gen31e.py. -/
import Derived.Test.YtgmblgpfgdfnaaaQMM32
namespace Go.Proofs.Ytgmblgpfgdfnaaa
open Go Go.RowKit
set_option linter.unusedVariables false
set_option linter.unusedSimpArgs false
set_option maxRecDepth 100000

theorem ofZ_64 (l : List Int) : ofZ l 0 < 18446744073709551616 := ofZ_lt l 0 (by decide)
set_option maxHeartbeats 2000000 in
theorem choMay_yes (n : Int) (l : List Cg) (v : Value) (w : World) (h : RdCg w v l) (hm : MayP n l) : Calls Try.prog 43 #[v, .int .i64 n] w fun e w' => e = .returned (.bool true) ∧ Below w.heap.size w w' := by
  obtain ⟨ao, cap, rfl, hcl, hcm⟩ := rdcg_val h
  have hn := may_n hm
  have IS0 := fun w' => isStrong_any (ofZ (l.map Cg.fr) 0) (ofZ_64 _) n (by omega) w'
  rw [whoC_strong hm] at IS0
  have IS := Lib.hid IS0
  have HRD := Lib.hid h
  have HM := Lib.hid hm
  clear h hm IS0 hn
  go_enter Try.func43, Try.ntmps43
  go_wp2_with fail
  go_loopw [5, 10] (fun s i wr => ∃ (k S : Nat), k ≤ l.length ∧ i = .int .i64 (k : Int) ∧ s = .int .u64 (S : Int) ∧ Hid (S = ofZ ((l.take k).map Cg.fr) 0) ∧ Below w.heap.size w wr) (fun _ i _ => l.length - (intOf i).toNat)
  case atStart => exact ⟨0, 0, Nat.zero_le _, rfl, rfl, Lib.hid rfl, Below.refl _ _⟩
  case round =>
    obtain ⟨k, S, hk, rfl, rfl, hS, bel⟩ := hrel
    by_cases hlt : k < l.length
    · obtain ⟨pb, po, rfl, hpb, C0, C1, C2, C3, C4, C5⟩ := rdcg_cells HRD.out k hlt
      have c0 := (bel.cell (p := ⟨pb, po + k * 6, none⟩) hpb).trans C0
      have c1 := (bel.cell (p := ⟨pb, po + k * 6 + 1, none⟩) hpb).trans C1
      have c2 := (bel.cell (p := ⟨pb, po + k * 6 + 2, none⟩) hpb).trans C2
      have c3 := (bel.cell (p := ⟨pb, po + k * 6 + 3, none⟩) hpb).trans C3
      have c4 := (bel.cell (p := ⟨pb, po + k * 6 + 4, none⟩) hpb).trans C4
      have c5 := (bel.cell (p := ⟨pb, po + k * 6 + 5, none⟩) hpb).trans C5
      have HA0 := fun w' => has_any S (by rw [hS.out]; exact ofZ_64 _) l[k].fr w'
      have WI0 := fun w' => with_any S (by rw [hS.out]; exact ofZ_64 _) l[k].fr w'
      have hno := whoC_no HM.out hlt
      rw [← hS.out] at hno
      rw [hno] at HA0
      have hup := whoC_up hlt
      rw [← hS.out] at hup
      have hp := cgB_parts (HM.out.ok l[k] (List.getElem_mem hlt))
      have CH0 := fun w' (g : Below w.heap.size w w') => mayChange_yes n l[k] w' (HM.out.ok l[k] (List.getElem_mem hlt)) ((HRD.out.2 l[k] (List.getElem_mem hlt)).2.below g (Nat.le_refl _))
      obtain ⟨x, hx⟩ : ∃ x, x = l[k] := ⟨_, rfl⟩
      rw [← hx] at c0 c1 c2 c3 c4 c5 HA0 WI0 hup hp CH0
      obtain ⟨S2, hS2⟩ : ∃ S2, S2 = S ||| bitZ x.fr := ⟨_, rfl⟩
      rw [← hS2] at WI0 hup
      obtain ⟨fr, vw, st, rt, ⟨pa, pn, pk⟩, ⟨ca, cn, ck⟩, cs⟩ := x
      unfold cgV at CH0
      simp only at c0 c1 c2 c3 c4 c5 HA0 WI0 hp CH0
      have HA := Lib.hid HA0
      have WI := Lib.hid WI0
      have CH := Lib.hid CH0
      have HS2 := Lib.hid hup.symm
      have p0 : 0 ≤ fr := hp.1
      have p1 : fr < n := hp.2.1
      obtain ⟨W1, hW1⟩ : ∃ W, W = wr.alloc (.cells #[.int .i64 fr, .int .i64 vw, .int .i64 st, .int .i64 rt, .slice pa pn pk, .slice ca cn ck] 56) := ⟨_, rfl⟩
      have x1 := heap_alloc_new wr (.cells #[.int .i64 fr, .int .i64 vw, .int .i64 st, .int .i64 rt, .slice pa pn pk, .slice ca cn ck] 56)
      have B2 := chain bel ((Below.refl wr.heap.size wr).alloc (Nat.le_refl _) (.cells #[.int .i64 fr, .int .i64 vw, .int .i64 st, .int .i64 rt, .slice pa pn pk, .slice ca cn ck] 56))
      obtain ⟨e0, e1, e2, e3, e4, e5, ef⟩ := block_cells6 x1
      clear hx C0 C1 C2 C3 C4 C5 HA0 WI0 CH0 hno hup hp hS2 hW1
      go_wp2_with (first | ((with_reducible refine (HA.out _).mono ?_); rintro e w1 ⟨rfl, rfl⟩) | ((with_reducible refine (CH.out _ B2).mono ?_); rintro e w2 ⟨rfl, gC⟩; (clear e0 e1 e2 e3 e4 e5 ef); (replace x1 := (gC.block _ (lt_of_block x1)).trans x1); (replace B2 := chain B2 gC); (obtain ⟨e0, e1, e2, e3, e4, e5, ef⟩ := block_cells6 x1)) | ((with_reducible refine (WI.out _).mono ?_); rintro e w1 ⟨rfl, rfl⟩))
      exact ⟨⟨k + 1, S2, by omega, by push_cast; rfl, rfl, HS2, B2⟩, by simp [intOf]; omega⟩
    · obtain rfl : k = l.length := by omega
      have hS3 := hS.out
      rw [List.take_length] at hS3
      have IS2 := IS.out
      rw [← hS3] at IS2
      clear IS
      have IS := Lib.hid IS2
      clear IS2 hS3 hS
      go_wp2_with (first | ((with_reducible refine (IS.out _).mono ?_); rintro e w1 ⟨rfl, rfl⟩))
      go_ret
      exact ⟨rfl, bel⟩
end Go.Proofs.Ytgmblgpfgdfnaaa
