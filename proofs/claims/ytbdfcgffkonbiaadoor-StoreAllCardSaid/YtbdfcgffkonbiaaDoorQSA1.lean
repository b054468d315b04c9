/- Stores: what the laws share. Written by wip/tools/gen13lb.py. -/
import Derived.Test.YtbdfcgffkonbiaaDoorQST45
namespace Go.Proofs.YtbdfcgffkonbiaaDoor
open Go Go.RowKit
set_option linter.unusedVariables false
set_option linter.unusedSimpArgs false
theorem sameS_refl (s : St) : sameS s s = true := by
  unfold sameS
  rw [sameT_iff.2 fun b _ => ⟨rfl, rfl⟩]; simp
theorem pSame_self {s : St} (h : mayS s = true) : pSameS s s = true := by
  unfold pSameS tSame
  rw [h, mayS_t h, sameT_iff.2 fun b _ => ⟨rfl, rfl⟩]; simp
theorem pSame_no {s t : St} (h : mayS s = false) : pSameS s t = false := by unfold pSameS; rw [h]; rfl
theorem infoV (a b c : Value) : (Tryd.prog.info? 43).map (·.size) = some (#[a, b, c] : Array Value).size := by kernel_rfl
theorem valE_eql (x : V7.V) (w : World) : (binOp .eql 43 (.agg #[.int .i64 x.k, .int .i64 x.i, .string (str x.s)]) (.agg #[.int .i64 x.k, .int .i64 x.i, .string (str x.s)])).run Tryd.prog w = .ok (.bool true) w := by
  obtain ⟨b, c, d⟩ := x
  go_simp
theorem valE_zero (w : World) : (binOp .eql 43 (.agg #[.int .i64 0, .int .i64 0, .string (str [])]) (.agg #[.int .i64 0, .int .i64 0, .string (ByteArray.mk #[])])).run Tryd.prog w = .ok (.bool true) w := valE_eql ⟨0, 0, []⟩ w
theorem lsEq_refl (l : List It) : lsEq l l = true := by unfold lsEq; simp
theorem fewS_idem (s : St) : fewS (fewS s) = fewS s := by
  unfold fewS
  simp only [fewL_idem]
theorem take_len {s : St} {l : List Ed} (hsz : SzT s.lv) (hwf : WfT s.lv) (hwe : WfE l) : ∀ b, b < 16 → ((takeE s l).2.lv b).length ≤ 100 := by
  have hz : ∀ b, b < 16 → (stQ.lv b).length ≤ 100 := fun b _ => by simp [stQ]
  unfold takeE
  by_cases h1 : okS s = false
  · rw [if_pos h1]; exact hz
  · rw [if_neg h1]
    have hok : okS s = true := by simpa using h1
    cases hb : badE l 0 with
    | some j => exact hz
    | none =>
      show ∀ b, b < 16 → ((takeB s l).2.lv b).length ≤ 100
      unfold takeB
      by_cases h2 : (goE (s.ver + 1) s.lv s.vs l 0).1.1 = 0
      · rw [if_neg (by rw [h2]; simp)]
        by_cases h3 : fitsB (nextS s (goE (s.ver + 1) s.lv s.vs l 0).2.1 (goE (s.ver + 1) s.lv s.vs l 0).2.2) = true
        · rw [if_pos h3]
          obtain ⟨g0, hv⟩ := okS_gt hok hsz hwf
          exact (go_gt hv l 0 g0 (bad_none hb) hwe).h100
        · rw [if_neg h3]; exact hz
      · rw [if_pos h2]; exact hz
/-- What taking edits hands back, plainly. -/
def TakeP (W : World) (c i : Int) (t : St) (e : Ending) (w' : World) : Prop := ∃ C, e = .returned (.tuple #[.agg C, .int .i64 c, .int .i64 i]) ∧ C.size = 35 ∧ C.all (·.oneCell') = true ∧ RdS w' C t ∧ Below W.heap.size W w'
theorem takeZ_P {W : World} {cs : Array Value} {s t : St} {l : List Ed} {c i : Nat} {e : Ending} {w' : World} (h : RdS W cs s) (hE : takeE s l = ((c, i), t)) (hz : TakeZ W cs s l e w') : TakeP W c i t e w' := by
  obtain ⟨C, rfl, HS, b⟩ := hz
  rw [hE] at HS ⊢
  have h0 : RdS w' C t := (HS.out (fun _ => False) (fun _ h => h.elim) (noP_rd h.tr)).rd
  exact ⟨C, rfl, h0.size, Array.all_eq_true_iff_forall_mem.2 fun u hu => h0.one u (by simpa using hu), h0, b⟩
end Go.Proofs.YtbdfcgffkonbiaaDoor
