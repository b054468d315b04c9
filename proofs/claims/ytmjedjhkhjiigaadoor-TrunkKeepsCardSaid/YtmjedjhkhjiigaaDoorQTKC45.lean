/- Trunks: a trunk among the arguments. Written by wip/tools/gen10p.py. -/
/- Trunks: the law TrunkDoes, its ways joined. Written by wip/tools/gen10p.py. -/
import Derived.Test.YtmjedjhkhjiigaaDoorQTKC44
import Derived.Test.YtmjedjhkhjiigaaDoorQTKC27
import Derived.Test.YtmjedjhkhjiigaaDoorQTKC41
import Derived.Test.YtmjedjhkhjiigaaDoorQTKC42
import Derived.Test.YtmjedjhkhjiigaaDoorQTKC43
namespace Go.Proofs.YtmjedjhkhjiigaaDoor
open Go Go.ChangeShapes Go.WideShapes Go.ChangeAt Go.RowKit Go.Joins
set_option linter.unusedVariables false
set_option linter.unusedSimpArgs false
set_option maxRecDepth 100000
theorem trunk_cells : Tryd.prog.cellsOf 26 = 32 := by kernel_rfl
theorem leaves_cells : Tryd.prog.cellsOf 23 = 16 := by kernel_rfl
theorem vers_cells : Tryd.prog.cellsOf 24 = 16 := by kernel_rfl
theorem items_cells : Tryd.prog.cellsOf 22 = 1 := by kernel_rfl
def WfT (lv : Nat → List It) : Prop := ∀ b, b < 16 → WfI (lv b)
theorem one_of {l : List Value} {i n : Nat} (hi : i < n) (hl : l.length = n) : ∃ v, l[i]? = some v ∧ (l.drop i).take 1 = [v] := by
  have h : i < l.length := by omega
  refine ⟨l[i], List.getElem?_eq_getElem h, ?_⟩
  rw [List.drop_eq_getElem_cons h]; rfl
section
variable {H : Type} {enc : TypeId × Value → H}
theorem open_trunk {W : World} {r : Reach} {base b0 : Nat} {hd : Bool} {v : Value} {d : DataW H} {p : List MemPlace}
    (hval : Value.okWide Tryd.prog W r b0 26 v) (h : DataW.Trod enc Tryd.prog W base (fun _ => true) hd 26 v d p) : ∃ (cs : Array Value) (lv : Nat → List It) (vs : Nat → Int), v = .agg cs ∧ RdT W cs lv vs ∧ SzT lv ∧ WfT lv := by
  obtain ⟨cs, rfl, hsz⟩ := okWide_struct Tryd.underlying26 hval
  rw [trunk_cells] at hsz
  obtain ⟨fuel, hf⟩ := h
  obtain ⟨xs, n, _, hx, _, hlen, hg⟩ := DataW.trod_struct Tryd.underlying26 hf
  match xs, hlen with
  | [y0, y1], _ =>
    have h0 := hg 0 _ rfl
    have h1 := hg 1 _ rfl
    simp only [leaves_cells, vers_cells, Value.cells] at h0 h1
    have hll : cs.toList.length = 32 := by rw [Array.length_toList]; exact hsz
    obtain ⟨A, hA⟩ : ∃ A, A = (cs.toList.drop 0).take 16 := ⟨_, rfl⟩
    obtain ⟨B, hB⟩ : ∃ B, B = (cs.toList.drop 16).take 16 := ⟨_, rfl⟩
    have lA : A.length = 16 := by rw [hA, List.length_take, List.length_drop]; omega
    have lB : B.length = 16 := by rw [hB, List.length_take, List.length_drop]; omega
    have h0' : DataW.trod enc Tryd.prog W base (fun _ => true) hd n 23 A = some y0 := by rw [hA]; exact h0
    have h1' : DataW.trod enc Tryd.prog W base (fun _ => true) hd n 24 B = some y1 := by rw [hB]; exact h1
    obtain ⟨ys, m, _, _, _, hly, hgy⟩ := DataW.trod_array Tryd.underlying23 h0'
    obtain ⟨zs, m2, _, _, _, hlz, hgz⟩ := DataW.trod_array Tryd.underlying24 h1'
    have each : ∀ b, b < 16 → ∃ l : List It, (∃ u, cs[b]? = some u ∧ RdI W u l) ∧ SzI l ∧ WfI l := by
      intro b hb
      have e1 := hgy b hb
      rw [items_cells, Nat.mul_one] at e1
      obtain ⟨u, hu, hu2⟩ := one_of hb lA
      rw [hu2, List.getElem?_eq_getElem (by omega : b < ys.length)] at e1
      obtain ⟨l, q1, q2, q3⟩ := open_items_at e1
      refine ⟨l, ⟨u, ?_, q1⟩, q2, q3⟩
      rw [hA, List.getElem?_take, if_pos hb, List.drop_zero, Array.getElem?_toList] at hu
      exact hu
    have eachV : ∀ b, b < 16 → ∃ x : Int, cs[16 + b]? = some (.int .i64 x) := by
      intro b hb
      have e1 := hgz b hb
      rw [int_cells9, Nat.mul_one] at e1
      obtain ⟨u, hu, hu2⟩ := one_of hb lB
      rw [hu2, List.getElem?_eq_getElem (by omega : b < zs.length)] at e1
      obtain ⟨a, ea, _, _⟩ := DataW.trod_int Tryd.underlying3 e1
      refine ⟨a, ?_⟩
      rw [hB, List.getElem?_take, if_pos hb, List.getElem?_drop, Array.getElem?_toList] at hu
      simp at ea
      rw [hu, ea]
    refine ⟨cs, fun b => if hb : b < 16 then (each b hb).choose else [], fun b => if hb : b < 16 then (eachV b hb).choose else 0, rfl, ⟨hsz, fun b hb => ?_, fun b hb => ?_⟩, fun b hb => ?_, fun b hb => ?_⟩
    · simp only [hb, dite_true]; exact (each b hb).choose_spec.1
    · simp only [hb, dite_true]; exact (eachV b hb).choose_spec
    · simp only [hb, dite_true]; exact (each b hb).choose_spec.2.1
    · simp only [hb, dite_true]; exact (each b hb).choose_spec.2.2
end
end Go.Proofs.YtmjedjhkhjiigaaDoor
namespace Go.Proofs.YtmjedjhkhjiigaaDoor
open Go Go.RowKit
set_option linter.unusedVariables false
set_option linter.unusedSimpArgs false
theorem putTE_no {lv : Nat → List It} {vs : Nat → Int} {x : It} (h : mayTs lv vs 16 = false ∨ mayI x = false) : putTE lv vs x = 1 := by
  unfold putTE
  split
  · rename_i h2
    rcases h with h | h
    · rw [h] at h2; exact absurd h2.1 (by simp)
    · have e : putE (lv (bkN x.key)) x = 1 := by unfold putE; rw [if_neg (fun q => by rw [h] at q; exact absurd q.2 (by simp))]
      rw [e, if_neg (fun q => q.1 rfl)]
  · rfl
theorem delTE_no {lv : Nat → List It} {vs : Nat → Int} {k : List UInt8} {ver : Int} (h : verB ver = false ∨ mayTs lv vs 16 = false) : delTE lv vs k ver = 1 := by unfold delTE; rw [if_pos h]
theorem pLv_no {lv : Nat → List It} {vs : Nat → Int} {x : It} (h : putTE lv vs x = 1) : pLv lv vs x = fun _ => [] := by unfold pLv; rw [h, if_neg (by decide)]
theorem pVs_no {lv : Nat → List It} {vs : Nat → Int} {x : It} (h : putTE lv vs x = 1) : pVs lv vs x = fun _ => 0 := by unfold pVs; rw [h, if_neg (by decide)]
theorem dLv_no {lv : Nat → List It} {vs : Nat → Int} {k : List UInt8} {ver : Int} (h : delTE lv vs k ver = 1) : dLv lv vs k ver = fun _ => [] := by unfold dLv; rw [h, if_neg (by decide)]
theorem dVs_no {lv : Nat → List It} {vs : Nat → Int} {k : List UInt8} {ver : Int} (h : delTE lv vs k ver = 1) : dVs lv vs k ver = fun _ => 0 := by unfold dVs; rw [h, if_neg (by decide)]
theorem putTE_zero {lv : Nat → List It} {vs : Nat → Int} {x : It} (h : putTE lv vs x = 0) : putE (lv (bkN x.key)) x = 0 := by
  unfold putTE at h
  split at h
  · split at h
    · cases h
    · exact h
  · cases h
theorem pLv_len {lv : Nat → List It} {vs : Nat → Int} {x : It} (hl : ∀ b, b < 16 → (lv b).length ≤ 100) : ∀ b, b < 16 → (pLv lv vs x b).length ≤ 100 := by
  intro b hb
  unfold pLv
  by_cases h : putTE lv vs x = 0
  · rw [if_pos h]
    by_cases e : b = bkN x.key
    · subst e; rw [upd_at]; exact Nat.le_trans (with_len (putTE_zero h)) (by decide)
    · rw [upd_ne _ _ e]; exact hl b hb
  · rw [if_neg h]; exact Nat.zero_le _
theorem dLv_len {lv : Nat → List It} {vs : Nat → Int} {k : List UInt8} {ver : Int} (hl : ∀ b, b < 16 → (lv b).length ≤ 100) : ∀ b, b < 16 → (dLv lv vs k ver b).length ≤ 100 := by
  intro b hb
  unfold dLv
  by_cases h : delTE lv vs k ver = 0
  · rw [if_pos h]
    by_cases e : b = bkN k
    · subst e; rw [upd_at]; exact Nat.le_trans (List.length_filter_le _ _) (hl _ (bkN_lt _))
    · rw [upd_ne _ _ e]; exact hl b hb
  · rw [if_neg h]; exact Nat.zero_le _
theorem does_row (cs : Array Value) (lv : Nat → List It) (vs : Nat → Int) (x : It) (ver : Int) (w : World) (h : RdT w cs lv vs) (hsz : SzT lv) (hwf : WfT lv) (hxk : x.key.length ≤ maxLen) (hxs : x.v.s.length ≤ maxLen) (hxi : I64 x.v.i) (hvw : (Lit.int .i64 ver).wf = true) (tab : TabAt w) :
    Calls Tryd.prog 4 #[.agg cs, itV x, .int .i64 ver] w fun e w' => e = .returned (.bool true) ∧ Below w.heap.size w w' := by
  cases hm : mayTs (fun b => fewL (lv b)) vs 16 with
  | false =>
    have e1 := putTE_no (x := oneI x) (.inl hm)
    have e2 := delTE_no (k := (oneI x).key) (ver := ver) (.inr hm)
    exact does_no cs lv vs x ver w tab h hsz hxk hxs (pLv_no e1) (pVs_no e1) e1 (dLv_no e2) (dVs_no e2) e2 hm
  | true =>
    have hl := fewT_len lv
    cases hx : mayI (oneI x) with
    | true =>
      cases hv : verB ver with
      | true =>
        have v1 := verB_iff.1 hv
        exact does_11 cs lv vs x ver _ _ _ _ _ _ w tab h hsz hxk hxs rfl rfl rfl rfl rfl rfl (pLv_len hl) (dLv_len hl) hm hx hv v1.1 v1.2
      | false =>
        have e2 := delTE_no (lv := fun b => fewL (lv b)) (vs := vs) (k := (oneI x).key) (.inl hv)
        by_cases v0 : ver < 0
        · exact does_12 cs lv vs x ver _ _ _ w tab h hsz hxk hxs rfl rfl rfl (dLv_no e2) (dVs_no e2) e2 (pLv_len hl) hm hx hv v0
        · have v2 : 2147483647 < ver := by
            have := mt verB_iff.2 (by rw [hv]; simp : ¬ verB ver = true)
            omega
          exact does_13 cs lv vs x ver _ _ _ w tab h hsz hxk hxs rfl rfl rfl (dLv_no e2) (dVs_no e2) e2 (pLv_len hl) hm hx hv (by omega) v2
    | false =>
      have e1 := putTE_no (lv := fun b => fewL (lv b)) (vs := vs) (.inr hx)
      cases hv : verB ver with
      | true =>
        have v1 := verB_iff.1 hv
        exact does_01 cs lv vs x ver _ _ _ w tab h hsz hxk hxs (pLv_no e1) (pVs_no e1) e1 rfl rfl rfl (dLv_len hl) hm hx hv v1.1 v1.2
      | false =>
        have e2 := delTE_no (lv := fun b => fewL (lv b)) (vs := vs) (k := (oneI x).key) (.inl hv)
        by_cases v0 : ver < 0
        · exact does_02 cs lv vs x ver w tab h hsz hxk hxs (pLv_no e1) (pVs_no e1) e1 (dLv_no e2) (dVs_no e2) e2 hm hx hv v0
        · have v2 : 2147483647 < ver := by
            have := mt verB_iff.2 (by rw [hv]; simp : ¬ verB ver = true)
            omega
          exact does_03 cs lv vs x ver w tab h hsz hxk hxs (pLv_no e1) (pVs_no e1) e1 (dLv_no e2) (dVs_no e2) e2 hm hx hv (by omega) v2
end Go.Proofs.YtmjedjhkhjiigaaDoor
