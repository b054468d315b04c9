/- A table of texts: what the law TermApart is handed: texts no longer than may be read. -/
import Derived.Test.YtblhgliegoickaaDoorT2L
import Derived.Test.YtblhgliegoickaaDoorT2E
import Derived.SizedLaws
import Derived.SliceStrings
namespace Go.Proofs.YtblhgliegoickaaDoor
open Go Go.ChangeShapes Go.WideShapes Go.ChangeAt Go.RowKit
set_option linter.unusedVariables false
theorem weights_all_mem {H : Type} {P : Program} {e : TypeId} {b : List UInt8} : ∀ {l : List (DataW H)}, (DataW.lit (.string b)) ∈ l → b.length ∈ DataW.weightsAll P e l
  | x :: r, h => by
    simp only [DataW.weightsAll, List.mem_append]
    rcases List.mem_cons.1 h with h | h
    · left; rw [← h]; simp [DataW.weights]
    · right; exact weights_all_mem h
theorem small_of {n : Nat} (h : n ≤ reachBytes) : n ≤ 1000000000000000 := Nat.le_trans h (by decide)
section
variable {H : Type} {enc : TypeId × Value → H}
theorem open_textsZ {W : World} {r : Reach} {base b0 : Nat} {sp : Nat → Bool} {hd : Bool} {v : Value} {d : DataW H} {p : List MemPlace}
    (hval : Value.okWide Tryd.prog W r b0 25 v) (h : DataW.Trod enc Tryd.prog W base sp hd 25 v d p) : ∃ L : List (List UInt8), RdV W v (L.map sv) ∧ ∀ x ∈ L, x.length ∈ DataW.weights Tryd.prog 25 d := by
  obtain ⟨a, len, cap, rfl⟩ := okWide_slice Tryd.underlying25 hval
  obtain ⟨fuel, hf⟩ := h
  have el : ∀ a : ByteArray, a.data.toList.length = a.size := fun a => by rw [Array.length_toList]; rfl
  rcases open_strings Tryd.underlying25 Tryd.underlying9 (by kernel_rfl) hf with ⟨hcs, _⟩ | ⟨x, l, c, ss, hcs, _, hl, hm, hz, hxx, hcell, hsz⟩
  · simp [Value.cells] at hcs
    obtain ⟨rfl, rfl, rfl⟩ := hcs
    exact ⟨[], rdv_nil _, by simp⟩
  · simp [Value.cells] at hcs
    obtain ⟨rfl, rfl, rfl⟩ := hcs
    have hd : d = .slice (strs (ss.take len)) (strs (ss.drop len)) := by cases hxx; rfl
    have hlen : (ss.take len).length = len := by rw [List.length_take, hz]; split <;> omega
    refine ⟨(ss.take len).map (·.data.toList), ?_, ?_⟩
    · have e : ((ss.take len).map (·.data.toList)).map sv = (ss.take len).map Value.string := by
        rw [List.map_map]
        apply List.map_congr_left
        intro a _
        show Value.string (str a.data.toList) = _
        rw [str_of]
      rw [e]
      refine ⟨some x, cap, by rw [List.length_map, hlen], by rw [List.length_map, hlen]; exact hl, hm, by simp, ?_⟩
      intro h0
      rw [List.length_map, hlen] at h0 ⊢
      obtain ⟨b, off, sp⟩ := x
      have hlt : ∀ i, i < len → i < ss.length := fun i hi => by rw [List.length_take] at hlen; omega
      have hs : sp = none := by simpa [Addr.add] using World.cell?_spot (hcell 0 (hlt 0 h0))
      subst hs
      refine ⟨b, off, rfl, ?_, ?_⟩
      · have := World.block_lt_of_cell? W _ (hcell 0 (hlt 0 h0))
        simpa [Addr.add] using this
      · intro i hi
        have h1 := hcell i (hlt i hi)
        rw [Addr.add_lit] at h1
        rw [h1, List.getElem?_map, List.getElem?_take, if_pos hi]
        have := hlt i hi
        simp [List.getD, this]
    · intro y hy
      obtain ⟨z, hz1, rfl⟩ := List.mem_map.1 hy
      have hmem : (DataW.lit (H := H) (.string z.data.toList)) ∈ strs (ss.take len) := by
        unfold strs
        exact List.mem_map.2 ⟨z, hz1, rfl⟩
      rw [hd]
      simp only [DataW.weights, Tryd.underlying25, List.mem_cons, List.mem_append]
      exact .inr (.inl (weights_all_mem hmem))
theorem sized_texts {W : World} {r : Reach} {base b0 : Nat} {sp : Nat → Bool} {hd : Bool} {v : Value} {d : DataW H} {p : List MemPlace} {ts : List TypeId} {ds : List (DataW H)} {j : Nat}
    (hval : Value.okWide Tryd.prog W r b0 25 v) (h : DataW.Trod enc Tryd.prog W base sp hd 25 v d p) (ht : ts[j]? = some 25) (hdj : ds[j]? = some d) (hsz : (DataW.weightsEach Tryd.prog ts ds).all (· ≤ reachBytes) = true) : ∃ L : List Txt, RdV W v (L.map sv) ∧ ∀ x ∈ L, x.length ≤ 1000000000000000 := by
  obtain ⟨L, h1, h2⟩ := open_textsZ hval h
  exact ⟨L, h1, fun x hx => small_of (by simpa using List.all_eq_true.1 hsz _ (DataW.weights_mem_each ht hdj _ (h2 x hx)))⟩
theorem sized_text {ts : List TypeId} {ds : List (DataW H)} {j : Nat} {a : ByteArray} (ht : ts[j]? = some 9) (hdj : ds[j]? = some (.lit (.string a.data.toList))) (hsz : (DataW.weightsEach Tryd.prog ts ds).all (· ≤ reachBytes) = true) : a.data.toList.length ≤ 1000000000000000 :=
  small_of (by simpa using List.all_eq_true.1 hsz _ (DataW.weights_mem_each ht hdj _ (by simp [DataW.weights] : a.data.toList.length ∈ _)))
end
theorem law_apartB (v1 : Value) (A : List Txt) (a b : ByteArray) (w : World) (h1 : RdV w v1 (A.map sv)) (f1 : ∀ x ∈ A, x.length ≤ 1000000000000000) (f2 : a.data.toList.length ≤ 1000000000000000) (f3 : b.data.toList.length ≤ 1000000000000000) (ht : Tab w) :
    Calls Tryd.prog 4 #[v1, .string a, .string b] w fun e w' => e = .returned (.bool true) ∧ Below w.heap.size w w' := by
  have := law_apart v1 A a.data.toList b.data.toList w h1 f1 f2 f3 ht
  rw [str_of, str_of] at this
  exact this
end Go.Proofs.YtblhgliegoickaaDoor
