/- A table of texts: the digits of a list; List. -/
import Derived.Test.YtblhgliegoickaaDoorT2A
import Derived.Test.YtblhgliegoickaaDoorShelf
import Derived.Lib.ItoaLen
namespace Go.Proofs.YtblhgliegoickaaDoor
open Go Go.RowKit Go.Maps Go.MapKept
set_option linter.unusedVariables false
set_option linter.unusedSimpArgs false
def iv (x : Int) : Value := .int .i64 x
/-- The text of a list of numbers. -/
def digN (xs : List Int) : Txt := xs.flatMap fun i => Lib.itoa i ++ [44]
/-- The table of powers, as it lies, whatever lies behind it. -/
def Tab (w : World) : Prop := Lib.TabBelow Tryd.prog w.heap.size w "internal/strconv.uint64pow10" .u64 Lib.pow10Tab
theorem tab_on {w w' : World} {n : Nat} (h : Tab w) (g : Below w.heap.size w w') (hn : w.heap.size ≤ n) : Lib.TabBelow Tryd.prog n w' "internal/strconv.uint64pow10" .u64 Lib.pow10Tab :=
  fun w'' g' => h w'' (g.trans (g'.mono hn))
theorem Tab.below {w w' : World} (h : Tab w) (g : Below w.heap.size w w') : Tab w' := tab_on h g g.size
theorem rdv_open {w : World} {v : Value} {xs : List Int} (h : RdV w v (xs.map iv)) : ∃ ao cap, v = .slice ao xs.length cap ∧ xs.length ≤ cap ∧ cap ≤ maxLen ∧ Hid (0 < xs.length → ∃ b off, ao = some ⟨b, off, none⟩ ∧ b < w.heap.size ∧ ∀ i (hi : i < xs.length), w.cell? ⟨b, off + i, none⟩ = some (.int .i64 xs[i])) := by
  obtain ⟨ao, cap, rfl, hc, hm, _, HA⟩ := h
  rw [List.length_map] at hc HA
  refine ⟨ao, cap, by rw [List.length_map], hc, hm, Lib.hid fun hp => ?_⟩
  obtain ⟨b, off, h1, h2, h3⟩ := HA hp
  refine ⟨b, off, h1, h2, fun i hi => ?_⟩
  rw [h3 i hi, List.getElem?_map, List.getElem?_eq_getElem hi]; rfl
theorem rd_of_own {w : World} {b : Nat} {v : Value} {l : List UInt8} (h : w.ownsRow b 5 1 v l.length (l.map bv)) : Rd w v l := by
  rcases h.2 with ⟨rfl, h0⟩ | ⟨g, cap, cur, rfl, h2, h3, h4⟩
  · have : l = [] := List.eq_nil_of_length_eq_zero h0
    subst this
    exact rd_nil _
  · exact own_rd h
def fitsI (x : Int) : Prop := -9223372036854775808 ≤ x ∧ x ≤ 9223372036854775807
theorem digN_len (xs : List Int) (h : ∀ x ∈ xs, fitsI x) : (digN xs).length ≤ xs.length * 22 := by
  induction xs with
  | nil => simp [digN]
  | cons x xs ih =>
    have h1 := Lib.itoa_length_le x (h x (by simp)).1 (h x (by simp)).2
    have h2 := ih (fun y hy => h y (by simp [hy]))
    simp only [digN, List.flatMap_cons, List.length_append, List.length_cons, List.length_nil] at h2 ⊢
    omega
theorem u8_info : (Tryd.prog.info? 5).map (fun i => (i.zero, i.size, i.bytes)) = some (some (.int .u8 0), 1, 1) := by kernel_rfl
set_option maxRecDepth 100000 in
set_option maxHeartbeats 1000000 in
theorem digits_any (v : Value) (xs : List Int) (hx : xs.length ≤ 1000) (hf : ∀ x ∈ xs, fitsI x) (w : World) (h : RdV w v (xs.map iv)) (ht : Tab w) :
    Calls Tryd.prog 18 #[v] w fun e w' => e = .returned (sv (digN xs)) ∧ Below w.heap.size w w' := by
  obtain ⟨i0, hi0, hz0, hz1, hz2⟩ := info_parts u8_info
  obtain ⟨ao, cap, rfl, hc, hm, HA⟩ := rdv_open h
  have HF := Lib.hid hf
  have HT := Lib.hid ht
  clear h hf ht
  unfold sv
  go_enter Tryd.func18, Tryd.ntmps18
  go_wp2_with fail
  go_loopw [3, 8] (fun z i wr => ∃ j : Nat, j ≤ xs.length ∧ i = .int .i64 (j : Int) ∧ Below w.heap.size w wr ∧ Hid (wr.ownsRow w.heap.size 5 1 z (digN (xs.take j)).length ((digN (xs.take j)).map bv))) (fun _ i _ => 1000 - (intOf i).toNat)
  case atStart => exact ⟨0, Nat.zero_le _, rfl, Below.refl _ _, Lib.hid (World.ownsRow_nil _ _ _ _)⟩
  case round =>
    obtain ⟨j, hj, rfl, bel, HO⟩ := hrel
    have hdl : (digN (xs.take j)).length ≤ 22000 := by
      have := digN_len (xs.take j) (fun x hx => HF.out x (List.mem_of_mem_take hx))
      simp at this; omega
    by_cases hjx : j < xs.length
    · obtain ⟨b, off, rfl, hb, hcells⟩ := HA.out (by omega)
      have hc0 := (bel.cell (p := ⟨b, off + j, none⟩) hb).trans (hcells j hjx)
      have hdt : digN (xs.take (j + 1)) = digN (xs.take j) ++ (Lib.itoa xs[j] ++ [44]) := by
        have e1 : digN (xs.take j ++ [xs[j]]) = digN (xs.take j) ++ digN [xs[j]] := by unfold digN; rw [List.flatMap_append]
        have e2 : digN [xs[j]] = Lib.itoa xs[j] ++ [44] := by unfold digN; simp
        rw [List.take_succ_eq_append_getElem hjx, e1, e2]
      have hfx := HF.out xs[j] (List.getElem_mem hjx)
      obtain ⟨x, ex⟩ : ∃ x, x = xs[j] := ⟨_, rfl⟩
      rw [← ex] at hc0 hdt hfx
      obtain ⟨P, hP⟩ : ∃ P, P = digN (xs.take j) := ⟨_, rfl⟩
      rw [← hP] at hdt hdl HO
      have HDT := Lib.hid hdt
      have AI := Tryd.strconv_AppendInt_10 w.heap.size P.length x hfx.1 hfx.2 _ _ wr HO.out bel.size (by omega) (tab_on HT.out bel (Nat.le_refl _))
      have hil := Lib.itoa_length_le x hfx.1 hfx.2
      obtain ⟨I, hI⟩ : ∃ I, I = Lib.itoa x := ⟨_, rfl⟩
      rw [← hI] at AI hil
      have HI := Lib.hid hI
      clear hdt ex hcells hP hfx HO hI
      go_wp2_with fail
      refine AI.mono ?_
      rintro e w1 ⟨z1, rfl, o1, g1, _⟩
      have B1 := bel.trans g1
      clear AI g1
      go_wp2_with (at_builtin; refine wpList_app1 w rfl (.tmp 15) (.tmp 16) 54 rfl w.heap.size 5 i0 (.int .u8 0) 1 Tryd.underlying54 hi0 hz0 hz1 hz2 rfl z1 (P.length + I.length) _ rfl o1 5 (.int .u8 44) rfl rfl (by unfold maxLen; omega) (by omega) (Nat.le_refl _) B1 ?_; intro z2 w2 o2 B2)
      have HO2 := Lib.hid o2
      clear o1 o2
      go_roundw
      case rel =>
        refine ⟨j + 1, by omega, by go_num, B2, Lib.hid ?_⟩
        rw [HDT.out, ← HI.out]
        have e1 : (P ++ (I ++ [44])).length = P.length + I.length + 1 := by simp; omega
        have e2 : (P ++ (I ++ [44])).map bv = P.map bv ++ Lib.byteCells I ++ [.int .u8 44] := by simp [Lib.byteCells, bv, Function.comp_def]
        rw [e1, e2]
        exact HO2.out
      case measure => simp [intOf]; omega
    · have hj2 : xs.take j = xs := List.take_of_length_le (by omega)
      rw [hj2] at HO
      have hcv := conv_rd (rd_of_own HO.out) 54 5 9 Tryd.underlying54 Tryd.underlying5 Tryd.underlying9
      clear HO hj2 hdl
      go_wp2_with fail
      go_ret
      exact ⟨rfl, bel⟩
end Go.Proofs.YtblhgliegoickaaDoor
