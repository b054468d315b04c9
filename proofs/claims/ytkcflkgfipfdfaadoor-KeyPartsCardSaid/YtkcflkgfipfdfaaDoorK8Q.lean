/- Keys: parts joined; the document's parts. -/
import Derived.Test.YtkcflkgfipfdfaaDoorK8J
import Derived.Test.YtkcflkgfipfdfaaDoorLst
import Derived.Lib.Join
namespace Go.Proofs.YtkcflkgfipfdfaaDoor
open Go Go.RowKit
set_option linter.unusedVariables false
set_option linter.unusedSimpArgs false
/-- Parts joined. -/
def joinL (F : List (List UInt8)) : List UInt8 := Lib.join F [47]
theorem joinL_snoc (r : List (List UInt8)) (y : List UInt8) : joinL (r ++ [y]) = if r = [] then y else joinL r ++ [47] ++ y := by
  cases r with
  | nil => rw [if_pos rfl]; exact Lib.join_one y [47]
  | cons x r =>
    rw [if_neg (by simp)]
    show Lib.join (x :: (r ++ [y])) [47] = Lib.join (x :: r) [47] ++ [47] ++ y
    rw [Lib.join_cons, Lib.join_cons]
    simp [Lib.joinTail]
theorem joinL_cons (x : List UInt8) {r : List (List UInt8)} (h : r ≠ []) : joinL (x :: r) = x ++ 47 :: joinL r := by
  cases r with
  | nil => exact absurd rfl h
  | cons y r =>
    show Lib.join (x :: y :: r) [47] = x ++ 47 :: Lib.join (y :: r) [47]
    rw [Lib.join_cons, Lib.join_cons]
    simp [Lib.joinTail]
theorem partsGo_ne (acc l : List UInt8) : partsGo acc l ≠ [] := by
  cases l with
  | nil => simp [partsGo]
  | cons c r =>
    unfold partsGo
    split
    · simp
    · exact partsGo_ne (acc ++ [c]) r
  termination_by l.length
theorem join_parts : ∀ (l acc : List UInt8), joinL (partsGo acc l) = acc ++ l
  | [], acc => by rw [partsGo]; show Lib.join [acc] [47] = _; rw [Lib.join_one]; simp
  | c :: r, acc => by
    unfold partsGo
    split
    · rename_i h
      rw [joinL_cons acc (partsGo_ne [] r), join_parts r [], h]; simp
    · rw [join_parts r (acc ++ [c])]; simp
/-- Join of the program: the parts lie in memory. -/
theorem sjoin_any (v : Value) (F : List (List UInt8)) (w : World) (h : RdV w v (F.map sv)) (hJ : (joinL F).length ≤ 100000) (hF : F.length ≤ 1000) :
    Calls Tryd.prog 31 #[v, .string (ByteArray.mk #[47])] w fun e w' => e = .returned (.string (str (joinL F))) ∧ Below w.heap.size w w' := by
  obtain ⟨ao, cap, rfl, h1, h2, h3, h4⟩ := h
  rw [List.length_map] at h1 h4 ⊢
  cases F with
  | nil =>
    refine (Tryd.strings_Join_none ao cap (ByteArray.mk #[47]) w).mono ?_
    rintro e w' ⟨rfl, rfl⟩
    exact ⟨rfl, Below.refl _ _⟩
  | cons x r =>
    obtain ⟨b, off, rfl, hb, hc⟩ := h4 (by simp)
    have hm : ((x :: r).map str).map (·.data.toList) = x :: r := by
      rw [List.map_map]
      have : ((fun s : ByteArray => s.data.toList) ∘ str) = id := by funext l; exact str_toList l
      rw [this, List.map_id]
    have := Tryd.strings_Join b off cap ((x :: r).map str) (ByteArray.mk #[47]) w ?_ hb (by rw [List.length_map]; omega) (by rw [List.length_map]; omega) (by rw [hm]; show (joinL (x :: r)).length ≤ _; omega)
    · rw [hm, List.length_map] at this
      exact this.mono fun e w' h => ⟨h.1, h.2⟩
    · intro j y hy
      have hj : j < (x :: r).length := by have := (List.getElem?_eq_some_iff.1 hy).1; simpa using this
      rw [hc j hj]
      rw [List.getElem?_map] at hy ⊢
      obtain ⟨z, hz, rfl⟩ := Option.map_eq_some_iff.1 hy
      rw [hz]; rfl
theorem join_any (v : Value) (F : List (List UInt8)) (w : World) (tab : TabAt w) (h : RdV w v (F.map sv)) (hJ : (joinL F).length ≤ 100000) (hF : F.length ≤ 1000) :
    Calls Tryd.prog 17 #[v] w fun e w' => e = .returned (.tuple (bif isB (joinL F) then #[.string (str (joinL F)), .int .i64 0] else #[.string (ByteArray.mk #[]), .int .i64 3])) ∧ Below w.heap.size w w' := by
  have SJ := sjoin_any v F w h hJ hF
  have IS := (is_any (joinL F) (by unfold maxLen; omega)).ret
  have bel := Below.refl w.heap.size w
  generalize joinL F = J at SJ IS
  cases hb : isB J with
  | true =>
    rw [hb] at IS
    clear hb h hJ hF
    go_enter Tryd.func17, Tryd.ntmps17
    go_wp2_with (first | ((with_reducible refine (SJ).mono ?_); rintro e w' ⟨rfl, g⟩; have tab := tab.below g; have bel := chain bel g; clear g) | ((with_reducible refine (IS.at _ tab).mono ?_); rintro e w' ⟨rfl, g⟩; have tab := tab.below g; have bel := chain bel g; clear g))
    go_ret2
    exact ⟨rfl, bel⟩
  | false =>
    rw [hb] at IS
    clear hb h hJ hF
    go_enter Tryd.func17, Tryd.ntmps17
    go_wp2_with (first | ((with_reducible refine (SJ).mono ?_); rintro e w' ⟨rfl, g⟩; have tab := tab.below g; have bel := chain bel g; clear g) | ((with_reducible refine (IS.at _ tab).mono ?_); rintro e w' ⟨rfl, g⟩; have tab := tab.below g; have bel := chain bel g; clear g))
    go_ret2
    exact ⟨rfl, bel⟩
/-- 'out = append(out, s)', out the call's own, its parts strings. -/
theorem partsGo_round (l : List UInt8) (k : Nat) (h : k < l.length) (done : List (List UInt8)) (acc : List UInt8) (e : splitL l = done ++ partsGo acc (l.drop k)) :
    (l.getD k 0 = 47 → splitL l = (done ++ [acc]) ++ partsGo [] (l.drop (k + 1))) ∧ (l.getD k 0 ≠ 47 → splitL l = done ++ partsGo (acc ++ [l.getD k 0]) (l.drop (k + 1))) := by
  rw [drop_getD l k h] at e
  constructor
  · intro hc
    rw [e, partsGo, if_pos hc]; simp
  · intro hc
    rw [e, partsGo, if_neg hc]
set_option maxRecDepth 100000 in
set_option maxHeartbeats 1000000 in
theorem refParts_any (l : List UInt8) (hl : l.length ≤ 24) (w : World) :
    Calls Tryd.prog 19 #[.string (str l)] w fun e w' => ∃ v, e = .returned v ∧ RdV w' v ((splitL l).map sv) ∧ Below w.heap.size w w' := by
  obtain ⟨i0, hi, hz0, hz1, hz2⟩ := info_parts strinfo
  have hz : (str l).size = l.length := str_size l
  go_enter Tryd.func19, Tryd.ntmps19
  go_wp2_with fail
  go_loopw [3, 4, 5] (fun d p i wr => ∃ (k : Nat) (done : List (List UInt8)) (acc : List UInt8), k ≤ l.length ∧ i = .int .i64 (k : Int) ∧ p = .string (str acc) ∧ acc.length ≤ k ∧ done.length ≤ k ∧ Hid (splitL l = done ++ partsGo acc (l.drop k)) ∧ wr.ownsRow w.heap.size 9 1 d done.length (done.map sv) ∧ Below w.heap.size w wr)
    (fun _ _ i _ => l.length - (intOf i).toNat)
  case atStart => exact ⟨0, [], [], Nat.zero_le _, rfl, rfl, by simp, by simp, by show splitL l = _; simp [splitL], World.ownsRow_nil _ _ _ _, Below.refl _ _⟩
  case round =>
    obtain ⟨k, done, acc, hk, rfl, rfl, ha, hd, hs, hown, bel⟩ := hrel
    have hza : (str acc).size = acc.length := str_size acc
    by_cases hlt : k < l.length
    · have hcc : ∀ h : k < (str l).size, ((str l)[k]'h).toNat = (l.getD k 0).toNat := fun h => by rw [str_byte]
      obtain ⟨r1, r2⟩ := partsGo_round l k hlt done acc hs.out
      have hex : (str l).extract k (k + 1) = str [l.getD k 0] := by
        rw [str_extract, drop_getD l k hlt]; simp
      have h256 := (l.getD k 0).toNat_lt
      by_cases hc : l.getD k 0 = 47
      · have H1 := Lib.hid (r1 hc)
        rw [hc] at hcc
        have hcc2 : ∀ h : k < (str l).size, ((str l)[k]'h).toNat = 47 := hcc
        clear hcc r1 r2 hs hc hex h256
        go_wp2_with (at_builtin; refine wpList_app1 w rfl (.tmp 16) (.tmp 18) 27 rfl w.heap.size 9 i0 (.string ⟨#[]⟩) 16 Tryd.underlying27 hi hz0 hz1 hz2 rfl _ _ _ rfl hown _ (sv acc) rfl rfl (by unfold maxLen; omega) (by omega) (Nat.le_refl _) bel ?_; intro v' w1 hown' hb')
        exact ⟨⟨k + 1, done ++ [acc], [], by omega, by push_cast; rfl, rfl, by simp, by simp; omega, H1, by simpa using hown', hb'⟩, by simp [intOf]; omega⟩
      · have H2 := Lib.hid (r2 hc)
        have hne : ((l.getD k 0).toNat : Int) ≠ 47 := by
          intro h
          exact hc (UInt8.toNat.inj (by have : (47 : UInt8).toNat = 47 := rfl; omega))
        have hne2 : (((l.getD k 0).toNat : Int) == 47) = false := by simpa using hne
        have happ := str_append acc [l.getD k 0]
        have hz1' : (str [l.getD k 0]).size = 1 := str_size _
        generalize l.getD k 0 = c at *
        generalize c.toNat = m at *
        clear r1 r2 hs hc hne
        go_wp2_with fail
        exact ⟨⟨k + 1, done, acc ++ [c], by omega, by push_cast; rfl, rfl, by simp; omega, by omega, H2, hown, bel⟩, by simp [intOf]; omega⟩
    · have hend : splitL l = done ++ [acc] := by
        have := hs.out
        rw [List.drop_eq_nil_of_le (by omega)] at this
        exact this
      have HE := Lib.hid hend
      obtain rfl : k = l.length := by omega
      clear hs hend
      go_wp2_with (at_builtin; refine wpList_app1 w rfl (.tmp 27) (.tmp 29) 27 rfl w.heap.size 9 i0 (.string ⟨#[]⟩) 16 Tryd.underlying27 hi hz0 hz1 hz2 rfl _ _ _ rfl hown _ (sv acc) rfl rfl (by unfold maxLen; omega) (by omega) (Nat.le_refl _) bel ?_; intro v' w1 hown' hb')
      go_ret
      refine ⟨v', rfl, ?_, hb'⟩
      rw [HE.out, List.map_append]
      exact own_rdv hown'
end Go.Proofs.YtkcflkgfipfdfaaDoor
