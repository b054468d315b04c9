/- The statements of layer 1, as walks: what is put, what is cut, texts. -/
import Derived.Test.YtcgphjpmhdepmaaL01B
import Derived.Test.YtcgphjpmhdepmaaL01T
import Derived.Test.YtcgphjpmhdepmaaL01Z
import Derived.Test.YtcgphjpmhdepmaaMath01b
import Derived.Deep.RegionWith
import Derived.WalkSpells
namespace Go.Proofs.Ytcgphjpmhdepmaa
open Go.RowKit
set_option linter.unusedVariables false
set_option linter.unusedSimpArgs false
theorem cv {w : World} {v : Value} {l : List UInt8} (h : Rd w v l) : (convert 24 9 v).run Try.prog w = .ok (.string (str l)) w :=
  conv_rd h 24 5 9 Try.underlying24 Try.underlying5 Try.underlying9
theorem nat_of_u64 {v : Int} (h : U64 v) : ∃ n : Nat, v = (n : Int) ∧ n < 18446744073709551616 := by
  obtain ⟨h1, h2⟩ := h
  exact ⟨v.toNat, by omega, by omega⟩
set_option maxRecDepth 100000 in
theorem cuts_any (v : Value) (l : List UInt8) (W : World) (h : Rd W v l) :
    Calls Try.prog 5 #[v] W fun e w' => e = .returned (.bool true) ∧ Below W.heap.size W w' := by
  go_enter Try.func5, Try.ntmps5
  go_wp2_with fail
  refine (few_any v l _ h).mono ?_
  rintro e w' ⟨⟨v', rfl, h'⟩, rfl⟩
  clear h
  obtain ⟨⟨x, n, c⟩, hr⟩ : ∃ r, cutL (l.take 2000) = r := ⟨_, rfl⟩
  have HR := Lib.hid hr
  have hlen : (l.take 2000).length ≤ maxLen := by unfold maxLen; simp; omega
  clear hr
  generalize l.take 2000 = l' at *
  have k1 := conv_rd (P := Try.prog) h' 24 5 9 Try.underlying24 Try.underlying5 Try.underlying9
  go_wp2_with (first
    | (go_at_call 19; refine (cut_at _ _ x n c HR _ h').mono ?_; rintro e w' ⟨rfl, rfl⟩)
    | (go_at_call 20; refine (cutInt_at _ _ x n c HR _ h').mono ?_; rintro e w' ⟨rfl, rfl⟩)
    | (go_at_call 21; refine (refCut_at _ x n c HR hlen _).mono ?_; rintro e w' ⟨rfl, rfl⟩)
    | (go_at_call 22; refine (refCutInt_at _ x n c HR hlen _).mono ?_; rintro e w' ⟨rfl, rfl⟩)
    | (go_at_call 12; refine (awake_any _).mono ?_; rintro e w' ⟨rfl, hb⟩))
  go_ret
  exact ⟨rfl, hb⟩
theorem str_tl (l : List UInt8) : (str l).toList = l := by unfold str; simp
theorem str_nil : str [] = ⟨#[]⟩ := rfl
theorem str_ex (s : ByteArray) : ∃ l, s = str l := ⟨s.data.toList, (str_of s).symm⟩
theorem extract_ex (l : List UInt8) (n : Nat) : ∃ t, (str l).extract 0 n = str t ∧ t.length ≤ n := ⟨(l.drop 0).take (n - 0), str_extract l 0 n, by simp; omega⟩
set_option maxRecDepth 100000 in
theorem texts_core (lt : List UInt8) (v : Value) (l : List UInt8) (W : World) (hs : lt.length ≤ 600) (h : Rd W v l) :
    Calls Try.prog 6 #[.string (str lt), v] W fun e w' => e = .returned (.bool true) ∧ Below W.heap.size W w' := by
  have B : Below W.heap.size W W := Below.refl _ _
  have hsz := str_size lt
  have hml : lt.length ≤ maxLen := by unfold maxLen; omega
  obtain ⟨⟨x, n, c⟩, hr⟩ : ∃ r, cutL (l.take 2000) = r := ⟨_, rfl⟩
  have HR := Lib.hid hr
  have hlen : (l.take 2000).length ≤ 2000 := by simp; omega
  clear hr
  have hx : lt.length ≤ 255 ∧ textL lt = putL lt.length ++ lt ∨ ¬ lt.length ≤ 255 ∧ textL lt = [] := by
    by_cases h' : lt.length ≤ 255
    · exact .inl ⟨h', if_pos h'⟩
    · exact .inr ⟨h', if_neg h'⟩
  rcases hx with ⟨hx, ht⟩ | ⟨hx, ht⟩
  all_goals
    have HT := Lib.hid ht
    clear ht
    go_enter Try.func6, Try.ntmps6
    go_wp2_with (first
      | (go_at_call 18; refine (few_any v l _ h).mono ?_; rintro e w' ⟨⟨v', rfl, h'⟩, rfl⟩; have r1 := h'; have k1 := cv r1)
      | (go_at_call 23; refine (refText_at lt hx _).mono ?_; rintro e W1 ⟨rfl, b⟩; have r1 := r1.below b (Nat.le_refl _); have B := B.trans (b.mono B.size); have k1 := cv r1)
      | (go_at_call 24; refine (cutText_at _ _ x n c HR hlen _ r1).mono ?_; rintro e w' ⟨rfl, rfl⟩)
      | (go_at_call 25; refine (refCutText_at _ x n c HR hlen _).mono ?_; rintro e w' ⟨rfl, rfl⟩)
      | (go_at_call 26; refine (putText_any lt _ hml).mono ?_; rintro e W2 ⟨v2, rfl, r2, _, b⟩; rw [HT.out] at r2; have B := B.trans (b.mono B.size); have k2 := cv r2; (try rw [str_nil] at k2))
      | (go_at_call 12; refine (awake_any _).mono ?_; rintro e W6 ⟨rfl, b⟩; have B := B.trans (b.mono B.size)))
    go_ret
    exact ⟨rfl, B⟩
set_option maxRecDepth 100000 in
theorem texts_long (s : ByteArray) (lt : List UInt8) (he : s.extract 0 600 = str lt) (h600 : 600 < s.size) (hsm : s.size ≤ maxLen) (v : Value) (l : List UInt8) (W : World) (hs : lt.length ≤ 600) (h : Rd W v l) :
    Calls Try.prog 6 #[.string s, v] W fun e w' => e = .returned (.bool true) ∧ Below W.heap.size W w' := by
  have B : Below W.heap.size W W := Below.refl _ _
  have hsz := str_size lt
  have HE := Lib.hid he
  clear he
  unfold maxLen at hsm
  have hml : lt.length ≤ maxLen := by unfold maxLen; omega
  obtain ⟨⟨x, n, c⟩, hr⟩ : ∃ r, cutL (l.take 2000) = r := ⟨_, rfl⟩
  have HR := Lib.hid hr
  have hlen : (l.take 2000).length ≤ 2000 := by simp; omega
  clear hr
  have hx : lt.length ≤ 255 ∧ textL lt = putL lt.length ++ lt ∨ ¬ lt.length ≤ 255 ∧ textL lt = [] := by
    by_cases h' : lt.length ≤ 255
    · exact .inl ⟨h', if_pos h'⟩
    · exact .inr ⟨h', if_neg h'⟩
  rcases hx with ⟨hx, ht⟩ | ⟨hx, ht⟩
  all_goals
    have HT := Lib.hid ht
    clear ht
    go_enter Try.func6, Try.ntmps6
    go_wp2_with fail
    rw [HE.out]
    go_wp2_with (first
      | (go_at_call 18; refine (few_any v l _ h).mono ?_; rintro e w' ⟨⟨v', rfl, h'⟩, rfl⟩; have r1 := h'; have k1 := cv r1)
      | (go_at_call 23; refine (refText_at lt hx _).mono ?_; rintro e W1 ⟨rfl, b⟩; have r1 := r1.below b (Nat.le_refl _); have B := B.trans (b.mono B.size); have k1 := cv r1)
      | (go_at_call 24; refine (cutText_at _ _ x n c HR hlen _ r1).mono ?_; rintro e w' ⟨rfl, rfl⟩)
      | (go_at_call 25; refine (refCutText_at _ x n c HR hlen _).mono ?_; rintro e w' ⟨rfl, rfl⟩)
      | (go_at_call 26; refine (putText_any lt _ hml).mono ?_; rintro e W2 ⟨v2, rfl, r2, _, b⟩; rw [HT.out] at r2; have B := B.trans (b.mono B.size); have k2 := cv r2; (try rw [str_nil] at k2))
      | (go_at_call 12; refine (awake_any _).mono ?_; rintro e W6 ⟨rfl, b⟩; have B := B.trans (b.mono B.size)))
    go_ret
    exact ⟨rfl, B⟩
theorem texts_any (s : ByteArray) (v : Value) (l : List UInt8) (W : World) (hs : s.size ≤ maxLen) (h : Rd W v l) :
    Calls Try.prog 6 #[.string s, v] W fun e w' => e = .returned (.bool true) ∧ Below W.heap.size W w' := by
  obtain ⟨ls, rfl⟩ := str_ex s
  by_cases h6 : 600 < (str ls).size
  · obtain ⟨t, h1, h2⟩ := extract_ex ls 600
    exact texts_long _ t h1 h6 hs v l W h2 h
  · exact texts_core ls v l W (by rw [str_size] at h6; omega) h
end Go.Proofs.Ytcgphjpmhdepmaa
