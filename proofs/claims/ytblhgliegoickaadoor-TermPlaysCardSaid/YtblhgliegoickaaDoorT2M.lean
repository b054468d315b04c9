/- A table of texts: the map of their numbers. -/
import Derived.Test.YtblhgliegoickaaDoorLst
import Derived.Test.YtblhgliegoickaaDoorProg
import Derived.Maps.OwnSet
namespace Go.Proofs.YtblhgliegoickaaDoor
open Go Go.RowKit Go.Maps
set_option linter.unusedVariables false
set_option linter.unusedSimpArgs false
abbrev Txt := List UInt8
def sv (l : Txt) : Value := .string (str l)
def kl (l : Txt) : Lit := .string l
theorem law : Keyed Tryd.prog 9 := string_keyed Tryd.underlying9
theorem key_txt (l : Txt) (h : l.length ≤ maxLen) : keyOf Tryd.prog 9 (sv l) = some (kl l) := by
  have := WideMaps.keyOf_string_mk Tryd.underlying9 (s := str l) (by rw [str_size]; exact h)
  rw [str_toList] at this
  exact this
theorem zero_int (w : World) : (zeroValue 3).run Tryd.prog w = .ok (.int .i64 0) w := by kernel_rfl
theorem snoc_ind {α : Type} {P : List α → Prop} (h0 : P []) (h1 : ∀ l a, P l → P (l ++ [a])) (l : List α) : P l := by
  have : ∀ l : List α, P l.reverse := fun l => by
    induction l with
    | nil => exact h0
    | cons a l ih => rw [List.reverse_cons]; exact h1 _ _ ih
  rw [← List.reverse_reverse l]; exact this _
/-- The number of a text in a list; 0: it has none. -/
def numN (L : List Txt) (s : Txt) : Nat := if s ∈ L then L.idxOf s + 1 else 0
def numF (x : DataW Unit × Nat) (s : Txt) : DataW Unit × Nat := (x.1.put (kl s) (.lit (.int .i64 ((x.2 : Int) + 1))), x.2 + 1)
def numD (L : List Txt) : DataW Unit := (L.foldl numF (.map [], 0)).1
theorem numF_len (L : List Txt) : (L.foldl numF (.map [], 0)).2 = L.length := by
  induction L using snoc_ind with
  | h0 => rfl
  | h1 L s ih => rw [List.foldl_append, List.length_append]; simp [numF, ih]
theorem numD_snoc (L : List Txt) (s : Txt) : numD (L ++ [s]) = (numD L).put (kl s) (.lit (.int .i64 ((L.length : Int) + 1))) := by
  have e : (L ++ [s]).foldl numF (.map [], 0) = numF (L.foldl numF (.map [], 0)) s := by simp
  unfold numD
  rw [e]
  show (L.foldl numF (.map [], 0)).1.put (kl s) (.lit (.int .i64 (((L.foldl numF (.map [], 0)).2 : Int) + 1))) = _
  rw [numF_len]
theorem numD_map (L : List Txt) : IsMap (numD L) := by
  induction L using snoc_ind with
  | h0 => exact isMap_empty
  | h1 L s ih => rw [numD_snoc]; exact ih.put _ _
theorem kl_ne {a b : Txt} (h : a ≠ b) : kl a ≠ kl b := by unfold kl; intro e; cases e; exact h rfl
theorem num_snoc_old {L : List Txt} {s t : Txt} (h : s ∈ L) : numN (L ++ [t]) s = numN L s := by
  unfold numN
  rw [if_pos (List.mem_append_left _ h), if_pos h, List.idxOf_append, if_pos h]
theorem num_snoc_new {L : List Txt} {s : Txt} (h : ¬ s ∈ L) : numN (L ++ [s]) s = L.length + 1 := by
  unfold numN
  rw [if_pos (by simp), List.idxOf_append, if_neg h]
  simp
theorem num_snoc_other {L : List Txt} {s t : Txt} (h : s ≠ t) : numN (L ++ [t]) s = numN L s := by
  by_cases hm : s ∈ L
  · exact num_snoc_old hm
  · unfold numN; rw [if_neg (by simp [hm, h]), if_neg hm]
theorem numD_at (L : List Txt) (s : Txt) : L.Nodup → Maps.has (numD L) (kl s) = decide (s ∈ L) ∧ (numD L).atKey (kl s) (.lit (.int .i64 0)) = .lit (.int .i64 (numN L s : Int)) := by
  induction L using snoc_ind with
  | h0 => intro _; exact ⟨by simp [numD, Maps.has], by simp [numD, numN, DataW.atKey]⟩
  | h1 L t ih =>
    intro hn
    rw [List.nodup_append] at hn
    have hnt : ¬ t ∈ L := fun h => hn.2.2 t h t (by simp) rfl
    obtain ⟨i1, i2⟩ := ih hn.1
    rw [numD_snoc]
    by_cases e : s = t
    · subst e
      refine ⟨?_, ?_⟩
      · rw [has_put_same (numD_map L) (by trivial)]; simp
      · rw [atKey_put_same (numD_map L) (by trivial), num_snoc_new hnt]; simp
    · refine ⟨?_, ?_⟩
      · rw [has_put_other (kl_ne e), i1]; simp [e]
      · rw [atKey_put_other (kl_ne e), i2, num_snoc_other e]
/-- How a table lies in memory. -/
structure TB (w : World) (base B M : Nat) (v : Value) (L : List Txt) : Prop where
  nd : L.Nodup
  wf : ∀ x ∈ L, x.length ≤ maxLen
  len : L.length ≤ 2000
  bB : base ≤ B
  bM : base ≤ M
  blk : w.heap[B]? = some (.cells #[.map (some M), v] 49 (0, 0))
  map : w.ownsMap Tryd.prog 9 (plainElem Tryd.prog 3) M L.length (numD L)
  row : w.ownsRow base 9 1 v L.length (L.map sv)
theorem own_slice' {w : World} {base : Nat} {e : TypeId} {size : Nat} {v : Value} {n : Nat} {xs : List Value} (h : w.ownsRow base e size v n xs) : ∃ ao c, v = .slice ao n c := by
  rcases h.2 with ⟨e, h2⟩ | ⟨g, cap, cur, e, _⟩
  · exact ⟨none, 0, by rw [e, h2]⟩
  · exact ⟨_, _, e⟩
theorem TB.kept {w w' : World} {base B M : Nat} {v : Value} {L : List Txt} (h : TB w base B M v L)
    (g : ∀ k, k < w.heap.size → (k = B ∨ k = M ∨ v.ownBlock = some k) → w'.heap[k]? = w.heap[k]?) : TB w' base B M v L := by
  refine ⟨h.nd, h.wf, h.len, h.bB, h.bM, (g B (lt_of_block h.blk) (.inl rfl)).trans h.blk, ?_, ?_⟩
  · obtain ⟨es, clock, h3, h4⟩ := h.map
    exact ⟨es, clock, (g M (lt_of_block h3) (.inr (.inl rfl))).trans h3, h4⟩
  · refine ⟨h.row.1, ?_⟩
    rcases h.row.2 with hn | ⟨k, cap, cur, rfl, hb, hgg, rest⟩
    · exact .inl hn
    · exact .inr ⟨k, cap, cur, rfl, hb, (g k (lt_of_block hgg) (.inr (.inr rfl))).trans hgg, rest⟩
theorem TB.below {w w' : World} {base B M : Nat} {v : Value} {L : List Txt} (h : TB w base B M v L) (g : Below w.heap.size w w') : TB w' base B M v L :=
  h.kept fun k hk _ => g.block k hk
theorem cells2 {w : World} {B : Nat} {a0 a1 : Value} {t : TypeId} (h : w.heap[B]? = some (.cells #[a0, a1] t (0, 0))) : w.cell? ⟨B, 0, none⟩ = some a0 ∧ w.cell? ⟨B, 1, none⟩ = some a1 := by
  refine ⟨?_, ?_⟩
  all_goals simp [World.cell?, h]
set_option maxRecDepth 100000 in
theorem has_any (base B M : Nat) (v : Value) (L : List Txt) (s : Txt) (hs : s.length ≤ maxLen) (w : World) (h : TB w base B M v L) :
    Calls Tryd.prog 9 #[.pointer (some ⟨B, 0, none⟩), sv s] w fun e w' => e = .returned (.tuple #[.int .i64 (numN L s : Int), .bool (decide (s ∈ L))]) ∧ w = w' := by
  obtain ⟨c0, c1⟩ := cells2 h.blk
  obtain ⟨ao, cap, hv⟩ := own_slice' h.row
  have hm := h.map
  obtain ⟨n1, n2⟩ := numD_at L s h.nd
  obtain ⟨D, hD⟩ : ∃ D, D = numD L := ⟨_, rfl⟩
  rw [← hD] at hm n1 n2
  have N1 := Lib.hid n1
  have N2 := Lib.hid n2
  subst hv
  clear h n1 n2 hD
  have hk := key_txt s hs
  unfold sv at hk ⊢
  go_enter Tryd.func9, Tryd.ntmps9
  go_wp2_with (at_lookup; refine wpList_lookup_own_ok_int _ rfl _ _ 47 rfl 9 3 .i64 law Tryd.underlying47 Tryd.underlying3 (zero_int _) M L.length D rfl hm _ _ rfl hk ?_; intro c hat hwc)
  go_ret2
  rw [N2.out] at hat
  cases hat
  rw [N1.out]
  exact ⟨rfl, rfl⟩
end Go.Proofs.YtblhgliegoickaaDoor
