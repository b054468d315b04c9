/- The reader of layer 1 is made. Written by wip/tools/gen1f.py. -/
import Derived.Test.YtlafmalgioffkaaL01G
import Derived.Lib.SliceRun
namespace Go.Proofs.Ytlafmalgioffkaa
open Go.RowKit
set_option linter.unusedVariables false
set_option linter.unusedSimpArgs false
theorem own_keep {w w' : World} {b : Nat} {e : TypeId} {size : Nat} {v : Value} {n : Nat} {xs : List Value} (h : w.ownsRow b e size v n xs) (hk : ∀ k, b ≤ k → k < w.heap.size → w'.heap[k]? = w.heap[k]?) : w'.ownsRow b e size v n xs := by
  refine ⟨h.1, ?_⟩
  rcases h.2 with h1 | ⟨g, cap, cur, rfl, h2, h3, h4⟩
  · exact .inl h1
  · exact .inr ⟨g, cap, cur, rfl, h2, (hk g h2 (lt_of_block h3)).trans h3, h4⟩
set_option maxRecDepth 100000 in
theorem clone_any (v : Value) (l : List UInt8) (w : World) (h : Rd w v l) (hl : l.length ≤ 2000) :
    Calls Try.prog 49 #[v] w fun e w' => ∃ v', e = .returned v' ∧ w'.ownsRow w.heap.size 5 1 v' l.length (l.map bv) ∧ Below w.heap.size w w' := by
  obtain ⟨i0, hi0, hz0, hz1, hz2⟩ := info_parts u8info
  have H := Lib.hid h
  have B := Below.refl w.heap.size w
  obtain ⟨ao, cap, rfl, h2, h3, h4, h5⟩ := h
  cases ao with
  | none =>
    have hc := h4 rfl
    have h0 : l = [] := List.eq_nil_of_length_eq_zero (by omega)
    subst h0
    subst hc
    have qT : ∀ (w : World), (binOp .eql 24 (.slice none 0 0) (.slice none 0 0)).run Try.prog w = .ok (.bool true) w := fun w => Lib.run_eql_slice_nil w _ _ none 0 0 0 0 Try.underlying24
    go_enter Try.func49, Try.ntmps49
    go_wp2_with fail
    go_ret
    exact ⟨_, rfl, World.ownsRow_nil _ _ _ _, B⟩
  | some a =>
    have qT : ∀ (w : World) (n c : Nat), (binOp .eql 24 (.slice (some a) n c) (.slice none 0 0)).run Try.prog w = .ok (.bool false) w := fun w n c => Lib.run_eql_slice_nil w _ _ (some a) n c 0 0 Try.underlying24
    go_enter Try.func49, Try.ntmps49
    go_wp2_with (at_builtin; refine wpList_app_rd w rfl (.tmp 5) (.tmp 6) 24 rfl w.heap.size 5 i0 (.int .u8 0) 1 Try.underlying24 hi0 hz0 hz1 hz2 rfl _ 0 [] rfl (World.ownsRow_lit _ #[] 0 B.size (by decide) rfl) _ l rfl (H.out.below ((Below.refl _ _).alloc (Nat.le_refl _) _) (Nat.le_refl _)) (by unfold maxLen; omega) (by omega) (Nat.le_refl _) (B.alloc B.size _) ?_; intro v1 W2 o2 B2; rw [Nat.zero_add, List.nil_append] at o2)
    go_ret
    exact ⟨_, rfl, o2, B2⟩
/-- A reader that was just made: its bytes lie from here on. -/
def RN (n1 : Nat) (w : World) (B : Nat) (v : Value) (l : List UInt8) : Prop :=
  n1 ≤ B ∧ w.heap[B]? = some (.cells #[v, .int .i64 ((0 : Nat) : Int), .int .i64 ((0 : Nat) : Int)] 82 (0, 0)) ∧ l.length ≤ 2000 ∧
    Hid (∀ w', (∀ k, n1 ≤ k → k < B → w'.heap[k]? = w.heap[k]?) → Rd w' v l)
theorem rd_of_own {w : World} {b : Nat} {v : Value} {l : List UInt8} (h : w.ownsRow b 5 1 v l.length (l.map bv)) : Rd w v l := by
  rcases h.2 with ⟨rfl, h0⟩ | ⟨g, cap, cur, rfl, h2, h3, h4⟩
  · have : l = [] := List.eq_nil_of_length_eq_zero h0
    subst this
    exact rd_nil _
  · exact own_rd h
set_option maxRecDepth 100000 in
theorem read_any (v : Value) (l : List UInt8) (w : World) (h : Rd w v l) (hl : l.length ≤ 2000) :
    Calls Try.prog 31 #[v] w fun e w' => ∃ B z, e = .returned (.pointer (some ⟨B, 0, none⟩)) ∧ RN w.heap.size w' B z l ∧ Below w.heap.size w w' := by
  go_enter Try.func31, Try.ntmps31
  go_wp2_with fail
  refine (clone_any v l w h hl).mono ?_
  rintro e w1 ⟨z, rfl, ho, g⟩
  obtain ⟨ao, zn, zc, rfl⟩ : ∃ ao n c, z = .slice ao n c := by
    rcases ho.2 with ⟨rfl, _⟩ | ⟨g, cap, cur, rfl, _⟩
    · exact ⟨_, _, _, rfl⟩
    · exact ⟨_, _, _, rfl⟩
  have q := heap_alloc_new w1 (.cells #[.slice ao zn zc, .int .i64 0, .int .i64 0] 82)
  have hs := g.size
  have HO := Lib.hid ho
  clear ho
  go_wp2_with fail
  go_ret
  refine ⟨_, _, rfl, ⟨hs, q, hl, Lib.hid fun w' hk => rd_of_own (own_keep HO.out fun k h1 h2 => ?_)⟩, g.alloc hs _⟩
  rw [hk k h1 h2, heap_alloc_old _ _ h2]
theorem RN.rs {n1 : Nat} {w w1 : World} {B : Nat} {v : Value} {l : List UInt8} (h : RN n1 w B v l) (hk : ∀ k, n1 ≤ k → k < w.heap.size → w1.heap[k]? = w.heap[k]?) (hs : w.heap.size ≤ w1.heap.size) : RS w1 B v l 0 0 :=
  ⟨(hk B h.1 (lt_of_block h.2.1)).trans h.2.1, Nat.zero_le _, h.2.2.1, Lib.hid fun w' hg => h.2.2.2.out w' fun k h1 h2 => (hg k h2).trans (hk k h1 (Nat.lt_trans h2 (lt_of_block h.2.1)))⟩
end Go.Proofs.Ytlafmalgioffkaa
