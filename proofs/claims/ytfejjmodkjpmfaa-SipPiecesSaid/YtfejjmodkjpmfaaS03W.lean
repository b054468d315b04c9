/- The words of bytes, as the document makes them. -/
import Derived.Test.YtfejjmodkjpmfaaS03G
namespace Go.Proofs.Ytfejjmodkjpmfaa
open Go.RowKit
set_option linter.unusedVariables false
set_option linter.unusedSimpArgs false
theorem u64info : (Try.prog.info? 22).map (fun i => (i.zero, i.size, i.bytes)) = some (some (.int .u64 0), 1, 8) := by kernel_rfl
def uv (m : Nat) : Value := .int .u64 (m : Int)
def lenOf : Value → Nat
  | .slice _ n _ => n
  | _ => 0
theorem slice_shape {w : World} {base : Nat} {e : TypeId} {size : Nat} {v : Value} {n : Nat} {xs : List Value} (h : w.ownsRow base e size v n xs) : ∃ ao cap, v = .slice ao n cap ∧ n ≤ cap ∧ cap ≤ maxLen := by
  rcases h.2 with ⟨rfl, rfl⟩ | ⟨g, cap, cur, rfl, _, _, h3, h4, _⟩
  · exact ⟨none, 0, rfl, Nat.le_refl _, by decide⟩
  · exact ⟨some ⟨g, 0, none⟩, cap, rfl, h3, h4⟩
theorem own_base {w : World} {base base' : Nat} {e : TypeId} {size : Nat} {v : Value} {n : Nat} {xs : List Value} (h : w.ownsRow base e size v n xs) (hb : base' ≤ base) : w.ownsRow base' e size v n xs :=
  ⟨h.1, h.2.imp id (fun ⟨g, cap, cur, a, b, c⟩ => ⟨g, cap, cur, a, Nat.le_trans hb b, c⟩)⟩
def chunk (A : List UInt8) (i : Nat) : Nat := le8 ((A.drop (8 * i)).take 8)
theorem words_chunks : ∀ (M : Nat) (A : List UInt8), A.length = 8 * M → words A = (List.range M).map (chunk A)
  | 0, A, h => by
    obtain rfl : A = [] := List.eq_nil_of_length_eq_zero (by omega)
    simp [words]
  | M + 1, A, h => by
    match A, h with
    | b0 :: b1 :: b2 :: b3 :: b4 :: b5 :: b6 :: b7 :: t, h =>
      have ht : t.length = 8 * M := by simp at h; omega
      rw [words_cons, words_chunks M t ht, List.range_succ_eq_map, List.map_cons, List.map_map]
      congr 1
    | [], h => simp at h
    | [_], h => simp at h; omega
    | [_, _], h => simp at h; omega
    | [_, _, _], h => simp at h; omega
    | [_, _, _, _], h => simp at h; omega
    | [_, _, _, _, _], h => simp at h; omega
    | [_, _, _, _, _, _], h => simp at h; omega
    | [_, _, _, _, _, _, _], h => simp at h; omega
theorem pad_len (l : List UInt8) : ∃ M, (padN l.length l).length = 8 * M ∧ 1 ≤ M := by
  refine ⟨l.length / 8 + 1, ?_, by omega⟩
  simp [padN]
  omega
theorem le8_front (A : List UInt8) (q j : Nat) (hj : j < 8) (hA : 8 * q + 8 ≤ A.length) : le8 ((A.drop (8 * q + (7 - j))).take (j + 1)) = le8 ((A.drop (8 * q + (8 - j))).take j) * 256 + (A.getD (8 * q + (7 - j)) 0).toNat ∧ le8 ((A.drop (8 * q + (8 - j))).take j) < 256 ^ j := by
  have h1 : 8 * q + (7 - j) < A.length := by omega
  have e : A.drop (8 * q + (7 - j)) = A.getD (8 * q + (7 - j)) 0 :: A.drop (8 * q + (8 - j)) := by
    rw [List.drop_eq_getElem_cons h1]
    congr 1
    · simp [List.getD, h1]
    · congr 1; omega
  have hl := le8_lt ((A.drop (8 * q + (8 - j))).take j)
  rw [show ((A.drop (8 * q + (8 - j))).take j).length = j from by simp; omega] at hl
  rw [e, List.take_succ_cons, le8]
  exact ⟨by omega, hl⟩
set_option maxRecDepth 100000 in
set_option maxHeartbeats 1000000 in
theorem words_any (v : Value) (l : List UInt8) (hl : l.length ≤ 100000) (w : World) (h : Rd w v l) :
    Calls Try.prog 18 #[v] w fun e w' => ∃ g n cap, e = .returned (.slice (some ⟨g, 0, none⟩) n cap) ∧ n = (words (padN l.length l)).length ∧ w'.ownsRow w.heap.size 22 1 (.slice (some ⟨g, 0, none⟩) n cap) n ((words (padN l.length l)).map uv) ∧ Below w.heap.size w w' := by
  obtain ⟨i0, hi0, hz0, hz1, hz2⟩ := info_parts u8info
  obtain ⟨j0, gi0, gz0, gz1, gz2⟩ := info_parts u64info
  obtain ⟨ao0, cap0, ev, hlc, hcm, -, -⟩ := id h
  obtain ⟨ln, eln⟩ : ∃ n, n = l.length := ⟨_, rfl⟩
  rw [← eln] at ev hlc hl ⊢
  subst ev
  have RD := Lib.hid h
  have ELN := Lib.hid eln
  clear h eln
  unfold maxLen at hcm
  have B := Below.refl w.heap.size w
  go_enter Try.func18, Try.ntmps18
  go_wp2_with (at_builtin; refine wpList_app_rd w rfl (.tmp 11) (.tmp 12) 25 rfl w.heap.size 5 i0 (.int .u8 0) 1 Try.underlying25 hi0 hz0 hz1 hz2 rfl _ 0 [] rfl (World.ownsRow_lit _ #[] 0 (Nat.le_refl _) (by decide) rfl) _ l rfl (RD.out.below ((Below.refl _ _).alloc (Nat.le_refl _) _) (Nat.le_refl _)) (by unfold maxLen; have := ELN.out; omega) (by have := ELN.out; omega) (Nat.le_refl _) (B.alloc B.size _) ?_; intro v1 w1 o1 B1; rw [Nat.zero_add, List.nil_append] at o1)
  rw [← ELN.out] at o1
  obtain ⟨ao1, cap1, rfl, _, _⟩ := slice_shape o1
  go_wp2_with fail
  go_loopw [4] (fun x wr => ∃ (k : Nat) (ao : Option Addr) (cap : Nat), x = .slice ao (ln + k) cap ∧ k ≤ 7 - ln % 8 ∧ wr.ownsRow w.heap.size 5 1 (.slice ao (ln + k) cap) (ln + k) ((l ++ List.replicate k 0).map bv) ∧ Below w.heap.size w wr)
    (fun x _ => ln + 8 - lenOf x)
  case atStart => exact ⟨0, ao1, cap1, rfl, by omega, by simpa using o1, B1⟩
  case round =>
    obtain ⟨k, ao, cap, rfl, hk, hown, B⟩ := hrel
    obtain ⟨L, eL⟩ : ∃ L, L = ln + k := ⟨_, rfl⟩
    rw [← eL] at hown ⊢
    have EL := Lib.hid eL
    have hL : L ≤ 100007 := by omega
    clear eL
    by_cases h7 : L % 8 = 7
    · skip
      have hk7 : ln % 8 + k = 7 := by have := EL.out; omega
      obtain ⟨cN, ecN⟩ : ∃ c, c = ln % 256 := ⟨_, rfl⟩
      have hc1 : (ln : Int).tmod 256 = (cN : Int) := by rw [Int.tmod_eq_emod_of_nonneg (by omega)]; omega
      have hc2 : (ln : Int) % 256 = (cN : Int) := by omega
      have hlt : cN < 256 := by omega
      have hcw : IntKind.u8.wrap (cN : Int) = (cN : Int) := by simp [IntKind.wrap, IntKind.bits, IntKind.signed]; omega
      have hcb : Value.int .u8 (cN : Int) = bv (UInt8.ofNat (ln % 256)) := by
        rw [bv, UInt8.toNat_ofNat', ecN]; congr 1; omega
      have hpad : l ++ List.replicate k 0 ++ [UInt8.ofNat (ln % 256)] = padN ln l := by
        unfold padN
        rw [← ELN.out, show 7 - ln % 8 = k from by omega]
      have HCB := Lib.hid hcb
      have HPAD := Lib.hid hpad
      clear hcb hpad ecN
      have h7a : (L : Int).tmod 8 = 7 := by rw [Int.tmod_eq_emod_of_nonneg (by omega)]; omega
      have h7b : (L : Int) % 8 = 7 := by omega
      go_wp2_with (at_builtin; go_loud (refine wpList_app1 w rfl _ _ 25 rfl w.heap.size 5 i0 (.int .u8 0) 1 Try.underlying25 hi0 hz0 hz1 hz2 rfl _ _ _ rfl hown _ _ rfl rfl (by unfold maxLen; omega) (by omega) (Nat.le_refl _) B ?_); intro v' wA oA BA)
      rw [HCB.out, show [bv (UInt8.ofNat (ln % 256))] = List.map bv [UInt8.ofNat (ln % 256)] from rfl, ← List.map_append, HPAD.out] at oA
      obtain ⟨M, hM, hM1⟩ := pad_len l
      rw [← ELN.out] at hM
      obtain ⟨A, eA⟩ : ∃ A, A = padN ln l := ⟨_, rfl⟩
      rw [← eA] at oA hM
      have EA := Lib.hid eA
      have hLM : L + 1 = 8 * M := by have := oA.1; simp at this; omega
      clear eA
      rw [hLM] at oA
      obtain ⟨gA, capA, rfl, hcA1, hcA2⟩ := slice_of_own oA (by omega)
      have rA := own_rd oA
      have BA' := BA
      obtain ⟨aoA, cA, eqA, -, -, -, hxA⟩ := rA
      injection eqA with e1 e2 e3
      obtain ⟨bA, offA, e4, hbA, hcell⟩ := hxA (by omega)
      rw [← e1] at e4
      injection e4 with e4
      injection e4 with e5 e6
      subst e5
      subst e6
      have HC := Lib.hid hcell
      clear hcell e1 e2 e3 oA hown hc1 hc2 hcw h7a h7b
      unfold maxLen at hcA2
      go_wp2_with fail
      go_loopw [5, 6] (fun x i wr => ∃ (q : Nat) (ao : Option Addr) (cap : Nat), x = .slice ao q cap ∧ i = .int .i64 (8 * (q : Int)) ∧ q ≤ M ∧ wr.ownsRow wA.heap.size 22 1 (.slice ao q cap) q (((List.range q).map (chunk A)).map uv) ∧ Below wA.heap.size wA wr)
        (fun _ i _ => 8 * M + 8 - (intOf i).toNat)
      case atStart => exact ⟨0, none, 0, rfl, rfl, by omega, World.ownsRow_nil _ _ _ _, Below.refl _ _⟩
      case round =>
        obtain ⟨q, ao2, cap2, rfl, rfl, hq, o2, B2⟩ := hrel
        by_cases hqM : q < M
        · have hA8 : 8 * q + 8 ≤ A.length := by omega
          go_wp2_with fail
          go_loop [7, 8] (fun x k => ∃ j m : Nat, j ≤ 8 ∧ x = .int .u64 (m : Int) ∧ k = .int .i64 (7 - (j : Int)) ∧ Hid (m = le8 ((A.drop (8 * q + (8 - j))).take j))) (fun _ k => (intOf k + 1).toNat)
          case atStart => exact ⟨0, 0, by omega, rfl, rfl, by simp [Hid, le8]⟩
          case round =>
            obtain ⟨j, m, hj, rfl, rfl, hm⟩ := hrel
            by_cases hj8 : j < 8
            · obtain ⟨f1, f2⟩ := le8_front A q j hj8 hA8
              rw [← hm.out] at f1 f2
              obtain ⟨p, ep⟩ : ∃ p, p = 8 * q + (7 - j) := ⟨_, rfl⟩
              rw [← ep] at f1
              have hp : 8 * (q : Int) + (7 - (j : Int)) = (p : Int) := by omega
              have hpA : p < A.length := by omega
              have hp8 : p < 8 * M := by omega
              have hcc := (B2.cell (p := ⟨gA, 0 + p, none⟩) hbA).trans (HC.out p hpA)
              rw [Nat.zero_add] at hcc
              obtain ⟨c, ec⟩ : ∃ c, c = (A.getD p 0).toNat := ⟨_, rfl⟩
              have hc256 : c < 256 := by rw [ec]; exact (A.getD p 0).toNat_lt
              rw [bv, ← ec] at hcc
              rw [← ec] at f1
              have hm7 : m < 256 ^ 7 := Nat.lt_of_lt_of_le f2 (Nat.pow_le_pow_right (by decide) (by omega))
              have hm7' : m < 72057594037927936 := hm7
              obtain ⟨m', em'⟩ : ∃ m', m' = m * 256 + c := ⟨_, rfl⟩
              rw [← em'] at f1
              have e0 : IntKind.u64.wrap ((m : Int) * 256) = ((m : Int) * 256) := by rw [IntKind.wrap_u64]; omega
              have e1 : IntKind.u64.wrap ((m : Int) * 256 + (c : Int)) = (m' : Int) := by rw [IntKind.wrap_u64]; omega
              have F1 := Lib.hid f1
              have EP := Lib.hid ep
              clear f1 f2 hm em' ec hm7 hm7' ep
              go_wp2_with fail
              refine ⟨⟨j + 1, m', by omega, rfl, by push_cast; congr 1; omega, ?_⟩, by simp [intOf]; omega⟩
              show _ = _
              rw [← F1.out, EP.out, show 8 * q + (8 - (j + 1)) = 8 * q + (7 - j) from by omega]
            · obtain rfl : j = 8 := by omega
              have hm2 : m = chunk A q := by
                have := hm.out
                simpa [chunk] using this
              have HM := Lib.hid hm2
              clear hm hm2
              go_wp2_with (at_builtin; go_loud (refine wpList_app1 wA rfl _ _ 42 rfl wA.heap.size 22 j0 (.int .u64 0) 8 Try.underlying42 gi0 gz0 gz1 gz2 rfl _ _ _ rfl o2 _ _ rfl rfl (by unfold maxLen; omega) (by omega) (Nat.le_refl _) B2 ?_); intro v3 w3 o3 B3)
              rw [HM.out, show [Value.int .u64 ((chunk A q : Nat) : Int)] = List.map uv [chunk A q] from rfl, ← List.map_append] at o3
              obtain ⟨ao3, cap3, rfl, _, _⟩ := slice_shape o3
              refine ⟨⟨q + 1, ao3, cap3, rfl, by push_cast; congr 1, by omega, ?_, B3⟩, by simp [intOf]; omega⟩
              rw [List.range_succ, List.map_append]
              exact o3
        · obtain rfl : q = M := by omega
          have hwl : words (padN ln l) = (List.range q).map (chunk A) := by
            rw [← EA.out]
            exact words_chunks q A hM
          have HWL := Lib.hid hwl
          clear hwl
          obtain ⟨g2, cp2, e2, _, _⟩ := slice_of_own o2 (by omega)
          injection e2 with e3 e4 e5
          subst e3
          subst e5
          have o2' := Lib.hid o2
          clear o2
          go_wp2_with fail
          go_ret
          refine ⟨g2, q, cap2, rfl, by rw [HWL.out]; simp, ?_, BA.trans (B2.mono BA.size)⟩
          rw [HWL.out]
          exact own_base o2'.out BA.size
    · have hne : ((L : Int).tmod 8 == 7) = false := by rw [Int.tmod_eq_emod_of_nonneg (by omega)]; simp; omega
      have hne2 : ¬ (L : Int).tmod 8 = 7 := by rw [Int.tmod_eq_emod_of_nonneg (by omega)]; omega
      have hne3 : ¬ (L : Int) % 8 = 7 := by omega
      go_wp2_with (at_builtin; go_loud (refine wpList_app1 w rfl _ _ 25 rfl w.heap.size 5 i0 (.int .u8 0) 1 Try.underlying25 hi0 hz0 hz1 hz2 rfl _ _ _ rfl hown _ _ rfl rfl (by unfold maxLen; omega) (by omega) (Nat.le_refl _) B ?_); intro v' w2 hown' hb')
      obtain ⟨ao', cap', rfl, _, _⟩ := slice_shape hown'
      have hk2 : k + 1 ≤ 7 - ln % 8 := by have := EL.out; omega
      have e1 : L + 1 = ln + (k + 1) := by have := EL.out; omega
      refine ⟨⟨k + 1, ao', cap', by rw [e1], hk2, ?_, hb'⟩, by simp [lenOf]; have := EL.out; omega⟩
      rw [← e1, List.replicate_succ', ← List.append_assoc, List.map_append]
      exact hown'
end Go.Proofs.Ytfejjmodkjpmfaa
