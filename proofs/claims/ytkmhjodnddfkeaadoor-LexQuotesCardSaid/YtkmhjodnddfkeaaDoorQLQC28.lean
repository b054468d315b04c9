/- Lex: LexQuotes. Written by wip/tools/gen16u.py. -/
import Derived.Test.YtkmhjodnddfkeaaDoorQLQC27
namespace Go.Proofs.YtkmhjodnddfkeaaDoor
open Go Go.RowKit
set_option linter.unusedVariables false
set_option linter.unusedSimpArgs false
set_option maxRecDepth 100000
theorem blank_all : ∀ k, k ≤ 4 → ∀ c ∈ ([32, 10, 9, 32] : List UInt8).take k, blankB c = true := by
  intro k hk c hc
  have := List.mem_of_mem_take hc
  simp only [List.mem_cons, List.not_mem_nil, or_false] at this
  rcases this with h | h | h | h <;> (subst h; rfl)
theorem quoE_good {s : List UInt8} (h : quoE s = 0) : s.length ≤ 64 ∧ ∃ t, quoF s = some t ∧ quoP s = 34 :: t ++ [34] := by
  unfold quoE at h
  by_cases hs : 64 < s.length
  · rw [if_pos hs] at h; cases h
  · rw [if_neg hs] at h
    cases hq : quoF s with
    | none => rw [hq] at h; cases h
    | some t =>
      refine ⟨by omega, t, rfl, ?_⟩
      unfold quoP
      rw [if_neg hs, hq]
theorem quoE_bad {s : List UInt8} (h : quoE s ≠ 0) : quoP s = [] := by
  unfold quoE at h
  unfold quoP
  by_cases hs : 64 < s.length
  · rw [if_pos hs]
  · rw [if_neg hs] at h ⊢
    cases hq : quoF s with
    | none => rfl
    | some t => rw [hq] at h; exact absurd rfl h
set_option maxHeartbeats 4000000 in
theorem quotes_any (s : List UInt8) (a : Int) (ha0 : 0 ≤ a) (ha1 : a ≤ 255) (w : World) (hm : s.length ≤ maxLen) (tab : TabX w) : Calls Tryd.prog 5 #[.string (str s), .int .u8 a] w fun e w' => e = .returned (.bool true) ∧ Below w.heap.size w w' := by
  have hsz := str_size s
  have hm9 : s.length ≤ 9223372036854775807 := hm
  have AW := Lib.hid (fun w' (t : TabX w') => awake_any w' t)
  have QU := quote_any s
  have TAB := Lib.hid tab
  obtain ⟨q, hq⟩ : ∃ q, q = str (quoP s) := ⟨_, rfl⟩
  obtain ⟨n, hn⟩ : ∃ n, n = quoE s := ⟨_, rfl⟩
  rw [← hq, ← hn] at QU
  have QUH := Lib.hid QU
  clear tab QU
  by_cases hn0 : n = 0
  case neg =>
    have hb : quoP s = [] := quoE_bad (by rw [← hn]; exact hn0)
    have tq : (q.toList == []) = true := by rw [hq, hb, tl_eq]; rfl
    have i1 : ((n : Int) != 0) = true := by simp; omega
    clear hq hn hb hn0
    go_enter Tryd.func5, Tryd.ntmps5
    go_wp2_with (first | ((with_reducible refine (QUH.out _).mono ?_); rintro e w1 ⟨rfl, b1⟩; (have B1 := Lib.hid b1); (have T1 := Lib.hid (TAB.out.below b1)); clear b1) | ((with_reducible refine (AW.out _ T1.out).mono ?_); rintro e w5 ⟨rfl, b5⟩))
    go_ret
    exact ⟨rfl, B1.out.trans (b5.mono B1.out.size)⟩
  obtain ⟨hs, t, hqf, hqp⟩ := quoE_good (hn.symm.trans hn0)
  subst hn0
  have ht := quoF_len s t hqf
  obtain ⟨k, hk⟩ : ∃ k : Nat, a % 5 = (k : Int) := ⟨(a % 5).toNat, by omega⟩
  have hk4 : k ≤ 4 := by omega
  obtain ⟨b, hb⟩ : ∃ b, b = ([32, 10, 9, 32] : List UInt8).take k := ⟨_, rfl⟩
  have hbl : b.length = k := by rw [hb, List.length_take]; simp; omega
  have hba : ∀ c ∈ b, blankB c = true := by rw [hb]; exact blank_all k hk4
  obtain ⟨BL, hBL⟩ : ∃ BL, BL = (⟨#[32, 10, 9, 32]⟩ : ByteArray).extract 0 k := ⟨_, rfl⟩
  have hBL2 : BL = str b := by
    rw [hBL, hb]
    show (str [32, 10, 9, 32]).extract 0 k = _
    rw [str_extract]
    rfl
  obtain ⟨X1, hX1⟩ : ∃ X1, X1 = BL ++ q := ⟨_, rfl⟩
  obtain ⟨X2, hX2⟩ : ∃ X2, X2 = X1 ++ (⟨#[35]⟩ : ByteArray) := ⟨_, rfl⟩
  have hX1e : X1 = str (b ++ (34 :: t ++ [34])) := by rw [hX1, hBL2, hq, hqp, str_append]
  have hX2e : X2 = str (b ++ (34 :: t ++ [34]) ++ [35]) := by rw [hX2, hX1e]; exact str_append _ [35]
  have hBLs : BL.size = k := by rw [hBL2, str_size, hbl]
  have hqs : q.size = t.length + 2 := by rw [hq, hqp, str_size]; simp
  have hX1s : X1.size = k + t.length + 2 := by rw [hX1e, str_size, List.length_append, hbl]; simp; omega
  have htl : t.length ≤ 128 := by omega
  have TKS := toks_quo hqf hs hba (by rw [hbl]; exact hk4)
  rw [hbl] at TKS
  have TK := Lib.hid (fun w' (tb : TabX w') => (show Calls Tryd.prog 12 #[.string X2] w' fun e w'' => (∃ ao cap, e = .returned (.tuple #[.slice ao 2 cap, .int .i64 0, .int .i64 0]) ∧ Hid (RdK 4 tpC w'' (.slice ao 2 cap) [⟨3, k, s, 0⟩, ⟨0, k + t.length + 3, [], 0⟩])) ∧ Hid (Below w'.heap.size w' w'') by
    rw [hX2e]
    refine (tokens_any _ w' tb).mono ?_
    rw [TKS]
    rintro e w'' ⟨⟨v, rfl, rd, -⟩, b⟩
    obtain ⟨ao, cap, rfl, -, -, rd2⟩ := rd.open
    exact ⟨⟨ao, cap, rfl, Lib.hid rd2⟩, Lib.hid b⟩))
  have tss : ((str s).toList == (str s).toList) = true := by simp
  have htt : a.tmod 5 = (k : Int) := by rw [Int.tmod_eq_emod_of_nonneg ha0]; exact hk
  have hk4i : (k : Int) ≤ 4 := by omega
  replace hBL := hBL.symm
  replace hX1 := hX1.symm
  replace hX2 := hX2.symm
  clear hBL2 hX1e hX2e TKS hb hba hq hn ht hqf hqp hbl
  go_enter Tryd.func5, Tryd.ntmps5
  go_upto_region 6 with (first | ((with_reducible refine (QUH.out _).mono ?_); rintro e w1 ⟨rfl, b1⟩; (have B1 := Lib.hid b1); (have T1 := Lib.hid (TAB.out.below b1)); clear b1) | ((with_reducible refine (TK.out _ T1.out).mono ?_); rintro e w2 ⟨⟨ao, cap, rfl, RD⟩, B2⟩; (have T2 := Lib.hid (T1.out.below B2.out))))
  obtain ⟨b, off, rfl, hb, hc⟩ : ∃ b off, ao = some ⟨b, off, none⟩ ∧ b < w2.heap.size ∧ ∀ i, i < 8 → w2.cell? ⟨b, off + i, none⟩ = (([⟨3, k, s, 0⟩, ⟨0, k + t.length + 3, [], 0⟩] : List Tp).flatMap tpC)[i]? := by
    obtain ⟨ao', cap', h1, h2, h3, h4, h5⟩ := RD.out
    obtain ⟨b, off, h6, h7, h8⟩ := h5 (Nat.succ_pos 1)
    injection h1 with h1 h9 h10
    exact ⟨b, off, h1.trans h6, h7, h8⟩
  have c0 : w2.cell? ⟨b, off, none⟩ = some (.int .i64 3) := hc 0 (by decide)
  have c1 : w2.cell? ⟨b, off + 1, none⟩ = some (.int .i64 (k : Int)) := hc 1 (by decide)
  have c2 : w2.cell? ⟨b, off + 2, none⟩ = some (.string (str s)) := hc 2 (by decide)
  have c3 : w2.cell? ⟨b, off + 3, none⟩ = some (.int .i64 0) := hc 3 (by decide)
  have c4 : w2.cell? ⟨b, off + 4, none⟩ = some (.int .i64 0) := hc 4 (by decide)
  clear hc RD
  go_wp2_with ((with_reducible refine (AW.out _ T2.out).mono ?_); rintro e w5 ⟨rfl, b5⟩)
  go_ret
  exact ⟨rfl, (B1.out.trans (B2.out.mono B1.out.size)).trans (b5.mono (Nat.le_trans B1.out.size B2.out.size))⟩
theorem quotes_row (b : ByteArray) (a : Int) (w : World) (hm : b.size ≤ maxLen) (wa : (Lit.int .u8 a).wf = true) (tab : TabX w) : Calls Tryd.prog 5 #[.string b, .int .u8 a] w fun e w' => e = .returned (.bool true) ∧ Below w.heap.size w w' := by
  have h : b.data.toList.length ≤ maxLen := by rw [str_self b, str_size] at hm; exact hm
  simp [Lit.wf, IntKind.min, IntKind.max, IntKind.signed, IntKind.bits] at wa
  have := quotes_any b.data.toList a (by omega) (by omega) w h tab
  rw [← str_self] at this
  exact this
end Go.Proofs.YtkmhjodnddfkeaaDoor
