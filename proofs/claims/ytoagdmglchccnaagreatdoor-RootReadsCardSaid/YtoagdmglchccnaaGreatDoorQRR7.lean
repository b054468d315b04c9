/- A region whose order is open, walked once: what only reads is taken first, since what was there stays as it was; what runs comes in the one order that its edges leave. -/
/- The document's number and Digits whole; Clone. Written by wip/tools/gen2h.py. -/
/- Lists of numbers, read back: mathematics. -/
/- A region whose order is open, walked once under a condition on the world that is chosen for it: what only reads under it is taken first. -/
import Derived.Test.YtoagdmglchccnaaGreatDoorQRR2
import Derived.OrdersHeld
import Derived.Deep.RegionWith
import Derived.Test.YtoagdmglchccnaaGreatDoorQRR6
import Derived.Test.YtoagdmglchccnaaGreatDoorQRR4
import Derived.Shelf.SlMaps.Clone
import Derived.Lib.AtoiAllCases
import Derived.Lib.IndexMore
namespace Go.Proofs.YtoagdmglchccnaaGreatDoor
open Go.RowKit
set_option linter.unusedVariables false
section
variable {P : Program} {ops : Array Oper} {Q : Exit → Act → World → Prop} {md : Region.Mode}
theorem held_mono {S S' : World → Prop} (hS : ∀ w, S' w → S w) : ∀ (fuel : Nat) (listed : Array Bool) (a : Act) (w : World), wpAnyH P md ops Q S' fuel listed a w → wpAnyH P md ops Q S fuel listed a w
  | 0, _, _, _, h => h
  | fuel + 1, _, _, _, h => ⟨h.1, fun i hi => wpOp_mono (fun a' w' h' => ⟨hS _ h'.1, held_mono hS fuel _ a' w' h'.2⟩) (h.2 i hi)⟩
/-- Whatever order is picked from here on, and what is there now stays as it is. -/
def wpG (P : Program) (ops : Array Oper) (Q : Exit → Act → World → Prop) (fuel : Nat) (listed : Array Bool) (a : Act) (w : World) : Prop :=
  wpAnyH P .any ops Q (fun w' => Below w.heap.size w w') fuel listed a w
theorem g_start {id : Nat} {a : Act} {w : World} (hm : P.follows .mixedOrders = true) (h : wpG P ops Q ops.size (Array.replicate ops.size false) a w.drew) : (Code.region id ops true).wp P Q a w :=
  wp_region_held hm h
def stat (ops : Array Oper) (listed : Array Bool) (i : Nat) : Bool := Region.noSelect ops && Region.free .any ops listed i && (Region.ready .any ops listed).contains i
theorem g_take {i : Nat} {oi : Oper} {d : Option Tmp} {v : Value} {fuel : Nat} {listed : Array Bool} {a : Act} {w : World} (hi : ops[i]? = some oi) (hd : oi.dst = d) (hst : stat ops listed i = true)
    (hQ : ∀ c a w, Q (.panic c) (a.put d v) w → Q (.panic c) a w) (hw : Region.wanted oi (yielded ops a.tmps) = true)
    (hy : ∀ w', Below w.heap.size w w' → (execOp a.eval oi).run P w' = .ok (.value v) w')
    (h : wpG P ops Q fuel (listed.setIfInBounds i true) (a.put d v) w) : wpG P ops Q (fuel + 1) listed a w := by
  subst hd
  unfold stat at hst
  rw [Bool.and_eq_true, Bool.and_eq_true] at hst
  exact wpAnyH_take hi hst.1.1 hst.1.2 hst.2 hQ (.inl ⟨hw, hy⟩) (Below.refl _ _) h
theorem g_skip {i : Nat} {oi : Oper} {d : Option Tmp} {fuel : Nat} {listed : Array Bool} {a : Act} {w : World} (hi : ops[i]? = some oi) (hd : oi.dst = d) (hst : stat ops listed i = true)
    (hQ : ∀ c a w, Q (.panic c) (a.put d undef) w → Q (.panic c) a w) (hw : Region.wanted oi (yielded ops a.tmps) = false)
    (h : wpG P ops Q fuel (listed.setIfInBounds i true) (a.put d undef) w) : wpG P ops Q (fuel + 1) listed a w := by
  subst hd
  unfold stat at hst
  rw [Bool.and_eq_true, Bool.and_eq_true] at hst
  exact wpAnyH_take hi hst.1.1 hst.1.2 hst.2 hQ (.inr ⟨hw, rfl⟩) (Below.refl _ _) h
theorem g_run {i : Nat} {oi : Oper} {fuel : Nat} {listed : Array Bool} {a : Act} {w : World} (hi : ops[i]? = some oi) (hr : Region.ready .any ops listed = [i])
    (hw : Region.wanted oi (yielded ops a.tmps) = true)
    (h : ∀ K : Act → World → Prop, (∀ a' w', Below w.heap.size w w' ∧ wpG P ops Q fuel (listed.setIfInBounds i true) a' w' → K a' w') → oi.wp P a w K Q) : wpG P ops Q (fuel + 1) listed a w := by
  refine wpAnyH_all hr (by simp) ?_
  intro j hj
  rw [List.mem_singleton] at hj
  subst hj
  unfold wpOp
  simp only [hi, hw, if_true]
  refine .inl (h _ ?_)
  rintro a' w' ⟨hb, hg⟩
  refine ⟨hb, held_mono ?_ _ _ _ _ hg⟩
  intro w'' hb'
  exact hb.trans (hb'.mono hb.size)
theorem g_done {listed : Array Bool} {fuel : Nat} {a : Act} {w : World} (hr : Region.ready .any ops listed = []) (h : Q .normal a w) : wpG P ops Q fuel listed a w :=
  wpAnyH_done hr h fuel
end
end Go.Proofs.YtoagdmglchccnaaGreatDoor
namespace Go.Proofs.YtoagdmglchccnaaGreatDoor.T2
open Go Go.RowKit Go.Maps
set_option linter.unusedVariables false
set_option linter.unusedSimpArgs false
set_option maxRecDepth 100000 in
theorem number_zero (w : World) :
    Calls Tryz.prog 89 #[.int .i64 0] w fun e w' => e = .returned (.string (str [48])) ∧ w = w' := by
  go_enter Tryz.func89, Tryz.ntmps89
  go_wp2_with fail
  go_ret
  exact ⟨rfl, rfl⟩
theorem number_any (n : Int) (h : fitsI n) (w : World) :
    Calls Tryz.prog 89 #[.int .i64 n] w fun e w' => e = .returned (.string (str (Lib.itoa n))) ∧ w = w' := by
  obtain ⟨h1, h2⟩ := h
  rcases Int.lt_trichotomy n 0 with hn | hn | hn
  · obtain ⟨N, rfl⟩ : ∃ N : Nat, n = -(N : Int) := ⟨n.natAbs, by omega⟩
    rw [Lib.itoa_neg N (by omega)]
    exact number_neg N (by omega) (by omega) w
  · subst hn
    have e : Lib.itoa 0 = [48] := by
      have e := Lib.itoa_nonneg 0
      rw [show ((0 : Nat) : Int) = 0 from rfl] at e
      rw [e, Lib.decDigits_one (by omega)]; rfl
    rw [e]
    exact number_zero w
  · obtain ⟨N, rfl⟩ : ∃ N : Nat, n = (N : Int) := ⟨n.natAbs, by omega⟩
    rw [Lib.itoa_nonneg]
    exact number_pos N (by omega) (by omega) w
theorem digN_snoc (xs : List Int) (x : Int) : digN (xs ++ [x]) = digN xs ++ (Lib.itoa x ++ [44]) := by simp [digN]
set_option maxRecDepth 100000 in
set_option maxHeartbeats 1000000 in
theorem refDigits_any (v : Value) (xs : List Int) (hx : xs.length ≤ 1000) (hf : ∀ x ∈ xs, fitsI x) (w : World) (h : RdV w v (xs.map iv)) :
    Calls Tryz.prog 57 #[v] w fun e w' => e = .returned (.string (str (digN xs))) ∧ w = w' := by
  obtain ⟨ao, cap, rfl, hc, hm, HA⟩ := rdv_open h
  have HF := Lib.hid hf
  clear h hf
  go_enter Tryz.func57, Tryz.ntmps57
  go_wp2_with fail
  go_loop [3, 4] (fun s i => ∃ (j : Nat) (l : Txt), j ≤ xs.length ∧ i = .int .i64 (j : Int) ∧ s = .string (str l) ∧ Hid (l = digN (xs.take j))) (fun _ i => 2000 - (intOf i).toNat)
  case atStart => exact ⟨0, [], Nat.zero_le _, rfl, rfl, Lib.hid (by simp [digN])⟩
  case round =>
    obtain ⟨j, l, hj, rfl, rfl, hl⟩ := hrel
    have hll : l.length ≤ 22000 := by
      have := digN_len (xs.take j) (fun x hx => HF.out x (List.mem_of_mem_take hx))
      rw [hl.out]
      have e : (xs.take j).length = j := by rw [List.length_take]; omega
      rw [e] at this; omega
    by_cases hjx : j < xs.length
    · obtain ⟨b, off, rfl, hb, hcells⟩ := HA.out (by omega)
      have hc0 := hcells j hjx
      have hfx := HF.out xs[j] (List.getElem_mem hjx)
      have ht : digN (xs.take (j + 1)) = digN (xs.take j) ++ (Lib.itoa xs[j] ++ [44]) := by rw [List.take_succ_eq_append_getElem hjx, digN_snoc]
      obtain ⟨x, ex⟩ : ∃ x, x = xs[j] := ⟨_, rfl⟩
      rw [← ex] at hc0 ht hfx
      have HTT := Lib.hid ht
      have NB := number_any x hfx w
      have hil : (Lib.itoa x).length ≤ 21 := Lib.itoa_length_le x hfx.1 hfx.2
      obtain ⟨T, hT⟩ : ∃ T, T = Lib.itoa x := ⟨_, rfl⟩
      rw [← hT] at NB hil HTT
      have s1 := str_size T
      have s2 := str_size l
      clear ht ex hcells hT hfx
      go_wp2_with fail
      refine NB.mono ?_
      rintro e w1 ⟨rfl, rfl⟩
      have s3 : (str (T ++ [44])).size = T.length + 1 := by rw [str_size]; simp
      have hcat : ∀ w : World, (Op.stringOp .add (str T) (ByteArray.mk #[44])).run Tryz.prog w = .ok (.string (str (T ++ [44]))) w := fun w => by rw [show ByteArray.mk #[44] = str [44] from rfl, run_string_add_sum w _ _ (by rw [str_size, str_size]; simp; omega), ← str_app]
      have hcat2 : ∀ (w : World), (binOp .add 9 (.string (str T)) (.string (ByteArray.mk #[44]))).run Tryz.prog w = .ok (.string (str (T ++ [44]))) w := fun w => by rw [binOp_string_add]; exact hcat w
      have hcat3 : ∀ w : World, (Op.stringOp .add (str l) (str (T ++ [44]))).run Tryz.prog w = .ok (.string (str (l ++ (T ++ [44])))) w := fun w => by rw [run_string_add_sum w _ _ (by omega), ← str_app]
      have hcat4 : ∀ (w : World), (binOp .add 9 (.string (str l)) (.string (str (T ++ [44])))).run Tryz.prog w = .ok (.string (str (l ++ (T ++ [44])))) w := fun w => by rw [binOp_string_add]; exact hcat3 w
      go_wp2_with fail
      go_round
      case rel => exact ⟨j + 1, _, by omega, by go_num, rfl, Lib.hid (by rw [HTT.out, hl.out])⟩
      case measure => simp [intOf]; omega
    · go_wp2_with fail
      go_ret
      have e := hl.out
      rw [List.take_of_length_le (by omega)] at e
      subst e
      exact ⟨rfl, rfl⟩
theorem own_on {w w' : World} {b b0 : Nat} {e : TypeId} {size : Nat} {v : Value} {n : Nat} {xs : List Value} (h : w.ownsRow b e size v n xs) (hb : Below w.heap.size w w') (h0 : b0 ≤ b) : w'.ownsRow b0 e size v n xs := by
  refine ⟨h.1, ?_⟩
  rcases h.2 with h1 | ⟨g, cap, cur, rfl, h2, h3, h4⟩
  · exact .inl h1
  · exact .inr ⟨g, cap, cur, rfl, Nat.le_trans h0 h2, (hb.block g (lt_of_block h3)).trans h3, h4⟩
end Go.Proofs.YtoagdmglchccnaaGreatDoor.T2
namespace Go.Proofs.YtoagdmglchccnaaGreatDoor
open Go Go.RowKit
set_option linter.unusedVariables false
set_option linter.unusedSimpArgs false
/-- The text of a list of numbers. -/
def IsDig (s : T2.Txt) (xs : List Int) : Prop := s = T2.digN xs ∧ ∀ x ∈ xs, T2.fitsI x
open Classical in
noncomputable def splO (s : T2.Txt) : Option (List Int) := if h : ∃ xs, IsDig s xs then some h.choose else none
theorem splO_some {s : T2.Txt} {xs : List Int} (h : IsDig s xs) : splO s = some xs := by
  have hx : ∃ xs, IsDig s xs := ⟨xs, h⟩
  unfold splO
  rw [dif_pos hx]
  exact congrArg some (T2.digN_inj (hx.choose_spec.1.symm.trans h.1))
theorem splO_none {s : T2.Txt} (h : ∀ xs, ¬ IsDig s xs) : splO s = none := by
  unfold splO
  rw [dif_neg (fun ⟨xs, hx⟩ => h xs hx)]
theorem digN_pre : ∀ {ns xs : List Int} {r : T2.Txt}, T2.digN xs = T2.digN ns ++ r → ∃ ys, xs = ns ++ ys ∧ r = T2.digN ys
  | [], xs, r, h => ⟨xs, rfl, by simpa [T2.digN] using h.symm⟩
  | n :: ns, [], r, h => by
    rw [T2.digN_cons] at h
    have := congrArg List.length h
    simp [T2.digN] at this
  | n :: ns, x :: xs, r, h => by
    rw [T2.digN_cons, T2.digN_cons, List.append_assoc, List.cons_append] at h
    obtain ⟨e1, e2⟩ := T2.cut_inj (T2.itoa_ne44 x) (T2.itoa_ne44 n) h
    obtain ⟨ys, e3, e4⟩ := digN_pre e2
    exact ⟨ys, by rw [T2.itoa_inj e1, e3]; rfl, e4⟩
theorem parse_snoc : ∀ (l : List UInt8) (acc u : Nat) (c : UInt8), Lib.parseUint10 acc l = .ok u → 48 ≤ c.toNat → c.toNat ≤ 57 → u * 10 + (c.toNat - 48) < 18446744073709551616 → Lib.parseUint10 acc (l ++ [c]) = .ok (u * 10 + (c.toNat - 48))
  | [], acc, u, c, h, h1, h2, h3 => by
    simp only [Lib.parseUint10] at h
    injection h with h; subst h
    simp only [List.nil_append, Lib.parseUint10]
    rw [if_pos ⟨h1, h2⟩, if_neg (by omega), if_neg (by omega)]
  | a :: l, acc, u, c, h, h1, h2, h3 => by
    simp only [List.cons_append, Lib.parseUint10] at h ⊢
    split at h
    · rename_i h4
      rw [if_pos h4]
      split at h
      · cases h
      · rename_i h5
        rw [if_neg h5]
        split at h
        · cases h
        · rename_i h6
          rw [if_neg h6]
          exact parse_snoc l _ u c h h1 h2 h3
    · cases h
theorem parse_dec : ∀ (u : Nat), u < 18446744073709551616 → Lib.parseUint10 0 (Lib.decDigits u) = .ok u := by
  intro u
  induction u using Nat.strongRecOn with
  | _ u ih =>
    intro hu
    rw [Lib.decDigits]
    split
    · rename_i h
      have e : (UInt8.ofNat (48 + u)).toNat = 48 + u := by rw [UInt8.toNat_ofNat']; omega
      simp only [Lib.parseUint10, e]
      rw [if_pos ⟨by omega, by omega⟩, if_neg (by omega), if_neg (by omega)]
      congr 1; omega
    · rename_i h
      have e : (UInt8.ofNat (48 + u % 10)).toNat = 48 + u % 10 := by rw [UInt8.toNat_ofNat']; omega
      rw [parse_snoc _ 0 (u / 10) _ (ih (u / 10) (by omega) (by omega)) (by omega) (by omega) (by omega)]
      congr 1; omega
theorem dec_cons (u : Nat) : ∃ c r, Lib.decDigits u = c :: r ∧ 48 ≤ c.toNat ∧ c.toNat ≤ 57 := by
  have h := (T2.dec_val u).2
  cases hd : Lib.decDigits u with
  | nil =>
    have := Lib.decDigits_length u
    rw [hd] at this
    rw [Lib.decDigits] at hd
    split at hd <;> simp at hd
  | cons c r => exact ⟨c, r, rfl, h c (by rw [hd]; simp)⟩
theorem mag_dec (u : Nat) (h : u < 18446744073709551616) : Lib.parseMag (Lib.decDigits u) = .ok u := by
  obtain ⟨c, r, e, -⟩ := dec_cons u
  unfold Lib.parseMag
  rw [if_neg (by rw [e]; simp), parse_dec u h]
theorem atoi_itoa (n : Int) (h : T2.fitsI n) : Lib.atoiAll (Lib.itoa n) = .ok n := by
  unfold T2.fitsI at h
  unfold Lib.itoa
  split
  · rename_i h0
    rw [Lib.atoiAll_minus, mag_dec _ (by omega)]
    unfold Lib.signed
    simp only
    rw [if_neg (by omega)]
    congr 1; omega
  · rename_i h0
    obtain ⟨c, r, e, h1, h2⟩ := dec_cons n.toNat
    rw [e, Lib.atoiAll_plain c r (by omega) (by omega), ← e, mag_dec _ (by omega)]
    unfold Lib.signless
    simp only
    rw [if_neg (by omega)]
    congr 1; omega
/-- A byte of a number's digits. -/
theorem dec_len_pos (u : Nat) : 1 ≤ (Lib.decDigits u).length := by
  obtain ⟨c, r, e, -⟩ := dec_cons u
  rw [e]; simp
theorem dec_at : ∀ (u i : Nat) (h : i < (Lib.decDigits u).length), ((Lib.decDigits u)[i]).toNat = 48 + u / 10 ^ ((Lib.decDigits u).length - 1 - i) % 10 := by
  intro u
  induction u using Nat.strongRecOn with
  | _ u ih =>
    intro i h
    by_cases hu : u < 10
    · have e := Lib.decDigits_one hu
      have hi : i = 0 := by rw [e] at h; simp at h; exact h
      subst hi
      simp only [e, List.length_singleton, List.getElem_cons_zero]
      rw [UInt8.toNat_ofNat']
      simp; omega
    · have e : Lib.decDigits u = Lib.decDigits (u / 10) ++ [UInt8.ofNat (48 + u % 10)] := by rw [Lib.decDigits, dif_neg hu]
      have hp := dec_len_pos (u / 10)
      have hl : (Lib.decDigits u).length = (Lib.decDigits (u / 10)).length + 1 := by rw [e]; simp
      by_cases hi : i < (Lib.decDigits (u / 10)).length
      · have h1 := ih (u / 10) (by omega) i hi
        have e2 : (Lib.decDigits u)[i] = (Lib.decDigits (u / 10))[i] := by simp only [e]; rw [List.getElem_append_left hi]
        rw [e2, h1, Nat.div_div_eq_div_mul, hl]
        have e3 : (Lib.decDigits (u / 10)).length + 1 - 1 - i = ((Lib.decDigits (u / 10)).length - 1 - i) + 1 := by omega
        rw [e3, Nat.pow_succ, Nat.mul_comm 10]
      · have hi2 : i = (Lib.decDigits (u / 10)).length := by omega
        have e2 : (Lib.decDigits u)[i] = UInt8.ofNat (48 + u % 10) := by
          simp only [e]
          rw [List.getElem_append_right (by omega)]
          simp [hi2]
        rw [e2, UInt8.toNat_ofNat', hl, hi2]
        simp; omega
theorem dec_lt (u : Nat) : u < 10 ^ (Lib.decDigits u).length := by
  induction u using Nat.strongRecOn with
  | _ u ih =>
    by_cases hu : u < 10
    · rw [Lib.decDigits_one hu]; simpa using hu
    · have e : Lib.decDigits u = Lib.decDigits (u / 10) ++ [UInt8.ofNat (48 + u % 10)] := by rw [Lib.decDigits, dif_neg hu]
      have h := ih (u / 10) (by omega)
      rw [e, List.length_append, List.length_singleton, Nat.pow_succ]
      omega
theorem ib_ge (s : List UInt8) (c : UInt8) : -1 ≤ Lib.indexByte s c := by
  induction s with
  | nil => simp [Lib.indexByte]
  | cons b l ih =>
    unfold Lib.indexByte
    split
    · decide
    · split
      · decide
      · omega
theorem ib_none {s : List UInt8} {c : UInt8} (h : Lib.indexByte s c = -1) : ¬ c ∈ s := by
  induction s with
  | nil => simp
  | cons b l ih =>
    unfold Lib.indexByte at h
    split at h
    · cases h
    · rename_i hb
      have hg := ib_ge l c
      split at h
      · rename_i h2
        intro hm
        rcases List.mem_cons.1 hm with rfl | hm
        · simp at hb
        · exact ih (by simpa using h2) hm
      · omega
theorem ib_some : ∀ {s : List UInt8} {c : UInt8} {i : Nat}, Lib.indexByte s c = (i : Int) → ∃ a r, s = a ++ c :: r ∧ ¬ c ∈ a ∧ a.length = i
  | [], c, i, h => by simp [Lib.indexByte] at h
  | b :: l, c, i, h => by
    have hg := ib_ge l c
    unfold Lib.indexByte at h
    split at h
    · rename_i hb
      have hb : b = c := by simpa using hb
      subst hb
      exact ⟨[], l, rfl, by simp, by simp; omega⟩
    · rename_i hb
      have hb : ¬ b = c := by simpa using hb
      split at h
      · omega
      · rename_i h2
        obtain ⟨j, hj⟩ : ∃ j : Nat, Lib.indexByte l c = (j : Int) := ⟨(Lib.indexByte l c).toNat, by simp at h2; omega⟩
        obtain ⟨a, r, e1, e2, e3⟩ := ib_some hj
        exact ⟨b :: a, r, by rw [e1]; rfl, by
          intro hm
          rcases List.mem_cons.1 hm with e | hm
          · exact hb e.symm
          · exact e2 hm, by simp; omega⟩
end Go.Proofs.YtoagdmglchccnaaGreatDoor
namespace Go.Proofs.YtoagdmglchccnaaGreatDoor
open Go.RowKit
set_option linter.unusedVariables false
/-- What is left: what was there, but for two blocks, is as it was. -/
structure Two (w w' : World) (g b : Nat) : Prop where
  size : w.heap.size ≤ w'.heap.size
  os : w'.os = w.os
  tape : w'.tape = w.tape
  output : w'.output = w.output
  block : ∀ k, k < w.heap.size → k ≠ g → k ≠ b → w'.heap[k]? = w.heap[k]?
theorem Two.refl (w : World) (g b : Nat) : Two w w g b := ⟨Nat.le_refl _, rfl, rfl, rfl, fun _ _ _ _ => rfl⟩
theorem Two.below {w x y : World} {g b : Nat} (h : Two w x g b) (k : Below x.heap.size x y) : Two w y g b :=
  ⟨Nat.le_trans h.size k.size, k.os.trans h.os, k.tape.trans h.tape, k.output.trans h.output, fun i hi h1 h2 => (k.block i (Nat.lt_of_lt_of_le hi h.size)).trans (h.block i hi h1 h2)⟩
theorem Two.grown {w x y : World} {g b : Nat} (h : Two w x g b) (k : x.grownBy y (some g)) : Two w y g b :=
  ⟨Nat.le_trans h.size k.size, k.os.trans h.os, k.tape.trans h.tape, k.output.trans h.output, fun i hi h1 h2 => (k.block i (Nat.lt_of_lt_of_le hi h.size) (by simp; first | exact h1 | exact fun e => h1 e.symm)).trans (h.block i hi h1 h2)⟩
section
variable {P : Program} {ops : Array Oper} {Q : Exit → Act → World → Prop} {S : World → Prop}
theorem gs_start {id : Nat} {a : Act} {w : World} (hm : P.follows .mixedOrders = true) (h : wpAnyH P .any ops Q S ops.size (Array.replicate ops.size false) a w.drew) : (Code.region id ops true).wp P Q a w :=
  wp_region_held hm h
theorem gs_take {i : Nat} {oi : Oper} {d : Option Tmp} {v : Value} {fuel : Nat} {listed : Array Bool} {a : Act} {w : World} (hi : ops[i]? = some oi) (hd : oi.dst = d) (hst : stat ops listed i = true)
    (hQ : ∀ c a w, Q (.panic c) (a.put d v) w → Q (.panic c) a w) (hw : Region.wanted oi (yielded ops a.tmps) = true) (hS : S w)
    (hy : ∀ w', S w' → (execOp a.eval oi).run P w' = .ok (.value v) w')
    (h : wpAnyH P .any ops Q S fuel (listed.setIfInBounds i true) (a.put d v) w) : wpAnyH P .any ops Q S (fuel + 1) listed a w := by
  subst hd
  unfold stat at hst
  rw [Bool.and_eq_true, Bool.and_eq_true] at hst
  exact wpAnyH_take hi hst.1.1 hst.1.2 hst.2 hQ (.inl ⟨hw, hy⟩) hS h
theorem gs_done {listed : Array Bool} {fuel : Nat} {a : Act} {w : World} (hr : Region.ready .any ops listed = []) (h : Q .normal a w) : wpAnyH P .any ops Q S fuel listed a w :=
  wpAnyH_done hr h fuel
end
end Go.Proofs.YtoagdmglchccnaaGreatDoor
