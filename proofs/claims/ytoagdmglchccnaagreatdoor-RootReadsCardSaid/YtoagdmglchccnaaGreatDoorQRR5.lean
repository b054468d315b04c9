/- A table of texts: the digits of a list; List. -/
/- A table of texts: digits tell a list; List; few; the chapter's examples. Written by wip/tools/gen2c.py. -/
/- The law TermApart. Written by wip/tools/gen2e.py. -/
import Derived.Test.YtoagdmglchccnaaGreatDoorQRR3
import Derived.Test.YtoagdmglchccnaaGreatDoorQRR4
import Derived.Lib.ItoaLen
namespace Go.Proofs.YtoagdmglchccnaaGreatDoor.T2
open Go Go.RowKit Go.Maps Go.MapKept
set_option linter.unusedVariables false
set_option linter.unusedSimpArgs false
def iv (x : Int) : Value := .int .i64 x
/-- The text of a list of numbers. -/
def digN (xs : List Int) : Txt := xs.flatMap fun i => Lib.itoa i ++ [44]
/-- The table of powers, as it lies, whatever lies behind it. -/
def Tab (w : World) : Prop := Lib.TabBelow Tryz.prog w.heap.size w "internal/strconv.uint64pow10" .u64 Lib.pow10Tab
theorem tab_on {w w' : World} {n : Nat} (h : Tab w) (g : Below w.heap.size w w') (hn : w.heap.size ≤ n) : Lib.TabBelow Tryz.prog n w' "internal/strconv.uint64pow10" .u64 Lib.pow10Tab :=
  fun w'' g' => h w'' (g.trans (g'.mono hn))
theorem Tab.below {w w' : World} (h : Tab w) (g : Below w.heap.size w w') : Tab w' := tab_on h g g.size
theorem rdv_open {w : World} {v : Value} {xs : List Int} (h : RdV w v (xs.map iv)) : ∃ ao cap, v = .slice ao xs.length cap ∧ xs.length ≤ cap ∧ cap ≤ maxLen ∧ Hid (0 < xs.length → ∃ b off, ao = some ⟨b, off, none⟩ ∧ b < w.heap.size ∧ ∀ i (hi : i < xs.length), w.cell? ⟨b, off + i, none⟩ = some (.int .i64 xs[i])) := by
  obtain ⟨ao, cap, rfl, hc, hm, _, HA⟩ := h
  rw [List.length_map] at hc HA
  refine ⟨ao, cap, by rw [List.length_map], hc, hm, Lib.hid fun hp => ?_⟩
  obtain ⟨b, off, h1, h2, h3⟩ := HA hp
  refine ⟨b, off, h1, h2, fun i hi => ?_⟩
  rw [h3 i hi, List.getElem?_map, List.getElem?_eq_getElem hi]; rfl
theorem rd_of_own {w : World} {b : Nat} {v : Value} {l : List UInt8} (h : w.ownsRow b 5 1 v l.length (l.map bv)) : Rd w v l := by
  rcases h.2 with ⟨rfl, h0⟩ | ⟨g, cap, cur, rfl, h2, h3, h4⟩
  · have : l = [] := List.eq_nil_of_length_eq_zero h0
    subst this
    exact rd_nil _
  · exact own_rd h
def fitsI (x : Int) : Prop := -9223372036854775808 ≤ x ∧ x ≤ 9223372036854775807
theorem digN_len (xs : List Int) (h : ∀ x ∈ xs, fitsI x) : (digN xs).length ≤ xs.length * 22 := by
  induction xs with
  | nil => simp [digN]
  | cons x xs ih =>
    have h1 := Lib.itoa_length_le x (h x (by simp)).1 (h x (by simp)).2
    have h2 := ih (fun y hy => h y (by simp [hy]))
    simp only [digN, List.flatMap_cons, List.length_append, List.length_cons, List.length_nil] at h2 ⊢
    omega
theorem u8_info : (Tryz.prog.info? 5).map (fun i => (i.zero, i.size, i.bytes)) = some (some (.int .u8 0), 1, 1) := by kernel_rfl
set_option maxRecDepth 100000 in
set_option maxHeartbeats 1000000 in
theorem digits_any (v : Value) (xs : List Int) (hx : xs.length ≤ 1000) (hf : ∀ x ∈ xs, fitsI x) (w : World) (h : RdV w v (xs.map iv)) (ht : Tab w) :
    Calls Tryz.prog 85 #[v] w fun e w' => e = .returned (sv (digN xs)) ∧ Below w.heap.size w w' := by
  obtain ⟨i0, hi0, hz0, hz1, hz2⟩ := info_parts u8_info
  obtain ⟨ao, cap, rfl, hc, hm, HA⟩ := rdv_open h
  have HF := Lib.hid hf
  have HT := Lib.hid ht
  clear h hf ht
  unfold sv
  go_enter Tryz.func85, Tryz.ntmps85
  go_wp2_with fail
  go_loopw [3, 8] (fun z i wr => ∃ j : Nat, j ≤ xs.length ∧ i = .int .i64 (j : Int) ∧ Below w.heap.size w wr ∧ Hid (wr.ownsRow w.heap.size 5 1 z (digN (xs.take j)).length ((digN (xs.take j)).map bv))) (fun _ i _ => 1000 - (intOf i).toNat)
  case atStart => exact ⟨0, Nat.zero_le _, rfl, Below.refl _ _, Lib.hid (World.ownsRow_nil _ _ _ _)⟩
  case round =>
    obtain ⟨j, hj, rfl, bel, HO⟩ := hrel
    have hdl : (digN (xs.take j)).length ≤ 22000 := by
      have := digN_len (xs.take j) (fun x hx => HF.out x (List.mem_of_mem_take hx))
      simp at this; omega
    by_cases hjx : j < xs.length
    · obtain ⟨b, off, rfl, hb, hcells⟩ := HA.out (by omega)
      have hc0 := (bel.cell (p := ⟨b, off + j, none⟩) hb).trans (hcells j hjx)
      have hdt : digN (xs.take (j + 1)) = digN (xs.take j) ++ (Lib.itoa xs[j] ++ [44]) := by
        have e1 : digN (xs.take j ++ [xs[j]]) = digN (xs.take j) ++ digN [xs[j]] := by unfold digN; rw [List.flatMap_append]
        have e2 : digN [xs[j]] = Lib.itoa xs[j] ++ [44] := by unfold digN; simp
        rw [List.take_succ_eq_append_getElem hjx, e1, e2]
      have hfx := HF.out xs[j] (List.getElem_mem hjx)
      obtain ⟨x, ex⟩ : ∃ x, x = xs[j] := ⟨_, rfl⟩
      rw [← ex] at hc0 hdt hfx
      obtain ⟨P, hP⟩ : ∃ P, P = digN (xs.take j) := ⟨_, rfl⟩
      rw [← hP] at hdt hdl HO
      have HDT := Lib.hid hdt
      have AI := Tryz.strconv_AppendInt_10 w.heap.size P.length x hfx.1 hfx.2 _ _ wr HO.out bel.size (by omega) (tab_on HT.out bel (Nat.le_refl _))
      have hil := Lib.itoa_length_le x hfx.1 hfx.2
      obtain ⟨I, hI⟩ : ∃ I, I = Lib.itoa x := ⟨_, rfl⟩
      rw [← hI] at AI hil
      have HI := Lib.hid hI
      clear hdt ex hcells hP hfx HO hI
      go_wp2_with fail
      refine AI.mono ?_
      rintro e w1 ⟨z1, rfl, o1, g1, _⟩
      have B1 := bel.trans g1
      clear AI g1
      go_wp2_with (at_builtin; refine wpList_app1 w rfl (.tmp 15) (.tmp 16) 115 rfl w.heap.size 5 i0 (.int .u8 0) 1 Tryz.underlying115 hi0 hz0 hz1 hz2 rfl z1 (P.length + I.length) _ rfl o1 5 (.int .u8 44) rfl rfl (by unfold maxLen; omega) (by omega) (Nat.le_refl _) B1 ?_; intro z2 w2 o2 B2)
      have HO2 := Lib.hid o2
      clear o1 o2
      go_roundw
      case rel =>
        refine ⟨j + 1, by omega, by go_num, B2, Lib.hid ?_⟩
        rw [HDT.out, ← HI.out]
        have e1 : (P ++ (I ++ [44])).length = P.length + I.length + 1 := by simp; omega
        have e2 : (P ++ (I ++ [44])).map bv = P.map bv ++ Lib.byteCells I ++ [.int .u8 44] := by simp [Lib.byteCells, bv, Function.comp_def]
        rw [e1, e2]
        exact HO2.out
      case measure => simp [intOf]; omega
    · have hj2 : xs.take j = xs := List.take_of_length_le (by omega)
      rw [hj2] at HO
      have hcv := conv_rd (rd_of_own HO.out) 115 5 9 Tryz.underlying115 Tryz.underlying5 Tryz.underlying9
      clear HO hj2 hdl
      go_wp2_with fail
      go_ret
      exact ⟨rfl, bel⟩
end Go.Proofs.YtoagdmglchccnaaGreatDoor.T2
namespace Go.Proofs.YtoagdmglchccnaaGreatDoor.T2
open Go Go.RowKit Go.Maps Go.MapKept
set_option linter.unusedVariables false
set_option linter.unusedSimpArgs false
def valN (l : Txt) : Nat := l.foldl (fun a c => a * 10 + (c.toNat - 48)) 0
theorem dec_val (u : Nat) : valN (Lib.decDigits u) = u ∧ ∀ c ∈ Lib.decDigits u, 48 ≤ c.toNat ∧ c.toNat ≤ 57 := by
  induction u using Nat.strongRecOn with
  | ind u ih =>
    rw [Lib.decDigits]
    split
    · rename_i h
      have e : (UInt8.ofNat (48 + u)).toNat = 48 + u := by rw [UInt8.toNat_ofNat']; omega
      refine ⟨by simp only [valN, List.foldl_cons, List.foldl_nil, e]; omega, ?_⟩
      intro c hc
      rw [List.mem_singleton.1 hc, e]; omega
    · rename_i h
      obtain ⟨h1, h2⟩ := ih (u / 10) (by omega)
      have e : (UInt8.ofNat (48 + u % 10)).toNat = 48 + u % 10 := by rw [UInt8.toNat_ofNat']; omega
      refine ⟨?_, ?_⟩
      · unfold valN at h1 ⊢
        rw [List.foldl_append, h1]
        simp only [List.foldl_cons, List.foldl_nil, e]; omega
      · intro c hc
        rcases List.mem_append.1 hc with hc | hc
        · exact h2 c hc
        · rw [List.mem_singleton.1 hc, e]; omega
theorem itoa_ne44 (n : Int) : ¬ (44 : UInt8) ∈ Lib.itoa n := by
  unfold Lib.itoa
  split
  · intro h
    rcases List.mem_cons.1 h with h | h
    · cases h
    · have := ((dec_val _).2 _ h).1; simp at this
  · intro h
    have := ((dec_val _).2 _ h).1; simp at this
theorem itoa_inj {a b : Int} (h : Lib.itoa a = Lib.itoa b) : a = b := by
  have nb : ∀ u : Nat, ∀ t, Lib.decDigits u ≠ 45 :: t := fun u t e => by
    have := ((dec_val u).2 45 (by rw [e]; simp)).1; simp at this
  unfold Lib.itoa at h
  split at h <;> split at h
  · have := congrArg valN (List.cons.inj h).2
    rw [(dec_val _).1, (dec_val _).1] at this; omega
  · exact absurd h.symm (nb _ _)
  · exact absurd h (nb _ _)
  · have := congrArg valN h
    rw [(dec_val _).1, (dec_val _).1] at this; omega
theorem cut_inj {c : UInt8} : ∀ {l1 l2 r1 r2 : Txt}, ¬ c ∈ l1 → ¬ c ∈ l2 → l1 ++ c :: r1 = l2 ++ c :: r2 → l1 = l2 ∧ r1 = r2
  | [], [], _, _, _, _, h => ⟨rfl, (List.cons.inj h).2⟩
  | [], y :: ys, _, _, _, h2, h => absurd (List.cons.inj h).1.symm (fun e => h2 (by rw [e]; simp))
  | x :: xs, [], _, _, h1, _, h => absurd (List.cons.inj h).1 (fun e => h1 (by rw [e]; simp))
  | x :: xs, y :: ys, _, _, h1, h2, h => by
    obtain ⟨e1, e2⟩ := List.cons.inj h
    obtain ⟨e3, e4⟩ := cut_inj (fun hm => h1 (List.mem_cons_of_mem _ hm)) (fun hm => h2 (List.mem_cons_of_mem _ hm)) e2
    exact ⟨by rw [e1, e3], e4⟩
theorem digN_cons (x : Int) (xs : List Int) : digN (x :: xs) = Lib.itoa x ++ 44 :: digN xs := by simp [digN]
theorem digN_inj : ∀ {a b : List Int}, digN a = digN b → a = b
  | [], [], _ => rfl
  | [], y :: ys, h => by rw [digN_cons] at h; have := congrArg List.length h; simp [digN] at this
  | x :: xs, [], h => by rw [digN_cons] at h; have := congrArg List.length h; simp [digN] at this
  | x :: xs, y :: ys, h => by
    rw [digN_cons, digN_cons] at h
    obtain ⟨e1, e2⟩ := cut_inj (itoa_ne44 x) (itoa_ne44 y) h
    rw [itoa_inj e1, digN_inj e2]
theorem ofL_len (L : List Txt) (s : Txt) : (ofL L s).length ≤ L.length + 1 := by unfold ofL; split <;> simp
set_option maxRecDepth 100000 in
theorem list_any (base B M : Nat) (v : Value) (L : List Txt) (z : Value) (xs : List Int) (hx : xs.length ≤ 1000) (hf : ∀ x ∈ xs, fitsI x) (hlen : L.length < 2000) (w : World) (h : TB w base B M v L) (hbw : base ≤ w.heap.size) (hz : RdV w z (xs.map iv)) (ht : Tab w) :
    Calls Tryz.prog 54 #[.pointer (some ⟨B, 0, none⟩), z] w (OfP w base B M v (numN (ofL L (digN xs)) (digN xs) : Int) (ofL L (digN xs))) := by
  have DG := digits_any z xs hx hf w hz ht
  have hdl := digN_len xs hf
  have OF := Lib.hid (fun w' (g : Below w.heap.size w w') => of_any base B M v L (digN xs) (by unfold maxLen; omega) hlen w' (h.below g) (Nat.le_trans hbw g.size))
  obtain ⟨ao, cap, rfl, _⟩ := rdv_open hz
  obtain ⟨s, hs⟩ : ∃ s, s = digN xs := ⟨_, rfl⟩
  rw [← hs] at DG OF ⊢
  clear h hz hdl hs
  unfold sv at DG OF
  go_enter Tryz.func54, Tryz.ntmps54
  go_wp2_with fail
  refine DG.mono ?_
  rintro e w1 ⟨rfl, g1⟩
  go_wp2_with fail
  refine (OF.out _ g1).mono ?_
  rintro e w2 ⟨rfl, v2, tb, tr, hv2⟩
  go_wp2_with fail
  go_ret2
  refine ⟨rfl, v2, tb, ?_, fun k hk => (hv2 k hk).imp id (fun h => Nat.le_trans g1.size h)⟩
  exact ⟨tr.os.trans g1.os, tr.tape.trans g1.tape, tr.output.trans g1.output, Nat.le_trans g1.size tr.size, fun k hk hn => (tr.block k (Nat.lt_of_lt_of_le hk g1.size) hn).trans (g1.block k hk)⟩
end Go.Proofs.YtoagdmglchccnaaGreatDoor.T2
namespace Go.Proofs.YtoagdmglchccnaaGreatDoor.T2
open Go Go.RowKit Go.Maps
set_option linter.unusedVariables false
set_option linter.unusedSimpArgs false
theorem str_app (a b : Txt) : str (a ++ b) = str a ++ str b := by
  apply ByteArray.ext
  simp [str, ByteArray.data_append]
theorem str_tl (l : Txt) : (str l).toList = l := by unfold str; simp
theorem rdt_open {w : World} {v : Value} {A : List Txt} (h : RdV w v (A.map sv)) : ∃ ao cap, v = .slice ao A.length cap ∧ A.length ≤ cap ∧ Hid (0 < A.length → ∃ b off, ao = some ⟨b, off, none⟩ ∧ b < w.heap.size ∧ ∀ i (hi : i < A.length), w.cell? ⟨b, off + i, none⟩ = some (sv A[i])) := by
  obtain ⟨ao, cap, rfl, hc, hm, _, HA⟩ := h
  rw [List.length_map] at hc HA
  refine ⟨ao, cap, by rw [List.length_map], hc, Lib.hid fun hp => ?_⟩
  obtain ⟨b, off, h1, h2, h3⟩ := HA hp
  refine ⟨b, off, h1, h2, fun i hi => ?_⟩
  rw [h3 i hi, List.getElem?_map, List.getElem?_eq_getElem hi]; rfl
end Go.Proofs.YtoagdmglchccnaaGreatDoor.T2
