/- Lists of texts: what is put, and the same. -/
import Derived.Test.YtlafmalgioffkaaL01U
import Derived.Test.YtlafmalgioffkaaL01B
import Derived.Deep.QuietTactic
import Derived.BigQuiet
namespace Go.Proofs.Ytlafmalgioffkaa
open Go.RowKit
set_option linter.unusedVariables false
set_option linter.unusedSimpArgs false
theorem own_below {w w' : World} {b : Nat} {e : TypeId} {size : Nat} {v : Value} {n : Nat} {xs : List Value} (h : w.ownsRow b e size v n xs) (hb : Below w.heap.size w w') : w'.ownsRow b e size v n xs := by
  refine ⟨h.1, ?_⟩
  rcases h.2 with h1 | ⟨g, cap, cur, rfl, h2, h3, h4⟩
  · exact .inl h1
  · exact .inr ⟨g, cap, cur, rfl, h2, (hb.block g (lt_of_block h3)).trans h3, h4⟩
theorem strinfo : (Try.prog.info? 9).map (fun i => (i.zero, i.size, i.bytes)) = some (some (.string ⟨#[]⟩), 1, 16) := by kernel_rfl
/-- 'b[i:]' of bytes that are read. -/
theorem wpList_slice_from {P : Program} {ops : Array Oper} {rest : List Oper} {o : Oper} {a : Act} {Q : Exit → Act → World → Prop} {w : World} (hgd : o.guard = none) (T e : TypeId) (s x : Operand)
    (ho : o.op = .slice T s (some x) none none) (ti : TypeInfo) (ht : P.underlying T = some (.slice e)) (hi : P.info? e = some ti) (hz : ti.size = 1)
    (ao : Option Addr) (n cap : Nat) (l : List UInt8) (hs : a.eval s = .slice ao n cap) (hr : Rd w (.slice ao n cap) l) (kx : IntKind) (X : Int) (hx : a.eval x = .int kx X)
    (i : Nat) (h0 : X = (i : Int)) (h2 : i ≤ n)
    (hK : ∀ ao' cap', Rd w (.slice ao' (n - i) cap') (l.drop i) → wpList P ops Q rest (a.put o.dst (.slice ao' (n - i) cap')) w) :
    wpList P ops Q (o :: rest) a w := by
  have h0' : 0 ≤ X := by omega
  have e1 : X.toNat = i := by omega
  have hl : n = l.length := by obtain ⟨_, _, he, _⟩ := hr; cases he; rfl
  rw [← e1] at hK
  refine wpList_plain hgd fun K hK' => ?_
  have hnc : n ≤ cap := by obtain ⟨_, _, he, h3, _⟩ := hr; cases he; exact h3
  have hrs := rd_sliced hr X.toNat n (by omega) (by omega)
  rw [List.take_of_length_le (by simp; omega)] at hrs
  unfold Oper.wp
  simp [execOp, ho, hs, hx, Instr.sliceAt, Instr.slice, run_underlying ht, Instr.sliceBounds, Instr.sliceBound, asIntOf, h0', (by omega : X ≤ (n : Int)), (by omega : (n : Int) ≤ cap), (by omega : X ≤ max (n : Int) 0), sizeOf, typeInfo, hi, hz, Result.andThen]
  rw [Nat.mul_one] at hrs
  exact hK' _ _ (hK _ _ hrs)
theorem refText_any (x : List UInt8) (hx : x.length ≤ 1000000000000) (w : World) :
    Calls Try.prog 22 #[.string (str x)] w fun e w' => e = .returned (.string (str (rawT x))) ∧ Below w.heap.size w w' := by
  have hsz : (str x).size = x.length := str_size x
  have hpl : (str (putL x.length)).size ≤ 10 := by rw [str_size]; exact (putL_len _).2
  have PU := fun w => refPut_any (x.length : Int) x.length rfl ⟨by omega, by omega⟩ w
  have happ := str_append (putL x.length) x
  rw [show putL x.length ++ x = rawT x from rfl] at happ
  generalize rawT x = z at happ ⊢
  generalize putL x.length = q at hpl PU happ
  go_enter Try.func22, Try.ntmps22
  go_wp2_with (go_at_call 13; refine (PU _).mono ?_; rintro e w' ⟨rfl, hb⟩)
  go_ret
  exact ⟨rfl, hb⟩
theorem rawT_len (x : List UInt8) : (rawT x).length ≤ x.length + 10 := by unfold rawT; have := (putL_len x.length).2; simp; omega
/-- Of a list that is read: its places. -/
theorem rdv_cells {w : World} {v : Value} {L : List (List UInt8)} {n : Nat} (h : RdV w v (L.map sv)) (hn : n = L.length) : ∃ ao cap, v = .slice ao n cap ∧ n ≤ cap ∧ cap ≤ 9223372036854775807 ∧ Hid (∀ j, j < n → ∃ b off, ao = some ⟨b, off, none⟩ ∧ b < w.heap.size ∧ w.cell? ⟨b, off + j, none⟩ = some (.string (str (L.getD j [])))) := by
  obtain ⟨ao, cap, h1, h2, h3, h4, h5⟩ := h
  rw [List.length_map, ← hn] at h1 h2 h5
  refine ⟨ao, cap, h1, h2, by unfold maxLen at h3; simpa using h3, ?_⟩
  intro j hj
  obtain ⟨b, off, h6, h7, h8⟩ := h5 (by omega)
  refine ⟨b, off, h6, h7, ?_⟩
  rw [h8 j hj, List.getElem?_map]
  have : j < L.length := by omega
  simp [List.getD, this, sv]
set_option maxRecDepth 100000 in
set_option maxHeartbeats 1000000 in
theorem refList_any (v : Value) (L : List (List UInt8)) (w : World) (h : RdV w v (L.map sv)) (hT : (flatT L).length ≤ 1000000000000) (hx : ∀ x ∈ L, x.length ≤ 1000000000) :
    Calls Try.prog 26 #[v] w fun e w' => e = .returned (.string (str (listR L))) ∧ Below w.heap.size w w' := by
  obtain ⟨n, en⟩ : ∃ n, n = L.length := ⟨_, rfl⟩
  obtain ⟨ao, cap, rfl, hc, hm, HC⟩ := rdv_cells h en
  have hpl : (putL n).length ≤ 10 := (putL_len _).2
  have PU := fun w => refPut_any (n : Int) n rfl ⟨by omega, by omega⟩ w
  have eR : listR L = putL n ++ flatT L := by rw [en]; rfl
  have ER := Lib.hid eR
  have EN := Lib.hid en
  have HX := Lib.hid hx
  have HTT := Lib.hid hT
  clear eR en h hx hT
  generalize putL n = q at hpl PU ER
  go_enter Try.func26, Try.ntmps26
  go_wp2_with (go_at_call 13; refine (PU _).mono ?_; rintro e w' ⟨rfl, hb⟩)
  go_loopw [3, 4] (fun s i wr => ∃ (j : Nat) (A : List UInt8), j ≤ n ∧ i = .int .i64 (j : Int) ∧ s = .string (str A) ∧ Hid (A = q ++ flatT (L.take j)) ∧ A.length ≤ 1000000000010 ∧ Below w.heap.size w wr) (fun _ i _ => n - (intOf i).toNat)
  case atStart => exact ⟨0, q, Nat.zero_le _, rfl, rfl, by show q = _; simp [flatT], by omega, hb⟩
  case round =>
    obtain ⟨j, A, hj, rfl, rfl, hA, hAl, bel⟩ := hrel
    by_cases hjn : j < n
    · obtain ⟨b, off, rfl, hb1, hcell⟩ := HC.out j hjn
      have hcw := (bel.cell (p := ⟨b, off + j, none⟩) hb1).trans hcell
      have hjL : j < L.length := by rw [← EN.out]; exact hjn
      have hxl : (L.getD j []).length ≤ 1000000000 := HX.out _ (by have : L.getD j [] = L[j] := by simp [List.getD, hjL]
                                                                   rw [this]; exact List.getElem_mem hjL)
      have hst := flatT_step L j hjL
      have hle := flatT_take L (j + 1)
      have hTo := HTT.out
      have hblt : b < wr.heap.size := Nat.lt_of_lt_of_le hb1 bel.size
      generalize L.getD j [] = x at hcw hxl hst
      have RT := fun w => refText_any x (by omega) w
      have HJ : Hid (A ++ rawT x = q ++ flatT (L.take (j + 1))) := by show _ = _; rw [hst, hA.out]; simp
      have hl2 : (A ++ rawT x).length ≤ 1000000000010 := by rw [HJ.out, List.length_append]; omega
      have happ := str_append A (rawT x)
      have hzA : (str A).size = A.length := str_size A
      have hzR : (str (rawT x)).size ≤ 1000000010 := by rw [str_size]; have := rawT_len x; omega
      clear hst hle hTo hA hcell hjL
      generalize rawT x = rx at *
      go_wp2_with (go_at_call 22; refine (RT _).mono ?_; rintro e w2 ⟨rfl, g⟩; have bel := bel.trans (g.mono bel.size); clear g)
      exact ⟨⟨j + 1, A ++ rx, by omega, by push_cast; rfl, rfl, HJ, hl2, bel⟩, by simp [intOf]; omega⟩
    · obtain rfl : j = n := by omega
      have hfin : A = listR L := by rw [hA.out, ER.out, List.take_of_length_le (by rw [← EN.out]; exact Nat.le_refl _)]
      have HFI := Lib.hid hfin
      clear hfin hA
      go_wp2_with fail
      go_ret
      exact ⟨by rw [← HFI.out]; rfl, bel⟩
set_option maxRecDepth 100000 in
theorem same_any (v1 v2 : Value) (L : List (List UInt8)) (w : World) (h1 : RdV w v1 (L.map sv)) (h2 : RdV w v2 (L.map sv)) :
    Calls Try.prog 30 #[v1, v2] w fun e w' => e = .returned (.bool true) ∧ Below w.heap.size w w' := by
  obtain ⟨n, en⟩ : ∃ n, n = L.length := ⟨_, rfl⟩
  obtain ⟨ao1, cap1, rfl, hc1, hm1, HC1⟩ := rdv_cells h1 en
  obtain ⟨ao2, cap2, rfl, hc2, hm2, HC2⟩ := rdv_cells h2 en
  clear en h1 h2
  go_enter Try.func30, Try.ntmps30
  go_wp2_with fail
  go_loopw [5] (fun i wr => ∃ j : Nat, j ≤ n ∧ i = .int .i64 (j : Int) ∧ Below w.heap.size w wr) (fun i _ => n - (intOf i).toNat)
  case atStart => exact ⟨0, Nat.zero_le _, rfl, Below.refl _ _⟩
  case round =>
    obtain ⟨j, hj, rfl, bel⟩ := hrel
    by_cases hjn : j < n
    · obtain ⟨b1, off1, rfl, hb1, hcell1⟩ := HC1.out j hjn
      obtain ⟨b2, off2, rfl, hb2, hcell2⟩ := HC2.out j hjn
      have c1 := (bel.cell (p := ⟨b1, off1 + j, none⟩) hb1).trans hcell1
      have c2 := (bel.cell (p := ⟨b2, off2 + j, none⟩) hb2).trans hcell2
      generalize L.getD j [] = x at c1 c2
      clear hcell1 hcell2
      go_wp2_with fail
      go_quiet (fail)
      have bel := below_drewN (k := nq) bel
      go_wp2_with fail
      exact ⟨⟨j + 1, by omega, by push_cast; rfl, bel⟩, by simp [intOf]; omega⟩
    · obtain rfl : j = n := by omega
      go_wp2_with fail
      go_ret
      exact ⟨rfl, bel⟩
set_option maxRecDepth 100000 in
set_option maxHeartbeats 1000000 in
theorem putList_any (v : Value) (L : List (List UInt8)) (w : World) (h : RdV w v (L.map sv)) (hx : ∀ x ∈ L, x.length ≤ 1000000000) :
    Calls Try.prog 29 #[v] w fun e w' => ∃ v', e = .returned v' ∧ Rd w' v' (listP L) ∧ Below w.heap.size w w' := by
  obtain ⟨i0, hi, hz0, hz1, hz2⟩ := info_parts u8info
  obtain ⟨n, en⟩ : ∃ n, n = L.length := ⟨_, rfl⟩
  obtain ⟨ao, cap, rfl, hc, hm, HC⟩ := rdv_cells h en
  have EN := Lib.hid en
  have HX := Lib.hid hx
  clear h hx
  by_cases h255 : 255 < n
  · have e : listP L = [] := if_pos (by omega)
    have E := Lib.hid e
    clear e en
    go_enter Try.func29, Try.ntmps29
    go_wp2_with fail
    go_ret
    exact ⟨_, rfl, by rw [E.out]; exact rd_nil _, Below.refl _ _⟩
  · have e : listP L = if okT L = true then listR L else [] := if_neg (by omega)
    have E := Lib.hid e
    clear e en
    have PU := fun w => put_at (n : Int) n rfl ⟨by omega, by omega⟩ w
    have hq := putL_len n
    go_enter Try.func29, Try.ntmps29
    go_wp2_with (go_at_call 12; refine (PU _).mono ?_; rintro e w1 ⟨g0, n0, cap0, rfl, hn0, hl0, hown0, hb⟩)
    have hl0' := hl0.out
    subst hl0'
    go_loopw [3, 5, 15] (fun d _ i wr => ∃ (j : Nat) (A : List UInt8), j ≤ n ∧ i = .int .i64 (j : Int) ∧ Hid (A = putL n ++ flatT (L.take j)) ∧ A.length ≤ 10 + 265 * j ∧ 0 < A.length ∧ Hid (okT (L.take j) = true) ∧ wr.ownsRow w.heap.size 5 1 d A.length (A.map bv) ∧ Below w.heap.size w wr) (fun _ _ i _ => n - (intOf i).toNat)
    case atStart => exact ⟨0, putL n, Nat.zero_le _, rfl, by show putL n = _; simp [flatT], by omega, by omega, rfl, hown0, hb⟩
    case round =>
      obtain ⟨j, A, hj, rfl, hA, hAl, hA0, hok, hown, bel⟩ := hrel
      by_cases hjn : j < n
      · obtain ⟨b, off, rfl, hb1, hcell⟩ := HC.out j hjn
        have hcw := (bel.cell (p := ⟨b, off + j, none⟩) hb1).trans hcell
        have hblt : b < wr.heap.size := Nat.lt_of_lt_of_le hb1 bel.size
        have hjL : j < L.length := by rw [← EN.out]; exact hjn
        have hxl : (L.getD j []).length ≤ 1000000000 := HX.out _ (by have : L.getD j [] = L[j] := by simp [List.getD, hjL]
                                                                     rw [this]; exact List.getElem_mem hjL)
        have hst := flatT_step L j hjL
        have hos := okT_step L j hjL
        have hno := okT_no L j hjL
        generalize L.getD j [] = x at hcw hxl hst hos hno
        have hzx : (str x).size = x.length := str_size x
        by_cases hx255 : 255 < x.length
        · have e : listP L = [] := by rw [E.out, hno hx255]; rfl
          have E2 := Lib.hid e
          clear e hst hos hno hjL hcell hA hok
          go_wp2_with fail
          go_ret
          exact ⟨_, rfl, by rw [E2.out]; exact rd_nil _, bel⟩
        · have et : textL x = rawT x := rawT_text (by omega)
          have PT := fun w => putText_any x w (by unfold maxLen; omega)
          rw [et] at PT
          have hrl := rawT_len x
          have HJ : Hid (A ++ rawT x = putL n ++ flatT (L.take (j + 1))) := by show _ = _; rw [hst, hA.out]; simp
          have HOK : Hid (okT (L.take (j + 1)) = true) := by show _ = _; rw [hos, hok.out]; simp; omega
          clear et hst hos hno hjL hcell hA hok
          generalize rawT x = rx at *
          go_wp2_with (first
            | (go_at_call 25; refine (PT _).mono ?_; rintro e w2 ⟨v2, rfl, hr2, -, g⟩; have hown := own_below hown g; have bel := bel.trans (g.mono bel.size); clear g)
            | (at_builtin; refine wpList_app_rd w rfl (.tmp 22) (.tmp 24) 24 rfl w.heap.size 5 i0 (.int .u8 0) 1 Try.underlying24 hi hz0 hz1 hz2 rfl _ A.length (A.map bv) rfl hown _ rx rfl hr2 (by unfold maxLen; omega) (by omega) (Nat.le_refl _) bel ?_; intro v3 w3 hown3 bel3))
          exact ⟨⟨j + 1, A ++ rx, by omega, by push_cast; rfl, HJ, by simp; omega, by simp; omega, HOK, by simpa using hown3, bel3⟩, by simp [intOf]; omega⟩
      · clear hown0
        obtain rfl : j = n := by omega
        have hok' : okT L = true := by have := hok.out; rwa [List.take_of_length_le (by rw [← EN.out]; exact Nat.le_refl _)] at this
        have hfin : A = listP L := by
          rw [E.out, hok', if_pos rfl, hA.out, List.take_of_length_le (by rw [← EN.out]; exact Nat.le_refl _)]
          show putL j ++ flatT L = putL L.length ++ flatT L
          rw [← EN.out]
        have HFI := Lib.hid hfin
        obtain ⟨g', cap', rfl, _, _⟩ := slice_of_own hown hA0
        clear hfin hA hok hok'
        go_wp2_with fail
        go_ret
        exact ⟨_, rfl, by rw [← HFI.out]; exact own_rd hown, bel⟩
end Go.Proofs.Ytlafmalgioffkaa
