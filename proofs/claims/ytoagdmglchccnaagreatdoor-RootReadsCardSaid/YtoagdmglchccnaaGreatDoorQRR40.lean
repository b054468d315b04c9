/- Roots: the chunks' bytes. -/
import Derived.Test.YtoagdmglchccnaaGreatDoorQRR39
import Derived.Test.YtoagdmglchccnaaGreatDoorQRR28
import Derived.Lib.ConvBytes
namespace Go.Proofs.YtoagdmglchccnaaGreatDoor
open Go Go.RowKit
set_option linter.unusedVariables false
set_option linter.unusedSimpArgs false
theorem bytes_info12 : (Tryz.prog.info? 115).map (fun i => (i.zero, i.size, i.bytes)) = some (some (.slice none 0 0), 1, 24) := by kernel_rfl
/-- 'l = append(l, b)', l the call's own list of bytes. -/
theorem wpList_app_byt {ops : Array Oper} {rest : List Oper} {o : Oper} {a : Act} {Q : Exit → Act → World → Prop} {w : World} (hgd : o.guard = none) (s x : Operand)
    (ho : o.op = .call { callee := .builtin .append, args := #[s, x], argTypes := #[113, 113] })
    (base : Nat) (v : Value) (n : Nat) (xs : List Value) (hs : a.eval s = v) (hn : n = xs.length) (hown : w.ownsRow base 115 1 v n xs) (e' : TypeId) (ya : Option Addr) (yn yc : Nat)
    (hx : a.eval x = .slice (some ⟨w.heap.size, 0, none⟩) 1 1) (h63 : xs.length ≤ 4000) (hbase : base ≤ w.heap.size)
    (hK : ∀ v' w', w'.ownsRow base 115 1 v' (n + 1) (xs ++ [.slice ya yn yc]) → w.grownBy w' v.ownBlock → (∀ q, v'.ownBlock = some q → v.ownBlock = some q ∨ w.heap.size ≤ q) → wpList Tryz.prog ops Q rest (a.put o.dst v') w') :
    wpList Tryz.prog ops Q (o :: rest) a (w.alloc (.cells #[.slice ya yn yc] e')) := by
  obtain ⟨i0, hi, hz0, hz1, hz2⟩ := info_parts bytes_info12
  refine wpList_append_own_at _ hgd s x _ ho base 115 i0 (.slice none 0 0) 1 24 Tryz.underlying113 hi hz0 hz1 hz2 rfl (by decide) v n _ hs (hown.alloc _) ⟨w.heap.size, 0, none⟩ 1 1 [.slice ya yn yc] hx rfl ?_ ?_ (by unfold maxLen; omega) (by omega) (by simp; omega) ?_
  · intro j u hj
    have hj0 : j = 0 := by
      have := (List.getElem?_eq_some_iff.1 hj).1
      simp at this; omega
    subst hj0
    have e : Addr.add ⟨w.heap.size, 0, none⟩ 0 = ⟨w.heap.size, 0, none⟩ := by rw [Addr.add_lit]
    rw [e, block_cell (heap_alloc_new w _) 0]
    simpa using hj
  · intro u hu; rw [List.mem_singleton.1 hu]; rfl
  · intro v' w' h1 h2 h3 h9
    refine hK v' w' h1 ⟨h2.os, h2.tape, h2.output, Nat.le_trans (by simp) h2.size, fun k hk hr => (h2.block k (by simp; omega) hr).trans (@heap_alloc_old w _ k hk)⟩ (fun q hq => h9.elim (fun e => .inl (e ▸ hq)) (fun e => .inr (by rw [e] at hq; cases hq; simp)))
theorem block_cellz {w : World} {b i : Nat} {cs : Array Value} {t : TypeId} {z : Nat × Nat} (h : w.heap[b]? = some (.cells cs t z)) : w.cell? ⟨b, i, none⟩ = cs[i]? := by
  simp [World.cell?, h]
/-- Bytes of a text, in a block of one's own. -/
def ByR (W : World) (u : Value) (l : T2.Txt) : Prop := ∃ b cap cells z, u = .slice (some ⟨b, 0, none⟩) l.length cap ∧ l.length ≤ cap ∧ cap ≤ maxLen ∧ W.heap[b]? = some (.cells cells 5 z) ∧ ∀ i, i < l.length → cells[i]? = some (bv (l.getD i 0))
theorem ByR.rd {W : World} {u : Value} {l : T2.Txt} (h : ByR W u l) : Rd W u l := by
  obtain ⟨b, cap, cells, z, rfl, h1, h2, h3, h4⟩ := h
  refine ⟨_, cap, rfl, h1, h2, by simp, fun _ => ⟨b, 0, rfl, lt_of_block h3, fun i hi => ?_⟩⟩
  rw [block_cellz h3, Nat.zero_add]
  exact h4 i hi
theorem ByR.below {W X : World} {u : Value} {l : T2.Txt} (h : ByR W u l) (g : Below W.heap.size W X) : ByR X u l := by
  obtain ⟨b, cap, cells, z, rfl, h1, h2, h3, h4⟩ := h
  exact ⟨b, cap, cells, z, rfl, h1, h2, (g.block _ (lt_of_block h3)).trans h3, h4⟩
theorem ByR.grown {W X : World} {u v : Value} {l : T2.Txt} {base n : Nat} {xs : List Value} (h : ByR W u l) (ho : W.ownsRow base 115 1 v n xs) (g : W.grownBy X v.ownBlock) : ByR X u l := by
  obtain ⟨b, cap, cells, z, rfl, h1, h2, h3, h4⟩ := h
  refine ⟨b, cap, cells, z, rfl, h1, h2, (g.block _ (lt_of_block h3) (fun e => ?_)).trans h3, h4⟩
  rcases ho.2 with ⟨e1, -⟩ | ⟨g2, cap2, cur2, rfl, -, hg2, -⟩
  · rw [e1] at e; simp [Value.ownBlock] at e
  · simp [Value.ownBlock] at e
    subst e
    rw [h3] at hg2
    injection hg2 with hg2
    injection hg2 with _ hg2
    exact absurd hg2 (by decide)
theorem byR_new (w : World) (l : T2.Txt) (h : l.length ≤ maxLen) : ByR (Lib.bytesWorld w 5 (str l)) (.slice (some ⟨w.heap.size, 0, none⟩) l.length (grownCap w l.length 0 5)) l := by
  refine ⟨_, _, _, _, rfl, grownCap_ge _ _ _ _, grownCap_le_maxLen _ _ _ _ h, Lib.bytesWorld_at_new w 5 (str l), fun i hi => ?_⟩
  have h2 := Lib.bytesWorld_cell w 5 (str l) i (by rw [str_size]; exact hi)
  rw [block_cellz (Lib.bytesWorld_at_new w 5 (str l)), str_toList] at h2
  exact h2
def ByL (W : World) (vs : List Value) (ls : List T2.Txt) : Prop := vs.length = ls.length ∧ ∀ (j : Nat) (u : Value), vs[j]? = some u → ∃ l, ls[j]? = some l ∧ ByR W u l
theorem byL_snoc {W : World} {vs : List Value} {ls : List T2.Txt} {u : Value} {l : T2.Txt} (h : ByL W vs ls) (hr : ByR W u l) : ByL W (vs ++ [u]) (ls ++ [l]) := by
  refine ⟨by simp [h.1], fun j x hx => ?_⟩
  by_cases hj : j < vs.length
  · rw [List.getElem?_append_left hj] at hx
    rw [List.getElem?_append_left (by rw [← h.1]; exact hj)]
    exact h.2 j x hx
  · rw [List.getElem?_append_right (by omega)] at hx
    rw [List.getElem?_append_right (by rw [← h.1]; omega), ← h.1]
    have : j - vs.length = 0 := by
      have := (List.getElem?_eq_some_iff.1 hx).1
      simp at this; omega
    rw [this] at hx ⊢
    simp at hx ⊢
    exact hx ▸ hr
set_option maxRecDepth 100000 in
set_option maxHeartbeats 2000000 in
theorem bytes12_any (v : Value) (cs : List T2.Txt) (hn : cs.length ≤ 4000) (hc : ∀ c ∈ cs, c.length ≤ 4000) (w : World) (h : RdV w v (cs.map T2.sv)) : Calls Tryz.prog 65 #[v] w fun e w' => ∃ u, e = .returned u ∧ RdP w' u cs ∧ Below w.heap.size w w' := by
  obtain ⟨ao, cap, rfl, hle, hcell⟩ := T2.rdt_open h
  obtain ⟨Z, hZ⟩ : ∃ Z : Ending → World → Prop, Z = fun e w' => ∃ u, e = .returned u ∧ RdP w' u cs ∧ Below w.heap.size w w' := ⟨_, rfl⟩
  rw [← hZ]
  have HZ := Lib.hid hZ
  have HC := Lib.hid hc
  have hm : cs.length ≤ 9223372036854775807 := by omega
  have cvs := fun (W : World) (s : ByteArray) => Lib.run_convert_string_bytes (P := Tryz.prog) W 9 115 5 s Tryz.underlying9 Tryz.underlying115 Tryz.underlying5
  clear hZ h hle hc
  go_enter Tryz.func65, Tryz.ntmps65
  go_wp2_with fail
  go_loopw [3, 8] (fun lst i wr => ∃ (j : Nat) (vs : List Value), j ≤ cs.length ∧ i = .int .i64 (j : Int) ∧ Hid (vs.length = j) ∧ Hid (ByL wr vs (cs.take j)) ∧ Hid (Below w.heap.size w wr) ∧ wr.ownsRow w.heap.size 115 1 lst j vs) (fun _ i _ => cs.length + 1 - (intOf i).toNat)
  case atStart => exact ⟨0, [], Nat.zero_le _, rfl, Lib.hid rfl, Lib.hid ⟨rfl, fun j u h => by simp at h⟩, Lib.hid (Below.refl _ _), World.ownsRow_nil _ _ _ _⟩
  case round =>
    obtain ⟨j, vs, hj, rfl, HVL, HBL, HG, own⟩ := hrel
    have HO := Lib.hid own
    by_cases hlt : j < cs.length
    · obtain ⟨b, off, rfl, hb, hc0⟩ := hcell.out (by omega)
      have hc := hc0 j hlt
      obtain ⟨c, hcE⟩ : ∃ c, c = cs[j] := ⟨_, rfl⟩
      rw [← hcE] at hc
      unfold T2.sv at hc
      have hc : wr.cell? ⟨b, off + j, none⟩ = some (.string (str c)) := by rw [World.cell?_of_block (w := w) (HG.out.block _ hb)]; exact hc
      have hcl : c.length ≤ 4000 := by rw [hcE]; exact HC.out _ (List.getElem_mem _)
      have BN := Lib.hid (byR_new wr c (by unfold maxLen; omega))
      have WB := Lib.hid (Lib.bytesWorld_below wr 5 (str c))
      have HT := Lib.hid (show cs.take (j + 1) = cs.take j ++ [c] by rw [List.take_add_one, List.getElem?_eq_getElem hlt, hcE]; rfl)
      obtain ⟨al, cl, rfl⟩ := own_slice_n own
      have own5 := T2.own_on HO.out WB.out (Nat.le_refl _)
      have hsz : w.heap.size ≤ (Lib.bytesWorld wr 5 (str c)).heap.size := Nat.le_trans HG.out.size WB.out.size
      have HZ5 := Lib.hid hsz
      clear hc0 hcell own hcE
      go_wp2_with (at_builtin; refine wpList_app_byt rfl (.tmp 12) (.tmp 15) rfl w.heap.size _ j vs rfl HVL.out.symm own5 _ _ _ _ rfl (by have := HVL.out; omega) HZ5.out ?_; intro v6 w6 own6 g6 hq6)
      refine ⟨⟨j + 1, vs ++ [.slice (some ⟨wr.heap.size, 0, none⟩) c.length (grownCap wr c.length 0 5)], by omega, by push_cast; rfl, Lib.hid (by rw [List.length_append, HVL.out]; rfl), Lib.hid ?_, Lib.hid ((HG.out.trans (WB.out.mono HG.out.size)).grown g6 HZ5.out (fun q hq => (T2.own_lt own5 q hq).1)), own6⟩, by simp [intOf]; omega⟩
      rw [HT.out]
      refine byL_snoc ⟨HBL.out.1, fun i x hx => ?_⟩ (BN.out.grown own5 g6)
      obtain ⟨l, hl, hr⟩ := HBL.out.2 i x hx
      exact ⟨l, hl, (hr.below WB.out).grown own5 g6⟩
    · obtain rfl : j = cs.length := by omega
      obtain ⟨al, cl, rfl⟩ := own_slice_n own
      go_wp2_with fail
      show Z _ _
      rw [HZ.out]
      refine ⟨_, rfl, ?_, HG.out⟩
      have HB := HBL.out
      rw [List.take_length] at HB
      obtain ⟨ao2, cap2, e, k2, k3, k4, k5⟩ := own_rdv HO.out
      rw [HVL.out] at k2 e k5
      injection e with e1 e2 e3
      subst e1 e3
      refine ⟨_, _, rfl, k2, k3, k4, fun hp => ?_⟩
      obtain ⟨b5, o5, e5, h6, h7⟩ := k5 hp
      refine ⟨b5, o5, e5, h6, fun i hi => ?_⟩
      have h8 := h7 i hi
      obtain ⟨x, hx⟩ : ∃ x, vs[i]? = some x := ⟨vs[i]'(by rw [HVL.out]; exact hi), List.getElem?_eq_getElem _⟩
      obtain ⟨l, hl, hr⟩ := HB.2 i x hx
      refine ⟨x, h8.trans hx, ?_⟩
      have : cs.getD i [] = l := by simp [List.getD, hl]
      rw [this]
      exact hr.rd
end Go.Proofs.YtoagdmglchccnaaGreatDoor
