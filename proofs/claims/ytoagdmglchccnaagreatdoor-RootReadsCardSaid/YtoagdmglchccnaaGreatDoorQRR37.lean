/- Roots: the term of a leaf. -/
import Derived.Test.YtoagdmglchccnaaGreatDoorQRR33
import Derived.Test.YtoagdmglchccnaaGreatDoorQRR34
import Derived.Test.YtoagdmglchccnaaGreatDoorQRR16
import Derived.Test.YtoagdmglchccnaaGreatDoorQRR36
namespace Go.Proofs.YtoagdmglchccnaaGreatDoor
open Go Go.RowKit
set_option linter.unusedVariables false
set_option linter.unusedSimpArgs false
theorem trn_comp {B M : Nat} {v v1 : Value} {w0 w1 w2 : World} (h1 : T2.Trn (T2.ownR B M v) w0 w1) (hv : ∀ k, v1.ownBlock = some k → v.ownBlock = some k ∨ w0.heap.size ≤ k) (h2 : T2.Trn (T2.ownR B M v1) w1 w2) : T2.Trn (T2.ownR B M v) w0 w2 :=
  ⟨h2.os.trans h1.os, h2.tape.trans h1.tape, h2.output.trans h1.output, Nat.le_trans h1.size h2.size, fun k hk hn => (h2.block k (Nat.lt_of_lt_of_le hk h1.size) (by
    rintro (e | e | e)
    · exact hn (.inl e)
    · exact hn (.inr (.inl e))
    · rcases hv k e with e | e
      · exact hn (.inr (.inr e))
      · omega)).trans (h1.block k hk hn)⟩
theorem hv_comp {v v1 v2 : Value} {w0 w1 : World} (h1 : ∀ k, v1.ownBlock = some k → v.ownBlock = some k ∨ w0.heap.size ≤ k) (hs : w0.heap.size ≤ w1.heap.size) (h2 : ∀ k, v2.ownBlock = some k → v1.ownBlock = some k ∨ w1.heap.size ≤ k) : ∀ k, v2.ownBlock = some k → v.ownBlock = some k ∨ w0.heap.size ≤ k := fun k hk => by
  rcases h2 k hk with e | e
  · exact h1 k e
  · exact .inr (by omega)
/-- A table's blocks, and one more. -/
def OwnQ (B M : Nat) (v : Value) (q k : Nat) : Prop := T2.ownR B M v k ∨ k = q
theorem trnq_comp {B M q : Nat} {v v1 : Value} {w0 w1 w2 : World} (h1 : T2.Trn (OwnQ B M v q) w0 w1) (hv : ∀ k, v1.ownBlock = some k → v.ownBlock = some k ∨ w0.heap.size ≤ k) (h2 : T2.Trn (T2.ownR B M v1) w1 w2) : T2.Trn (OwnQ B M v q) w0 w2 :=
  ⟨h2.os.trans h1.os, h2.tape.trans h1.tape, h2.output.trans h1.output, Nat.le_trans h1.size h2.size, fun k hk hn => (h2.block k (Nat.lt_of_lt_of_le hk h1.size) (by
    rintro (e | e | e)
    · exact hn (.inl (.inl e))
    · exact hn (.inl (.inr (.inl e)))
    · rcases hv k e with e | e
      · exact hn (.inl (.inr (.inr e)))
      · omega)).trans (h1.block k hk hn)⟩
theorem trnq_grown {B M q : Nat} {v : Value} {w w1 w2 : World} {r : Option Nat} (h : T2.Trn (OwnQ B M v q) w w1) (g : w1.grownBy w2 r) (hr : ∀ k, r = some k → k = q ∨ w.heap.size ≤ k) : T2.Trn (OwnQ B M v q) w w2 :=
  ⟨g.os.trans h.os, g.tape.trans h.tape, g.output.trans h.output, Nat.le_trans h.size g.size, fun k hk hn => (g.block k (Nat.lt_of_lt_of_le hk h.size) (fun e => by
    rcases hr k e.symm with h1 | h1
    · exact hn (.inr h1)
    · omega)).trans (h.block k hk hn)⟩
theorem trnq_back {B M q : Nat} {v : Value} {w w3 w8 : World} (h : Below w.heap.size w w3) (t : T2.Trn (OwnQ B M v q) w3 w8) (hq : w.heap.size ≤ q) : T2.Trn (T2.ownR B M v) w w8 :=
  ⟨t.os.trans h.os, t.tape.trans h.tape, t.output.trans h.output, Nat.le_trans h.size t.size, fun k hk hn => (t.block k (Nat.lt_of_lt_of_le hk h.size) (by
    rintro (e | e)
    · exact hn e
    · omega)).trans (h.block k hk)⟩
theorem own_one {w : World} {g base : Nat} {e : TypeId} {x : Value} (h : w.heap[g]? = some (.cells #[x] e (0, 0))) (hb : base ≤ g) : w.ownsRow base e 1 (.slice (some ⟨g, 0, none⟩) 1 1) 1 [x] :=
  ⟨rfl, .inr ⟨g, 1, #[x], rfl, hb, h, Nat.le_refl _, by simp [maxLen], rfl, rfl⟩⟩
theorem rdv_cell {w : World} {v : Value} {xs : List Value} (h : RdV w v xs) (j : Nat) (hj : j < xs.length) : ∃ b off cap, v = .slice (some ⟨b, off, none⟩) xs.length cap ∧ b < w.heap.size ∧ w.cell? ⟨b, off + j, none⟩ = some xs[j] := by
  obtain ⟨ao, cap, rfl, h2, h3, h4, h5⟩ := h
  obtain ⟨b, off, rfl, hb, hc⟩ := h5 (by omega)
  exact ⟨b, off, cap, rfl, hb, by rw [hc j hj]; simp⟩
theorem int_info12 : (Tryz.prog.info? 3).map (fun i => (i.zero, i.size, i.bytes)) = some (some (.int .i64 0), 1, 8) := by kernel_rfl
/-- 'l = append(l, x)', l the call's own list of numbers. -/
theorem wpList_app_int {ops : Array Oper} {rest : List Oper} {o : Oper} {a : Act} {Q : Exit → Act → World → Prop} {w : World} (hgd : o.guard = none) (s x : Operand)
    (ho : o.op = .call { callee := .builtin .append, args := #[s, x], argTypes := #[40, 40] })
    (base : Nat) (v : Value) (n : Nat) (xs : List Int) (hs : a.eval s = v) (hn : n = xs.length) (hown : w.ownsRow base 3 1 v n (xs.map T2.iv)) (e' : TypeId) (y : Int)
    (hx : a.eval x = .slice (some ⟨w.heap.size, 0, none⟩) 1 1) (h63 : xs.length ≤ 4000) (hbase : base ≤ w.heap.size)
    (hK : ∀ v' w', w'.ownsRow base 3 1 v' (n + 1) ((xs ++ [y]).map T2.iv) → w.grownBy w' v.ownBlock → (∀ q, v'.ownBlock = some q → v.ownBlock = some q ∨ w.heap.size ≤ q) → wpList Tryz.prog ops Q rest (a.put o.dst v') w') :
    wpList Tryz.prog ops Q (o :: rest) a (w.alloc (.cells #[.int .i64 y] e')) := by
  obtain ⟨i0, hi, hz0, hz1, hz2⟩ := info_parts int_info12
  refine wpList_append_own_at _ hgd s x _ ho base 3 i0 (.int .i64 0) 1 8 Tryz.underlying40 hi hz0 hz1 hz2 rfl (by decide) v n _ hs (hown.alloc _) ⟨w.heap.size, 0, none⟩ 1 1 [.int .i64 y] hx rfl ?_ ?_ (by unfold maxLen; omega) (by omega) (by simp; omega) ?_
  · intro j u hj
    have hj0 : j = 0 := by
      have := (List.getElem?_eq_some_iff.1 hj).1
      simp at this; omega
    subst hj0
    have e : Addr.add ⟨w.heap.size, 0, none⟩ 0 = ⟨w.heap.size, 0, none⟩ := by rw [Addr.add_lit]
    rw [e, block_cell (heap_alloc_new w _) 0]
    simpa using hj
  · intro u hu; rw [List.mem_singleton.1 hu]; rfl
  · intro v' w' h1 h2 h3 h9
    refine hK v' w' (by rw [List.map_append]; exact h1) ⟨h2.os, h2.tape, h2.output, Nat.le_trans (by simp) h2.size, fun k hk hr => (h2.block k (by simp; omega) hr).trans (@heap_alloc_old w _ k hk)⟩ (fun q hq => h9.elim (fun e => .inl (e ▸ hq)) (fun e => .inr (by rw [e] at hq; cases hq; simp)))
theorem cv12 {w : World} {v : Value} {l : List UInt8} (h : Rd w v l) : (convert 115 9 v).run Tryz.prog w = .ok (.string (str l)) w :=
  conv_rd h 115 5 9 Tryz.underlying115 Tryz.underlying5 Tryz.underlying9
theorem below_trn0 {W0 w w3 W : World} {base B M q : Nat} {v : Value} {L : TxL} (g0 : Below W0.heap.size W0 w) (g3 : Below w.heap.size w w3) (t : T2.Trn (OwnQ B M v q) w3 W) (hb : W0.heap.size ≤ base) (tb : T2.TB w base B M v L) (hq : w.heap.size ≤ q) : Below W0.heap.size W0 W :=
  T2.below_trn (g0.trans (g3.mono g0.size)) t (fun k hk => hk.elim (fun h => Nat.le_trans hb (tb.own_ge k h)) (fun e => by have := g0.size; omega))
/-- What a list of pieces' bytes is, at a world behind which only a table has turned. -/
def ChX (w : World) (u : Value) (cs : List T2.Txt) : Prop := ∃ vs, w.ownsRow w.heap.size 115 1 u vs.length vs ∧ RowB w w.heap.size vs cs
structure Pcs (W : World) (u : Value) (cs : List T2.Txt) : Prop where
  get : ∀ j (hj : j < cs.length), ∃ b off cap uj, u = .slice (some ⟨b, off, none⟩) cs.length cap ∧ b < W.heap.size ∧ W.cell? ⟨b, off + j, none⟩ = some uj ∧ (∃ a n c, uj = .slice a n c) ∧ Rd W uj cs[j]
theorem pcs_of {w W : World} {base B M b0 q : Nat} {v u : Value} {L : TxL} {vs : List Value} {cs : List T2.Txt} (tb : T2.TB w base B M v L) (ho : w.ownsRow b0 115 1 u vs.length vs) (hr : RowB w b0 vs cs) (t : T2.Trn (OwnQ B M v q) w W) (hq : q < b0) : Pcs W u cs := by
  have hlen := hr.1
  refine ⟨fun j hj => ?_⟩
  have ho2 := T2.own_trn ho t (fun k hk hn => hn.elim (ne_tb tb ho (by decide) (by decide) k hk) (fun e => by have := (T2.own_lt ho k hk).1; omega))
  obtain ⟨b, off, cap, e, hb, hc⟩ := rdv_cell (own_rdv ho2) j (by omega)
  obtain ⟨l, hl, hrow⟩ := hr.2 j vs[j] (List.getElem?_eq_getElem (by omega))
  rw [List.getElem?_eq_getElem hj] at hl
  obtain rfl := Option.some.inj hl
  have h2 := T2.own_trn hrow t (fun k hk hn => hn.elim (ne_tb tb hrow (by decide) (by decide) k hk) (fun e => by have := (T2.own_lt hrow k hk).1; omega))
  have hrd := T2.rd_of_own h2
  obtain ⟨a, c, hv⟩ := own_slice_n hrow
  exact ⟨b, off, cap, vs[j], by rw [e, hlen], hb, hc, ⟨_, _, _, hv⟩, hrd⟩
set_option maxRecDepth 100000 in
set_option maxHeartbeats 2000000 in
theorem leaf12_yes (W0 : World) (base B M : Nat) (v : Value) (L : TxL) (ao : Option Addr) (cap : Nat) (l : List It) (ver : Int) (w : World) (tab : TabAt W0) (t2 : T2.Tab W0) (g0 : Below W0.heap.size W0 w) (hb0 : W0.heap.size ≤ base) (tb : T2.TB w base B M v L) (hbw : base ≤ w.heap.size)
    (h : RdI w (.slice ao l.length cap) l) (hl : isL l = true) (hsz : SzI l) (hwf : WfI l) (hv : 0 ≤ ver ∧ ver ≤ 2147483647) (hL : L.length ≤ 900) :
    Calls Tryz.prog 10 #[.pointer (some ⟨B, 0, none⟩), .slice ao l.length cap, .int .i64 ver] w (T2.OfP w base B M v ((leafT L l ver).2 : Int) (leafT L l ver).1) := by
  have CK0 := check_any (.slice ao l.length cap) l w (tab.below g0) h hsz
  have hck : (chkL l).1 = 0 := by unfold isL at hl; simpa using hl
  rw [hck] at CK0
  obtain ⟨ck2, hck2⟩ : ∃ n, n = (chkL l).2 := ⟨_, rfl⟩
  rw [← hck2] at CK0
  have CH := Lib.hid (fun W (g : Below w.heap.size w W) => chunks_yes ao cap l W (tab.below (g0.trans (g.mono g0.size))) (h.below g (Nat.le_refl _)) hl hsz hwf)
  obtain ⟨cs, hcs⟩ : ∃ cs, cs = chunksL l := ⟨_, rfl⟩
  have hc8 : cs.length ≤ 8 := by rw [hcs]; exact chunks_len (isL_len hl)
  have hcz : ∀ c ∈ cs, c.length ≤ 1100 := by rw [hcs]; exact chunk_size hl
  obtain ⟨Z, hZ⟩ : ∃ Z, Z = T2.OfP w base B M v ((leafT L l ver).2 : Int) (leafT L l ver).1 := ⟨_, rfl⟩
  rw [← hZ]
  have HZ := Lib.hid (show Z = T2.OfP w base B M v ((tmK (termsL L [ver] cs)).2 : Int) (tmK (termsL L [ver] cs)).1 by rw [hZ, hcs]; rfl)
  unfold ChR at CH
  rw [← hcs] at CH
  have CK := Lib.hid CK0
  have TB0 := Lib.hid tb
  have G0 := Lib.hid g0
  have T20 := Lib.hid t2
  have HCZ := Lib.hid hcz
  have t1 : decide (ver < 0) = false := decide_eq_false (by omega)
  have t3 : decide (2147483647 < ver) = false := decide_eq_false (by omega)
  have HV := Lib.hid hv
  have HBW := Lib.hid hbw
  have HB0 := Lib.hid hb0
  have HL9 := Lib.hid hL
  clear CK0 hZ hcs hck hck2 tb g0 tab h hl hsz hwf t2 hcz hv
  go_enter Tryz.func10, Tryz.ntmps10
  go_wp2_with fail
  refine CK.out.mono ?_
  rintro e w1 ⟨rfl, g1⟩
  have q10 := heap_alloc_new w1 (.cells #[.int .i64 ver] 3)
  have gA := (Below.refl w1.heap.size w1).alloc (Nat.le_refl _) (.cells #[.int .i64 ver] 3)
  have g2 := chain g1 gA
  go_wp2_with fail
  refine (CH.out _ g2).mono ?_
  rintro e w3 ⟨u, vs, rfl, ownU, rowB, g3⟩
  have q10 := (g3.block _ (lt_of_block q10)).trans q10
  have G3 := Lib.hid (chain g2 g3)
  have hlen : vs.length = cs.length := rowB.1
  obtain ⟨au, cu, rfl⟩ := own_slice_n ownU
  have OU := Lib.hid ownU
  have RB := Lib.hid rowB
  have TB3 := Lib.hid (TB0.out.below G3.out)
  have LB := Lib.hid (show w.heap.size ≤ w1.heap.size from g1.size)
  have own := own_one q10 (base := w1.heap.size) (Nat.le_refl _)
  have hl1 : w1.heap.size < w3.heap.size := lt_of_block q10
  have L13 := Lib.hid (Nat.le_of_lt hl1)
  have L01 := LB
  have LQ := Lib.hid (show w1.heap.size < (w1.alloc (.cells #[.int .i64 ver] 3)).heap.size by simp)
  rw [hlen]
  clear g1 gA g2 g3 ownU rowB q10 hlen hl1 CK CH
  go_wp2_with fail
  go_loopw [10, 35] (fun lst i wr => ∃ (j : Nat) (v' : Value) (nums : List Int) (Lj : TxL), j ≤ cs.length ∧ i = .int .i64 (j : Int) ∧ Hid (termsL L [ver] (cs.take j) = (Lj, nums)) ∧ Hid (nums.length = j + 1) ∧ Lj.length ≤ L.length + j ∧ Hid (smallN nums) ∧ Hid (T2.TB wr base B M v' Lj) ∧ Hid (T2.Trn (OwnQ B M v w1.heap.size) w3 wr) ∧ Hid (∀ k, v'.ownBlock = some k → v.ownBlock = some k ∨ w3.heap.size ≤ k) ∧ wr.ownsRow w1.heap.size 3 1 lst (j + 1) (nums.map T2.iv) ∧ Hid (∀ k, lst.ownBlock = some k → k = w1.heap.size ∨ w3.heap.size ≤ k)) (fun _ i _ => 20 - (intOf i).toNat)
  case atStart => exact ⟨0, v, [ver], L, Nat.zero_le _, rfl, Lib.hid (by rw [List.take_zero]; rfl), Lib.hid rfl, Nat.le_refl _, Lib.hid (fun x hx => by rw [List.mem_singleton.1 hx]; have := HV.out; unfold T2.fitsI; omega), TB3, Lib.hid (T2.Trn.refl _ _), Lib.hid (fun k hk => .inl hk), own, Lib.hid (fun k hk => .inl (by simp [Value.ownBlock] at hk; exact hk.symm))⟩
  case round =>
    obtain ⟨j, v', nums, Lj, hj, rfl, HT, hnl, hLl, HSM, HTB, HTR, HVV, own, HLB⟩ := hrel
    by_cases hlt : j < cs.length
    · obtain ⟨b, off, cp, uj, eu, hb, hc, ⟨aj, nj, cj, rfl⟩, hrd⟩ := (pcs_of TB3.out OU.out RB.out HTR.out LQ.out).get j hlt
      injection eu with e1 e2 e3
      subst e1
      obtain ⟨c, hcE⟩ : ∃ c, c = cs[j]'hlt := ⟨_, rfl⟩
      rw [← hcE] at hrd
      have cvf := cv12 hrd
      have hcl : c.length ≤ 1100 := by rw [hcE]; exact HCZ.out _ (List.getElem_mem _)
      have OF0 := T2.of_any base B M v' Lj c (by unfold maxLen; omega) (by omega) wr HTB.out (by have := HTR.out.size; have := G3.out.size; have := HBW.out; omega)
      have HN := terms_take (L := L) (xs := [ver]) hlt
      rw [HT.out, ← hcE] at HN
      have hl2 : (T2.ofL Lj c).length ≤ Lj.length + 1 := T2.ofL_len Lj c
      have hn3 : T2.numN (T2.ofL Lj c) c ≤ (T2.ofL Lj c).length := num_le _ _
      unfold termsF at HN
      simp only at HN
      generalize hn2 : T2.numN (T2.ofL Lj c) c = n2 at HN OF0 hn3
      generalize hL2 : T2.ofL Lj c = L2 at HN OF0 hl2 hn3 hn2
      have HNX := Lib.hid HN
      have HSM2 := Lib.hid (smallN_snoc (n := n2) HSM.out (by omega))
      unfold T2.sv at OF0
      have OF := Lib.hid OF0
      clear HN OF0 hL2 hn2 hrd hcE hcl e2 e3
      go_wp2_with fail
      refine OF.out.mono ?_
      rintro e w5 ⟨rfl, v2, tb2, tr2, hv2⟩
      have own5 := T2.own_trn own tr2 (ne_tb HTB.out own (by decide) (by decide))
      have TR5 := Lib.hid (trnq_comp HTR.out HVV.out tr2)
      have HV5 := Lib.hid (hv_comp HVV.out HTR.out.size hv2)
      have TB5 := Lib.hid tb2
      have LW5 := Lib.hid (show w1.heap.size ≤ w5.heap.size by have := L13.out; have := TR5.out.size; omega)
      obtain ⟨al, cl, rfl⟩ := own_slice_n own5
      clear tr2 hv2 tb2 own OF hc
      go_wp2_with (at_builtin; refine wpList_app_int rfl (.tmp 49) (.tmp 51) rfl w1.heap.size _ (j + 1) nums rfl hnl.out.symm own5 _ (n2 : Int) rfl (by have := hnl.out; omega) LW5.out ?_; intro v6 w6 own6 g6 hq6)
      exact ⟨⟨j + 1, v2, nums ++ [(n2 : Int)], L2, by omega, by push_cast; rfl, HNX, Lib.hid (by rw [List.length_append, hnl.out]; rfl), by omega, HSM2, Lib.hid (tb_grown TB5.out own5 (by decide) (by decide) g6), Lib.hid (trnq_grown TR5.out g6 HLB.out), HV5, own6, Lib.hid (fun k hk => (hq6 k hk).elim (HLB.out k) (fun e => .inr (Nat.le_trans TR5.out.size e)))⟩, by simp [intOf]; omega⟩
    · obtain rfl : j = cs.length := by omega
      have hLc := HL9.out
      have ownR := own
      rw [show cs.length + 1 = (nums.map T2.iv).length by rw [List.length_map, hnl.out]] at ownR
      have LI0 := T2.list_any base B M v' Lj _ nums (by have := hnl.out; omega) HSM.out (by omega) wr HTB.out (by have := HTR.out.size; have := G3.out.size; have := HBW.out; omega) (own_rdv ownR) (T20.out.below (below_trn0 G0.out G3.out HTR.out HB0.out TB0.out L01.out))
      have HE : tmK (termsL L [ver] cs) = tmK (Lj, nums) := by have := HT.out; rw [List.take_length] at this; rw [this]
      have HEX := Lib.hid HE
      have HE2 := show tmK (Lj, nums) = (T2.ofL Lj (T2.digN nums), T2.numN (T2.ofL Lj (T2.digN nums)) (T2.digN nums)) from rfl
      generalize hn2 : T2.numN (T2.ofL Lj (T2.digN nums)) (T2.digN nums) = n2 at HE2 LI0
      generalize hL2 : T2.ofL Lj (T2.digN nums) = L2 at HE2 LI0 hn2
      have HE2 := Lib.hid HE2
      have LI := Lib.hid LI0
      obtain ⟨al, cl, rfl⟩ := own_slice_n own
      clear HE LI0 hL2 hn2 hLc own ownR HT HSM
      go_wp2_with fail
      refine LI.out.mono ?_
      rintro e w8 ⟨rfl, v8, tb8, tr8, hv8⟩
      have TR8 := Lib.hid (trnq_back G3.out (trnq_comp HTR.out HVV.out tr8) L01.out)
      have HV8 := Lib.hid (hv_comp HVV.out HTR.out.size hv8)
      have TB8 := Lib.hid tb8
      clear tr8 hv8 tb8 LI
      go_wp2_with fail
      show Z _ _
      rw [HZ.out, HEX.out, HE2.out]
      exact ⟨rfl, v8, TB8.out, TR8.out, fun k hk => (HV8.out k hk).elim .inl (fun e => .inr (Nat.le_trans G3.out.size e))⟩
end Go.Proofs.YtoagdmglchccnaaGreatDoor
