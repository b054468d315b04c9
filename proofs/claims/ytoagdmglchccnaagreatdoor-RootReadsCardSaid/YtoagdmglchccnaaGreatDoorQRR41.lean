/- Roots: the term of a leaf, by the document. -/
/- Roots: the root of a trunk. -/
/- Roots: back from a root. -/
import Derived.Test.YtoagdmglchccnaaGreatDoorQRR37
import Derived.Test.YtoagdmglchccnaaGreatDoorQRR35
import Derived.Test.YtoagdmglchccnaaGreatDoorQRR40
import Derived.Test.YtoagdmglchccnaaGreatDoorQRR30
import Derived.Test.YtoagdmglchccnaaGreatDoorQRR34
namespace Go.Proofs.YtoagdmglchccnaaGreatDoor
open Go Go.RowKit
set_option linter.unusedVariables false
set_option linter.unusedSimpArgs false
/-- A list's own block, and one more. -/
def RowQ (v : Value) (q k : Nat) : Prop := v.ownBlock = some k ∨ k = q
theorem flat_sC (cs : List T2.Txt) : cs.flatMap sC = cs.map T2.sv := by
  induction cs with
  | nil => rfl
  | cons c cs ih => rw [List.flatMap_cons, ih]; rfl
end Go.Proofs.YtoagdmglchccnaaGreatDoor
namespace Go.Proofs.YtoagdmglchccnaaGreatDoor
open Go Go.RowKit
set_option linter.unusedVariables false
set_option linter.unusedSimpArgs false
def OfT (w : World) (base B M : Nat) (v : Value) (L : TxL) (lv : Nat → List It) (vs : Nat → Int) (e : Ending) (w' : World) : Prop :=
  ∃ ls v', e = .returned (.tuple #[.int .i64 ((rootT L lv vs).2 : Int), ls, .int .i64 0]) ∧ w'.ownsRow w.heap.size 3 1 ls 16 ((leavesT L lv vs 16).2.map T2.iv) ∧ T2.TB w' base B M v' (rootT L lv vs).1 ∧ T2.Trn (T2.ownR B M v) w w' ∧ ∀ k, v'.ownBlock = some k → v.ownBlock = some k ∨ w.heap.size ≤ k
theorem trn_grown_own {own : Nat → Prop} {w w1 w2 : World} {e : TypeId} {k n : Nat} {u : Value} {xs : List Value} (h : T2.Trn own w w1) (g : w1.grownBy w2 u.ownBlock) (ho : w1.ownsRow w.heap.size e k u n xs) : T2.Trn own w w2 :=
  ⟨g.os.trans h.os, g.tape.trans h.tape, g.output.trans h.output, Nat.le_trans h.size g.size, fun k hk hn => (g.block k (Nat.lt_of_lt_of_le hk h.size) (fun e => by have := (T2.own_lt ho k e.symm).1; omega)).trans (h.block k hk hn)⟩
theorem trn_below {own : Nat → Prop} {w w3 w8 : World} (h : Below w.heap.size w w3) (t : T2.Trn own w3 w8) : T2.Trn own w w8 :=
  ⟨t.os.trans h.os, t.tape.trans h.tape, t.output.trans h.output, Nat.le_trans h.size t.size, fun k hk hn => (t.block k (Nat.lt_of_lt_of_le hk h.size) hn).trans (h.block k hk)⟩
set_option maxRecDepth 100000 in
set_option maxHeartbeats 2000000 in
theorem of12_yes (W0 : World) (base B M : Nat) (v : Value) (L : TxL) (cs : Array Value) (lv : Nat → List It) (vs : Nat → Int) (w : World) (tab : TabAt W0) (t2 : T2.Tab W0) (g0 : Below W0.heap.size W0 w) (hb0 : W0.heap.size ≤ base) (tb : T2.TB w base B M v L) (hbw : base ≤ w.heap.size)
    (h : RdT W0 cs lv vs) (hsz : SzT lv) (hwf : WfT lv) (hm : mayTs lv vs 16 = true) (hL : L.length ≤ 700) :
    Calls Tryz.prog 13 #[.pointer (some ⟨B, 0, none⟩), .agg cs] w (OfT w base B M v L lv vs) := by
  have hs := infoTc h.size
  have hs16 := info16 h.size
  have q3 := heap_alloc_new w (.cells cs 27)
  have bel := (Below.refl w.heap.size w).alloc (Nat.le_refl _) (.cells cs 27)
  have MY0 := tmay_any cs lv vs _ (tab.below (chain g0 bel)) (h.below (chain g0 bel) (Nat.le_refl _)) hsz
  rw [hm] at MY0
  have MY := Lib.hid MY0
  have LF := Lib.hid (fun (v' : Value) (Lj : TxL) (b : Nat) (hb : b < 16) (ao : Option Addr) (cap : Nat) W (g : Below W0.heap.size W0 W) (tb' : T2.TB W base B M v' Lj) (hbw' : base ≤ W.heap.size) (hr : RdI W (.slice ao (lv b).length cap) (lv b)) (hl : Lj.length ≤ 900) =>
    leaf12_yes W0 base B M v' Lj ao cap (lv b) (vs b) W tab t2 g hb0 tb' hbw' hr (isT hm hb) (hsz b hb) (hwf b hb) (verB_iff.1 (mayT_ver (mayTs_at hm hb))) hl)
  have H64 := Lib.hid (fun b (hb : b < 16) => isL_len (isT hm hb))
  obtain ⟨Z, hZ⟩ : ∃ Z, Z = OfT w base B M v L lv vs := ⟨_, rfl⟩
  rw [← hZ]
  have HZ := Lib.hid hZ
  have HT := Lib.hid h
  have TB0 := Lib.hid tb
  have G0 := Lib.hid g0
  have T20 := Lib.hid t2
  have HBW := Lib.hid hbw
  have HB0 := Lib.hid hb0
  have HL9 := Lib.hid hL
  clear MY0 hZ h tb g0 t2 hbw hb0 hL hm hsz hwf tab
  go_enter Tryz.func13, Tryz.ntmps13
  go_wp2_with ((with_reducible refine wpList_load_row (o := ⟨some 14, _, _, _, _, _⟩) rfl 27 (.tmp 3) rfl _ rfl _ cs (0, 0) _ q3 Tryz.underlying27 rfl hs ?_))
  refine MY.out.mono ?_
  rintro e w1 ⟨rfl, g⟩
  replace q3 := (g.block _ (lt_of_block q3)).trans q3
  replace bel := chain bel g
  have hrg := arr16_range q3
  clear g
  go_wp2_with ((with_reducible refine wpList_load_mid (op := ⟨some 18, _, _, _, _, _⟩) rfl 24 (.tmp 17) rfl _ 0 rfl (arr16 cs) _ hrg Tryz.underlying24 rfl hs16 ?_))
  obtain ⟨A, hA⟩ : ∃ A, A = (arr16 cs).toArray := ⟨_, rfl⟩
  rw [← hA]
  have HA := Lib.hid hA
  have Q3 := Lib.hid q3
  have G1 := Lib.hid bel
  have TB1 := Lib.hid (TB0.out.below bel)
  have LQ := Lib.hid (lt_of_block q3)
  clear hA hrg hs16 q3 bel
  go_loopw [7, 19] (fun lst i wr => ∃ (j : Nat) (v' : Value) (nums : List Int) (Lj : TxL), j ≤ 16 ∧ i = .int .i64 (j : Int) ∧ Hid (leavesT L lv vs j = (Lj, nums)) ∧ Hid (nums.length = j) ∧ Lj.length ≤ L.length + 9 * j ∧ Hid (T2.TB wr base B M v' Lj) ∧ Hid (T2.Trn (T2.ownR B M v) w1 wr) ∧ Hid (∀ k, v'.ownBlock = some k → v.ownBlock = some k ∨ w1.heap.size ≤ k) ∧ wr.ownsRow w1.heap.size 3 1 lst j (nums.map T2.iv)) (fun _ i _ => 20 - (intOf i).toNat)
  case atStart => exact ⟨0, v, [], L, by omega, rfl, Lib.hid rfl, Lib.hid rfl, Nat.le_refl _, TB1, Lib.hid (T2.Trn.refl _ _), Lib.hid (fun k hk => .inl hk), World.ownsRow_nil _ _ _ _⟩
  case round =>
    obtain ⟨j, v', nums, Lj, hj, rfl, HT2, hnl, hLl, HTB, HTR, HVV, own⟩ := hrel
    have hlw := HTR.out.size
    by_cases hlt : j < 16
    · have hlti : (j : Int) < 16 := by omega
      obtain ⟨u, hu, hru⟩ := HT.out.leaf j hlt
      have hX := fun W => ix16 A j u hlt (by rw [HA.out, arr16_at hlt]; exact hu) W
      obtain ⟨ul, cpl, rfl⟩ : ∃ a c, u = .slice a (lv j).length c := by
        obtain ⟨a, c, e, -⟩ := RdK.open hru
        exact ⟨a, c, e⟩
      have hg : Below W0.heap.size W0 wr := T2.below_trn (G0.out.trans (G1.out.mono G0.out.size)) HTR.out (fun k hk => Nat.le_trans HB0.out (TB0.out.own_ge k hk))
      have q9 := (HTR.out.block w.heap.size LQ.out (fun ho => by
        rcases ho with e | e | e
        · have := lt_of_block TB0.out.blk; omega
        · obtain ⟨es, clock, h4, -⟩ := TB0.out.map; have := lt_of_block h4; omega
        · have := (T2.own_lt TB0.out.row _ e).2; omega)).trans Q3.out
      have cv := (block_cell q9 (16 + j)).trans (HT.out.ver j hlt)
      have cv2 := cv
      rw [Nat.add_comm 16 j] at cv2
      have LF0 := LF.out v' Lj j hlt ul cpl wr hg HTB.out (by have := HBW.out; have := G1.out.size; omega) (hru.below hg (Nat.le_refl _)) (by have := HL9.out; omega)
      have HN : leavesT L lv vs (j + 1) = ((leafT Lj (lv j) (vs j)).1, nums ++ [((leafT Lj (lv j) (vs j)).2 : Int)]) := by
        show ((leafT (leavesT L lv vs j).1 (lv j) (vs j)).1, (leavesT L lv vs j).2 ++ [((leafT (leavesT L lv vs j).1 (lv j) (vs j)).2 : Int)]) = _
        rw [HT2.out]
      have hll := leafT_len (L := Lj) (ver := vs j) (H64.out j hlt)
      generalize hL2 : (leafT Lj (lv j) (vs j)).1 = L2 at LF0 HN hll
      generalize hn2 : (leafT Lj (lv j) (vs j)).2 = n2 at LF0 HN hll
      have HNX := Lib.hid HN
      have LFX := Lib.hid LF0
      obtain ⟨vj, hvj⟩ : ∃ x, x = vs j := ⟨_, rfl⟩
      rw [← hvj] at cv cv2 LFX
      clear HN LF0 hL2 hn2 hu hru hg q9 hvj
      go_wp2_with fail
      refine LFX.out.mono ?_
      rintro e w5 ⟨rfl, v2, tb2, tr2, hv2⟩
      have own5 := T2.own_trn own tr2 (ne_tb HTB.out own (by decide) (by decide))
      have TR5 := Lib.hid (trn_comp HTR.out HVV.out tr2)
      have HV5 := Lib.hid (hv_comp HVV.out HTR.out.size hv2)
      have TB5 := Lib.hid tb2
      have LW5 := Lib.hid (show w1.heap.size ≤ w5.heap.size from TR5.out.size)
      obtain ⟨al, cl, rfl⟩ := own_slice_n own5
      clear tr2 hv2 tb2 own LFX cv cv2
      go_wp2_with (at_builtin; refine wpList_app_int rfl (.tmp 36) (.tmp 38) rfl w1.heap.size _ j nums rfl hnl.out.symm own5 _ (n2 : Int) rfl (by have := hnl.out; omega) LW5.out ?_; intro v6 w6 own6 g6 hq6)
      exact ⟨⟨j + 1, v2, nums ++ [(n2 : Int)], L2, by omega, by push_cast; rfl, HNX, Lib.hid (by rw [List.length_append, hnl.out]; rfl), by omega, Lib.hid (tb_grown TB5.out own5 (by decide) (by decide) g6), Lib.hid (trn_grown_own TR5.out g6 own5), HV5, own6⟩, by simp [intOf]; omega⟩
    · obtain rfl : j = 16 := by omega
      have hLc := HL9.out
      have hsm := (leavesT_len (L := L) (lv := lv) (vs := vs) 16 (fun b hb => H64.out b hb)).2.2 (by omega) (by omega)
      rw [HT2.out] at hsm
      have LI0 := T2.list_any base B M v' Lj _ nums (by have := hnl.out; omega) hsm (by omega) wr HTB.out (by have := HBW.out; have := G1.out.size; omega) (own_rdv own) (T20.out.below (T2.below_trn (G0.out.trans (G1.out.mono G0.out.size)) HTR.out (fun k hk => Nat.le_trans HB0.out (TB0.out.own_ge k hk))))
      have HE2 := show rootT L lv vs = (T2.ofL Lj (T2.digN nums), T2.numN (T2.ofL Lj (T2.digN nums)) (T2.digN nums)) by unfold rootT; rw [HT2.out]; rfl
      generalize hn2 : T2.numN (T2.ofL Lj (T2.digN nums)) (T2.digN nums) = n2 at HE2 LI0
      generalize hL2 : T2.ofL Lj (T2.digN nums) = L2 at HE2 LI0 hn2
      have HE2 := Lib.hid HE2
      have LI := Lib.hid LI0
      have HN16 := Lib.hid (show (leavesT L lv vs 16).2 = nums by rw [HT2.out])
      have hl16 := hnl
      obtain ⟨al, cl, rfl⟩ := own_slice_n own
      clear LI0 hL2 hn2 hLc hsm HT2
      go_wp2_with fail
      refine LI.out.mono ?_
      rintro e w8 ⟨rfl, v8, tb8, tr8, hv8⟩
      have own8 := T2.own_trn own tr8 (ne_tb HTB.out own (by decide) (by decide))
      have TR8 := Lib.hid (trn_below G1.out (trn_comp HTR.out HVV.out tr8))
      have HV8 := Lib.hid (hv_comp HVV.out HTR.out.size hv8)
      have TB8 := Lib.hid tb8
      have OWN8 := Lib.hid own8
      clear tr8 hv8 tb8 LI own own8
      go_wp2_with fail
      show Z _ _
      rw [HZ.out]
      unfold OfT
      rw [HE2.out, HN16.out]
      have o8 := OWN8.out
      exact ⟨_, v8, rfl, own_base o8 G1.out.size, TB8.out, TR8.out, fun k hk => (HV8.out k hk).elim .inl (fun e => .inr (Nat.le_trans G1.out.size e))⟩
end Go.Proofs.YtoagdmglchccnaaGreatDoor
namespace Go.Proofs.YtoagdmglchccnaaGreatDoor
open Go Go.RowKit
set_option linter.unusedVariables false
set_option linter.unusedSimpArgs false
theorem chunksO_len {L : TxL} (hL : ∀ s ∈ L, s.length ≤ 4000) (n : Int) : (chunksO L n).2.1.length ≤ 4000 ∧ ∀ c ∈ (chunksO L n).2.1, c.length ≤ 4000 := by
  unfold chunksO
  cases h1 : textO L n with
  | none => exact ⟨by simp, fun c hc => by cases hc⟩
  | some s =>
    simp only
    by_cases hx : ∃ xs, IsDig s xs
    · obtain ⟨xs, hx⟩ := hx
      rw [splO_some hx]
      simp only
      cases xs with
      | nil => exact ⟨by simp [leafO], fun c hc => by cases hc⟩
      | cons x ys =>
        by_cases h2 : 0 ≤ x ∧ x ≤ 2147483647 ∧ pos12 ys = true
        · cases h3 : textsO L ys with
          | none => rw [leafO_none h2 h3]; exact ⟨by simp, fun c hc => by cases hc⟩
          | some cs =>
            rw [leafO_some h2 h3]
            obtain ⟨e1, e2⟩ := textsO_len h3
            have hs : s ∈ L := by
              unfold textO at h1
              split at h1
              · exact List.mem_of_getElem? h1
              · cases h1
            have a1 := digN_ge (x :: ys)
            rw [← hx.1, List.length_cons] at a1
            have a2 := hL s hs
            refine ⟨by show cs.length ≤ 4000; omega, fun c hc => hL c ((e2 c hc).elim id id)⟩
        · rw [leafO_no h2]; exact ⟨by simp, fun c hc => by cases hc⟩
    · rw [splO_none (fun xs h => hx ⟨xs, h⟩)]; exact ⟨by simp, fun c hc => by cases hc⟩
theorem ofL_is {vf : Nat → Int} {ls : List (List UInt8)} (h : (ofL vf ls).2.1 = 0) : SzI (ofL vf ls).1 := by
  unfold ofL at h ⊢
  generalize ofGo vf ls 0 [] (-1) = q at h ⊢
  obtain ⟨all, odd, e, i⟩ := q
  simp only [ofE] at h ⊢
  by_cases h1 : e = 0
  · rw [if_neg (by simp [h1])] at h ⊢
    by_cases h2 : 0 ≤ odd ∧ odd + 1 < (ls.length : Int)
    · rw [if_pos h2] at h; simp at h
    · rw [if_neg h2] at h ⊢
      by_cases h3 : (chkL all).1 = 0
      · rw [if_neg (by simp [h3])]
        intro x hx
        have := may_sz (isL_may (show isL all = true by unfold isL; simp [h3]) x hx)
        unfold maxLen
        exact ⟨by omega, by omega⟩
      · rw [if_pos h3] at h; exact absurd h h3
  · rw [if_pos h1] at h; exact absurd h h1
/-- What a leaf's number is read as: the items, the version, the error's number. -/
noncomputable def bktO (L : TxL) (y : Int) : List It × Int × Int :=
  if (chunksO L y).2.2 ≠ 0 then ([], 0, (chunksO L y).2.2) else if (ofL vfP (chunksO L y).2.1).2.1 ≠ 0 then ([], 0, 3) else ((ofL vfP (chunksO L y).2.1).1, (chunksO L y).1, 0)
theorem bktO_err {L : TxL} {y : Int} (h : (chunksO L y).2.2 ≠ 0) : bktO L y = ([], 0, (chunksO L y).2.2) := by unfold bktO; rw [if_pos h]
theorem bktO_bad {L : TxL} {y : Int} (h : (chunksO L y).2.2 = 0) (h2 : (ofL vfP (chunksO L y).2.1).2.1 ≠ 0) : bktO L y = ([], 0, 3) := by unfold bktO; rw [if_neg (by simp [h]), if_pos h2]
theorem bktO_ok {L : TxL} {y : Int} (h : (chunksO L y).2.2 = 0) (h2 : (ofL vfP (chunksO L y).2.1).2.1 = 0) : bktO L y = ((ofL vfP (chunksO L y).2.1).1, (chunksO L y).1, 0) := by unfold bktO; rw [if_neg (by simp [h]), if_neg (by simp [h2])]
noncomputable def lvO (L : TxL) (xs : List Int) (b : Nat) : List It := (bktO L (xs.getD b 0)).1
noncomputable def vsO (L : TxL) (xs : List Int) (b : Nat) : Int := (bktO L (xs.getD b 0)).2.1
noncomputable def ceO (L : TxL) (xs : List Int) (b : Nat) : Int := (bktO L (xs.getD b 0)).2.2
theorem lvO_sz (L : TxL) (xs : List Int) : SzT (lvO L xs) := by
  intro b hb
  unfold lvO bktO
  split
  · intro x hx; cases hx
  · split
    · intro x hx; cases hx
    · rename_i h; exact ofL_is (by simpa using h)
def nilT : Nat → List It := fun _ => []
def nilV : Nat → Int := fun _ => 0
inductive BackR (L : TxL) (n : Int) : (Nat → List It) → (Nat → Int) → Int → Prop
  | root (h : (leavesO L n).2 ≠ 0) : BackR L n nilT nilV (leavesO L n).2
  | leaf (b : Nat) (hb : b < 16) (h : (leavesO L n).2 = 0) (hp : ∀ k, k < b → ceO L (leavesO L n).1 k = 0) (hc : ceO L (leavesO L n).1 b ≠ 0) : BackR L n nilT nilV (ceO L (leavesO L n).1 b)
  | not (h : (leavesO L n).2 = 0) (hp : ∀ k, k < 16 → ceO L (leavesO L n).1 k = 0) (hm : mayTs (lvO L (leavesO L n).1) (vsO L (leavesO L n).1) 16 = false) : BackR L n nilT nilV 1
  | ok (h : (leavesO L n).2 = 0) (hp : ∀ k, k < 16 → ceO L (leavesO L n).1 k = 0) (hm : mayTs (lvO L (leavesO L n).1) (vsO L (leavesO L n).1) 16 = true) : BackR L n (lvO L (leavesO L n).1) (vsO L (leavesO L n).1) 0
theorem backR_one {L : TxL} {n : Int} {lv lv' : Nat → List It} {vs vs' : Nat → Int} {c c' : Int} (h : BackR L n lv vs c) (h' : BackR L n lv' vs' c') : c = c' ∧ lv = lv' ∧ vs = vs' := by
  cases h with
  | root h =>
    cases h' with
    | root _ => exact ⟨rfl, rfl, rfl⟩
    | leaf _ _ e => exact absurd e h
    | not e => exact absurd e h
    | ok e => exact absurd e h
  | leaf b hb h hp hc =>
    cases h' with
    | root e => exact absurd h e
    | leaf b2 hb2 _ hp2 hc2 =>
      have : b = b2 := by
        rcases Nat.lt_trichotomy b b2 with e | e | e
        · exact absurd (hp2 b e) hc
        · exact e
        · exact absurd (hp b2 e) hc2
      subst this
      exact ⟨rfl, rfl, rfl⟩
    | not _ e => exact absurd (e b hb) hc
    | ok _ e => exact absurd (e b hb) hc
  | not h hp hm =>
    cases h' with
    | root e => exact absurd h e
    | leaf b hb _ _ hc => exact absurd (hp b hb) hc
    | not => exact ⟨rfl, rfl, rfl⟩
    | ok _ _ e => rw [hm] at e; cases e
  | ok h hp hm =>
    cases h' with
    | root e => exact absurd h e
    | leaf b hb _ _ hc => exact absurd (hp b hb) hc
    | not _ _ e => rw [hm] at e; cases e
    | ok => exact ⟨rfl, rfl, rfl⟩
def BackP (w : World) (L : TxL) (n : Int) (e : Ending) (w' : World) : Prop := ∃ cs c lv vs, e = .returned (.tuple #[.agg cs, .int .i64 c]) ∧ OwnT w.heap.size w' cs lv vs ∧ SzT lv ∧ Below w.heap.size w w' ∧ BackR L n lv vs c
theorem ownT_zero (b0 : Nat) (w : World) : OwnT b0 w zT nilT nilV := by
  refine ⟨rfl, fun b hb => ⟨.slice none 0 0, ?_, World.ownsRow_nil _ _ _ _⟩, (rdt_zero w).ver⟩
  have : b = 0 ∨ b = 1 ∨ b = 2 ∨ b = 3 ∨ b = 4 ∨ b = 5 ∨ b = 6 ∨ b = 7 ∨ b = 8 ∨ b = 9 ∨ b = 10 ∨ b = 11 ∨ b = 12 ∨ b = 13 ∨ b = 14 ∨ b = 15 := by omega
  rcases this with rfl | rfl | rfl | rfl | rfl | rfl | rfl | rfl | rfl | rfl | rfl | rfl | rfl | rfl | rfl | rfl <;> rfl
theorem backP_no {w w' : World} {L : TxL} {n c : Int} (g : Below w.heap.size w w') (h : BackR L n nilT nilV c) : BackP w L n (.returned (.tuple #[.agg zT, .int .i64 c])) w' := ⟨zT, c, nilT, nilV, rfl, ownT_zero _ _, (fun b hb x hx => by cases hx), g, h⟩
/-- The first j leaves are laid. -/
structure BkI (base : Nat) (lv : Nat → List It) (vs : Nat → Int) (j : Nat) (w : World) (csr : Array Value) : Prop where
  size : csr.size = 32
  done : ∀ b, b < j → ∃ u, csr[b]? = some u ∧ w.ownsRow base 154 5 u (lv b).length ((lv b).flatMap itC)
  ver : ∀ b, b < j → csr[16 + b]? = some (.int .i64 (vs b))
theorem BkI.step {base : Nat} {lv : Nat → List It} {vs : Nat → Int} {j : Nat} {w w' : World} {csr : Array Value} (h : BkI base lv vs j w csr) (hj : j < 16) (hh : ∀ g, base ≤ g → g < w.heap.size → w'.heap[g]? = w.heap[g]?) {v : Value}
    (ho : w'.ownsRow base 154 5 v (lv j).length ((lv j).flatMap itC)) {x : Int} (hx : x = vs j) : BkI base lv vs (j + 1) w' ((csr.setIfInBounds j v).setIfInBounds (16 + j) (.int .i64 x)) := by
  have hs := h.size
  subst hx
  refine ⟨by simp [hs], fun b hb => ?_, fun b hb => ?_⟩
  · rw [Array.getElem?_setIfInBounds_ne (by omega)]
    by_cases e : b = j
    · subst e
      exact ⟨v, by rw [Array.getElem?_setIfInBounds_self_of_lt (by omega)], ho⟩
    · obtain ⟨u, h1, h2⟩ := h.done b (by omega)
      exact ⟨u, by rw [Array.getElem?_setIfInBounds_ne (by omega)]; exact h1, own_moved2 h2 hh⟩
  · by_cases e : b = j
    · subst e
      rw [Array.getElem?_setIfInBounds_self_of_lt (by simp; omega)]
    · rw [Array.getElem?_setIfInBounds_ne (by omega), Array.getElem?_setIfInBounds_ne (by omega)]
      exact h.ver b (by omega)
end Go.Proofs.YtoagdmglchccnaaGreatDoor
