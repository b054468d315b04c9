/- Trunks: their mathematics. Which bucket a key has, what a change keeps. -/
/- Roots, mathematics: the terms of chunks, of leaves, of a trunk, in a table of texts. -/
/- Slices whose elements are slices; a cut of a slice, and an append, as single operations. -/
import Derived.Test.YtoagdmglchccnaaGreatDoorQRR32
import Derived.Test.YtoagdmglchccnaaGreatDoorQRR22
import Derived.Test.YtoagdmglchccnaaGreatDoorQRR11
import Derived.Test.YtoagdmglchccnaaGreatDoorQRR30
import Derived.Test.YtoagdmglchccnaaGreatDoorQRR13
import Derived.Test.YtoagdmglchccnaaGreatDoorQRR18
import Derived.Test.YtoagdmglchccnaaGreatDoorQRR28
import Derived.Test.YtoagdmglchccnaaGreatDoorQRR26
namespace Go.Proofs.YtoagdmglchccnaaGreatDoor
open Go Go.RowKit
set_option linter.unusedVariables false
set_option linter.unusedSimpArgs false
/-- A key's bucket. -/
def bkN (k : List UInt8) : Nat := (k.getD 0 0).toNat % 16
theorem bkN_lt (k : List UInt8) : bkN k < 16 := Nat.mod_lt _ (by decide)
theorem bk_is {k : List UInt8} (h : isB k = true) : bk k = ((bkN k : Nat) : Int) := by unfold bk; rw [if_pos h]; rfl
theorem mayTs_at {lv : Nat → List It} {vs : Nat → Int} {n : Nat} (h : mayTs lv vs n = true) {b : Nat} (hb : b < n) : mayT (b : Int) (lv b) (vs b) = true := by
  unfold mayTs at h; rw [List.all_eq_true] at h; exact h b (List.mem_range.2 hb)
theorem mayTs_mk {lv : Nat → List It} {vs : Nat → Int} {n : Nat} (h : ∀ b, b < n → mayT (b : Int) (lv b) (vs b) = true) : mayTs lv vs n = true := by
  unfold mayTs; rw [List.all_eq_true]; exact fun b hb => h b (List.mem_range.1 hb)
theorem mayT_is {b v : Int} {l : List It} (h : mayT b l v = true) : isL l = true := by
  unfold mayT at h; simp only [Bool.and_eq_true] at h; exact h.1.1
theorem mayT_ver {b v : Int} {l : List It} (h : mayT b l v = true) : verB v = true := by
  unfold mayT at h; simp only [Bool.and_eq_true] at h; exact h.1.2
theorem verB_iff {n : Int} : verB n = true ↔ (0 ≤ n ∧ n ≤ 2147483647) := by unfold verB; simp
theorem mayT_mem {b v : Int} {l : List It} (h : mayT b l v = true) {x : It} (hx : x ∈ l) : bk x.key = b ∧ x.ver ≤ v := by
  unfold mayT at h; simp only [Bool.and_eq_true, Bool.not_eq_true'] at h
  have h2 := h.2
  rw [List.any_eq_false] at h2
  have h3 := h2 x hx
  unfold badI at h3
  simp only [Bool.or_eq_true, bne_iff_ne, decide_eq_true_eq, not_or, Decidable.not_not, Int.not_lt] at h3
  exact ⟨h3.1, h3.2⟩
theorem mayT_mk {b v : Int} {l : List It} (h1 : isL l = true) (h2 : verB v = true) (h3 : ∀ x ∈ l, bk x.key = b ∧ x.ver ≤ v) : mayT b l v = true := by
  unfold mayT
  rw [h1, h2, Bool.true_and, Bool.true_and, Bool.not_eq_true', List.any_eq_false]
  intro x hx
  unfold badI
  simp only [Bool.or_eq_true, bne_iff_ne, decide_eq_true_eq, not_or, Decidable.not_not, Int.not_lt]
  exact h3 x hx
/-- A function with another value at one place. -/
def upd {α : Type} (f : Nat → α) (b : Nat) (x : α) : Nat → α := fun i => if i = b then x else f i
theorem upd_at {α : Type} (f : Nat → α) (b : Nat) (x : α) : upd f b x b = x := if_pos rfl
theorem upd_ne {α : Type} (f : Nat → α) {b i : Nat} (x : α) (h : i ≠ b) : upd f b x i = f i := if_neg h
theorem mayTs_upd {lv : Nat → List It} {vs : Nat → Int} {n b : Nat} {l : List It} {v : Int} (h : mayTs lv vs n = true) (hl : mayT (b : Int) l v = true) : mayTs (upd lv b l) (upd vs b v) n = true := by
  refine mayTs_mk fun i hi => ?_
  by_cases hb : i = b
  · subst hb; rw [upd_at, upd_at]; exact hl
  · rw [upd_ne _ _ hb, upd_ne _ _ hb]; exact mayTs_at h hi
theorem put_mayT {b v : Int} {l : List It} {x : It} (h : mayT b l v = true) (hp : putE l x = 0) (hb : bk x.key = b) (hv : v ≤ x.ver) : mayT b (withL l x) x.ver = true := by
  have hm := (putE_zero hp).2.1
  have hver : verB x.ver = true := by
    unfold mayI at hm
    simp only [Bool.and_eq_true, decide_eq_true_eq] at hm
    exact verB_iff.2 ⟨hm.2.2.2.1, hm.2.2.2.2⟩
  refine mayT_mk (with_is hp) hver fun y hy => ?_
  rcases with_mem.1 hy with ⟨h1, _⟩ | rfl | ⟨h1, _⟩
  · exact ⟨(mayT_mem h h1).1, Int.le_trans (mayT_mem h h1).2 hv⟩
  · exact ⟨hb, Int.le_refl _⟩
  · exact ⟨(mayT_mem h h1).1, Int.le_trans (mayT_mem h h1).2 hv⟩
theorem del_mayT {b v ver : Int} {l : List It} {k : List UInt8} (h : mayT b l v = true) (hp : delE l k = 0) (hv : v ≤ ver) (hr : verB ver = true) : mayT b (withoutL l k) ver = true := by
  refine mayT_mk (without_is hp) hr fun y hy => ?_
  have h1 : y ∈ l := (List.mem_filter.1 hy).1
  exact ⟨(mayT_mem h h1).1, Int.le_trans (mayT_mem h h1).2 hv⟩
/-- What is got of a trunk. -/
def gTI (lv : Nat → List It) (k : List UInt8) : It := if isB k = true then gI (lv (bkN k)) k else zI
def gTB (lv : Nat → List It) (k : List UInt8) : Bool := isB k && gB (lv (bkN k)) k
theorem RdT.put {w : World} {cs : Array Value} {lv : Nat → List It} {vs : Nat → Int} (h : RdT w cs lv vs) {b : Nat} (hb : b < 16) {u : Value} {l : List It} {v : Int} (hu : RdI w u l) :
    RdT w ((cs.setIfInBounds b u).setIfInBounds (16 + b) (.int .i64 v)) (upd lv b l) (upd vs b v) := by
  have hs := h.size
  refine ⟨by simp [hs], fun i hi => ?_, fun i hi => ?_⟩
  · rw [Array.getElem?_setIfInBounds_ne (by omega)]
    by_cases hib : i = b
    · subst hib
      exact ⟨u, by rw [Array.getElem?_setIfInBounds_self_of_lt (by omega)], by rw [upd_at]; exact hu⟩
    · rw [Array.getElem?_setIfInBounds_ne (by omega), upd_ne _ _ hib]
      exact h.leaf i hi
  · by_cases hib : i = b
    · subst hib
      rw [Array.getElem?_setIfInBounds_self_of_lt (by simp; omega), upd_at]
    · rw [Array.getElem?_setIfInBounds_ne (by omega), Array.getElem?_setIfInBounds_ne (by omega), upd_ne _ _ hib]
      exact h.ver i hi
/-- The empty trunk's cells. -/
def zT : Array Value := #[.slice none 0 0, .slice none 0 0, .slice none 0 0, .slice none 0 0, .slice none 0 0, .slice none 0 0, .slice none 0 0, .slice none 0 0, .slice none 0 0, .slice none 0 0, .slice none 0 0, .slice none 0 0, .slice none 0 0, .slice none 0 0, .slice none 0 0, .slice none 0 0, .int .i64 0, .int .i64 0, .int .i64 0, .int .i64 0, .int .i64 0, .int .i64 0, .int .i64 0, .int .i64 0, .int .i64 0, .int .i64 0, .int .i64 0, .int .i64 0, .int .i64 0, .int .i64 0, .int .i64 0, .int .i64 0]
theorem rdt_zero (w : World) : RdT w zT (fun _ => []) (fun _ => 0) := by
  refine ⟨rfl, fun b hb => ⟨.slice none 0 0, ?_, rdk_nil w⟩, fun b hb => ?_⟩
  · have : b = 0 ∨ b = 1 ∨ b = 2 ∨ b = 3 ∨ b = 4 ∨ b = 5 ∨ b = 6 ∨ b = 7 ∨ b = 8 ∨ b = 9 ∨ b = 10 ∨ b = 11 ∨ b = 12 ∨ b = 13 ∨ b = 14 ∨ b = 15 := by omega
    rcases this with rfl | rfl | rfl | rfl | rfl | rfl | rfl | rfl | rfl | rfl | rfl | rfl | rfl | rfl | rfl | rfl <;> rfl
  · have : b = 0 ∨ b = 1 ∨ b = 2 ∨ b = 3 ∨ b = 4 ∨ b = 5 ∨ b = 6 ∨ b = 7 ∨ b = 8 ∨ b = 9 ∨ b = 10 ∨ b = 11 ∨ b = 12 ∨ b = 13 ∨ b = 14 ∨ b = 15 := by omega
    rcases this with rfl | rfl | rfl | rfl | rfl | rfl | rfl | rfl | rfl | rfl | rfl | rfl | rfl | rfl | rfl | rfl <;> rfl
/-- What comes of putting into a trunk: the error. -/
def putTE (lv : Nat → List It) (vs : Nat → Int) (x : It) : Nat := if mayTs lv vs 16 = true ∧ isB x.key = true then (if putE (lv (bkN x.key)) x ≠ 1 ∧ x.ver < vs (bkN x.key) then 18 else putE (lv (bkN x.key)) x) else 1
/-- Likewise of deleting. -/
def delTE (lv : Nat → List It) (vs : Nat → Int) (k : List UInt8) (ver : Int) : Nat := if verB ver = false ∨ mayTs lv vs 16 = false then 1 else if isB k = false then 6 else if delE (lv (bkN k)) k = 0 ∧ ver < vs (bkN k) then 18 else delE (lv (bkN k)) k
end Go.Proofs.YtoagdmglchccnaaGreatDoor
namespace Go.Proofs.YtoagdmglchccnaaGreatDoor
open Go Go.RowKit
set_option linter.unusedVariables false
set_option linter.unusedSimpArgs false
abbrev TxL := List T2.Txt
def termsF (x : TxL × List Int) (c : T2.Txt) : TxL × List Int := (T2.ofL x.1 c, x.2 ++ [(T2.numN (T2.ofL x.1 c) c : Int)])
def termsL (L : TxL) (xs : List Int) (cs : List T2.Txt) : TxL × List Int := cs.foldl termsF (L, xs)
theorem terms_take {L : TxL} {xs : List Int} {cs : List T2.Txt} {j : Nat} (h : j < cs.length) : termsL L xs (cs.take (j + 1)) = termsF (termsL L xs (cs.take j)) cs[j] := by
  unfold termsL
  rw [List.take_add_one, List.getElem?_eq_getElem h, List.foldl_append]; rfl
theorem num_le (L : TxL) (s : T2.Txt) : T2.numN L s ≤ L.length := by
  unfold T2.numN
  split
  · rename_i h
    have := List.idxOf_lt_length_of_mem h
    omega
  · omega
theorem terms_len : ∀ (cs : List T2.Txt) (L : TxL) (xs : List Int), (termsL L xs cs).1.length ≤ L.length + cs.length ∧ (termsL L xs cs).2.length = xs.length + cs.length
  | [], L, xs => ⟨Nat.le_refl _, rfl⟩
  | c :: cs, L, xs => by
    obtain ⟨h1, h2⟩ := terms_len cs (T2.ofL L c) (xs ++ [(T2.numN (T2.ofL L c) c : Int)])
    have h3 := T2.ofL_len L c
    have e : termsL L xs (c :: cs) = termsL (T2.ofL L c) (xs ++ [(T2.numN (T2.ofL L c) c : Int)]) cs := rfl
    rw [e]
    refine ⟨by rw [List.length_cons]; omega, by rw [h2]; simp; omega⟩
def smallN (xs : List Int) : Prop := ∀ x ∈ xs, T2.fitsI x
theorem smallN_snoc {xs : List Int} {n : Nat} (h : smallN xs) (hn : n ≤ 3000) : smallN (xs ++ [(n : Int)]) := by
  intro x hx
  rcases List.mem_append.1 hx with hx | hx
  · exact h x hx
  · rw [List.mem_singleton.1 hx]; unfold T2.fitsI; omega
/-- The term of a list of numbers. -/
def tmK (p : TxL × List Int) : TxL × Nat := (T2.ofL p.1 (T2.digN p.2), T2.numN (T2.ofL p.1 (T2.digN p.2)) (T2.digN p.2))
def leafT (L : TxL) (l : List It) (ver : Int) : TxL × Nat := tmK (termsL L [ver] (chunksL l))
def leavesT (L : TxL) (lv : Nat → List It) (vs : Nat → Int) : Nat → TxL × List Int
  | 0 => (L, [])
  | k + 1 => ((leafT (leavesT L lv vs k).1 (lv k) (vs k)).1, (leavesT L lv vs k).2 ++ [((leafT (leavesT L lv vs k).1 (lv k) (vs k)).2 : Int)])
def rootT (L : TxL) (lv : Nat → List It) (vs : Nat → Int) : TxL × Nat := tmK (leavesT L lv vs 16)
theorem starts_len (n : Nat) : (starts n).length = (n + 7) / 8 := by simp [starts]
theorem chunks_len {l : List It} (h : l.length ≤ 64) : (chunksL l).length ≤ 8 := by
  unfold chunksL
  rw [List.length_map, starts_len]; omega
theorem chunk_size {l : List It} (h : isL l = true) : ∀ c ∈ chunksL l, c.length ≤ 1100 := by
  intro c hc
  unfold chunksL at hc
  obtain ⟨i, hi, rfl⟩ := List.mem_map.1 hc
  unfold starts at hi
  obtain ⟨q, hq, rfl⟩ := List.mem_map.1 hi
  rw [← part_full l q 8 (by omega) (Nat.le_refl _)]
  exact partC_len (isL_may h) q 8 (Nat.le_refl _)
theorem tmK_len (p : TxL × List Int) : (tmK p).1.length ≤ p.1.length + 1 ∧ (tmK p).2 ≤ p.1.length + 1 := by
  have h := T2.ofL_len p.1 (T2.digN p.2)
  exact ⟨h, Nat.le_trans (num_le _ _) h⟩
theorem leafT_len {L : TxL} {l : List It} {ver : Int} (h : l.length ≤ 64) : (leafT L l ver).1.length ≤ L.length + 9 ∧ (leafT L l ver).2 ≤ L.length + 9 := by
  have h1 := tmK_len (termsL L [ver] (chunksL l))
  have h2 := (terms_len (chunksL l) L [ver]).1
  have h3 := chunks_len h
  unfold leafT
  omega
theorem leavesT_len {L : TxL} {lv : Nat → List It} {vs : Nat → Int} : ∀ k, (∀ b, b < k → (lv b).length ≤ 64) → (leavesT L lv vs k).1.length ≤ L.length + 9 * k ∧ (leavesT L lv vs k).2.length = k ∧ (L.length ≤ 1000 → k ≤ 16 → smallN (leavesT L lv vs k).2)
  | 0, _ => ⟨by simp [leavesT], rfl, fun _ _ x hx => by cases hx⟩
  | k + 1, h => by
    obtain ⟨h1, h2, h3⟩ := leavesT_len (L := L) (vs := vs) k (fun b hb => h b (by omega))
    have h4 := leafT_len (L := (leavesT L lv vs k).1) (ver := vs k) (h k (by omega))
    refine ⟨?_, ?_, fun hL hk => ?_⟩
    · show (leafT (leavesT L lv vs k).1 (lv k) (vs k)).1.length ≤ _
      omega
    · show ((leavesT L lv vs k).2 ++ [_]).length = k + 1
      rw [List.length_append, h2]; rfl
    · show smallN ((leavesT L lv vs k).2 ++ [((leafT (leavesT L lv vs k).1 (lv k) (vs k)).2 : Int)])
      exact smallN_snoc (h3 hL (by omega)) (by omega)
/-- A row of another type is none of a table's blocks. -/
theorem ne_tb {w : World} {base b B M n : Nat} {v u : Value} {L : TxL} {e : TypeId} {size : Nat} {xs : List Value} (tb : T2.TB w base B M v L) (h : w.ownsRow b e size u n xs) (he : e ≠ 9) (he2 : e ≠ 124) : ∀ k, u.ownBlock = some k → ¬ T2.ownR B M v k := by
  intro k hk
  rcases h.2 with ⟨e1, -⟩ | ⟨g, cap, cur, rfl, -, hg, -⟩
  · rw [e1] at hk; simp [Value.ownBlock] at hk
  · simp [Value.ownBlock] at hk
    subst hk
    rintro (rfl | rfl | h3)
    · have := tb.blk
      rw [hg] at this
      injection this with this
      injection this with _ this
      exact he2 this
    · obtain ⟨es, clock, h4, -⟩ := tb.map
      rw [hg] at h4
      injection h4 with h4
      cases h4
    · rcases tb.row.2 with ⟨e1, -⟩ | ⟨g2, cap2, cur2, rfl, -, hg2, -⟩
      · rw [e1] at h3; simp [Value.ownBlock] at h3
      · simp [Value.ownBlock] at h3
        subst h3
        rw [hg] at hg2
        injection hg2 with hg2
        injection hg2 with _ hg2
        exact he hg2
/-- What has grown but for another one's row leaves a table. -/
theorem tb_grown {w w' : World} {base b B M n : Nat} {v u : Value} {L : TxL} {e : TypeId} {size : Nat} {xs : List Value} (tb : T2.TB w base B M v L) (h : w.ownsRow b e size u n xs) (he : e ≠ 9) (he2 : e ≠ 124) (g : w.grownBy w' u.ownBlock) : T2.TB w' base B M v L :=
  tb.kept fun k hk ho => g.block k hk fun q => ne_tb tb h he he2 k q.symm ho
end Go.Proofs.YtoagdmglchccnaaGreatDoor
namespace Go.Proofs.YtoagdmglchccnaaGreatDoor
open Go Go.RowKit
set_option linter.unusedVariables false
set_option linter.unusedSimpArgs false
def vC (v : Value) : List Value := [v]
theorem vC_len (v : Value) : (vC v).length = 1 := rfl
theorem vC_flat : ∀ us : List Value, us.flatMap vC = us
  | [] => rfl
  | u :: r => by rw [List.flatMap_cons, vC_flat r]; rfl
section
variable {α : Type} {enc : α → List Value} {k : Nat}
/-- A cut of a slice, as one operation. -/
def CutK (T : TypeId) (ao : Option Addr) (n cap i j : Nat) (A : Value) : Prop := ∀ (op : Oper) (a : Act) (s : Operand) (x y : Option Operand), op.op = .slice T s x y none → a.eval s = .slice ao n cap → ((x = none ∧ i = 0) ∨ ∃ u kx, x = some u ∧ a.eval u = .int kx (i : Int)) → ((y = none ∧ j = n) ∨ ∃ u ky, y = some u ∧ a.eval u = .int ky (j : Int)) → ∀ w', (execOp a.eval op).run Tryz.prog w' = .ok (.value A) w'
theorem CutK.to {T : TypeId} {ao : Option Addr} {n cap j : Nat} {A : Value} (h : CutK T ao n cap 0 j A) (op : Oper) (a : Act) (s u : Operand) (ky : IntKind) (ho : op.op = .slice T s none (some u) none) (hs : a.eval s = .slice ao n cap) (hu : a.eval u = .int ky (j : Int)) (w' : World) : (execOp a.eval op).run Tryz.prog w' = .ok (.value A) w' :=
  h op a s none (some u) ho hs (.inl ⟨rfl, rfl⟩) (.inr ⟨u, ky, rfl, hu⟩) w'
theorem CutK.from {T : TypeId} {ao : Option Addr} {n cap i : Nat} {A : Value} (h : CutK T ao n cap i n A) (op : Oper) (a : Act) (s u : Operand) (ky : IntKind) (ho : op.op = .slice T s (some u) none none) (hs : a.eval s = .slice ao n cap) (hu : a.eval u = .int ky (i : Int)) (w' : World) : (execOp a.eval op).run Tryz.prog w' = .ok (.value A) w' :=
  h op a s (some u) none ho hs (.inr ⟨u, ky, rfl, hu⟩) (.inl ⟨rfl, rfl⟩) w'
end
/-- Values that read as lists of bytes. -/
def RdU (w : World) (us : List Value) (ls : List (List UInt8)) : Prop := us.length = ls.length ∧ ∀ (j : Nat) (u : Value), us[j]? = some u → ∃ l : List UInt8, ls[j]? = some l ∧ Rd w u l
theorem RdU.below {w w' : World} {us : List Value} {ls : List (List UInt8)} (h : RdU w us ls) {B : Nat} (g : Below B w w') (hB : w.heap.size ≤ B) : RdU w' us ls :=
  ⟨h.1, fun j u hj => (h.2 j u hj).imp fun l x => ⟨x.1, x.2.below g hB⟩⟩
theorem RdU.at {w : World} {us : List Value} {ls : List (List UInt8)} (h : RdU w us ls) (j : Nat) (hj : j < ls.length) : ∃ (hu : j < us.length), Rd w us[j] ls[j] := by
  have hu : j < us.length := by rw [h.1]; exact hj
  obtain ⟨l, h1, h2⟩ := h.2 j us[j] (List.getElem?_eq_getElem hu)
  rw [List.getElem?_eq_getElem hj] at h1
  cases h1
  exact ⟨hu, h2⟩
theorem rd_one {w : World} {v : Value} {l : List UInt8} (h : Rd w v l) : v.oneCell' = true := by
  obtain ⟨ao, cap, rfl, _⟩ := h; rfl
theorem RdU.one {w : World} {us : List Value} {ls : List (List UInt8)} (h : RdU w us ls) : ∀ y ∈ us, ∀ u ∈ vC y, u.oneCell' = true := by
  intro y hy u hu
  simp only [vC, List.mem_singleton] at hu
  subst hu
  obtain ⟨j, hj, rfl⟩ := List.mem_iff_getElem.1 hy
  obtain ⟨l, _, h2⟩ := h.2 j _ (List.getElem?_eq_getElem hj)
  exact rd_one h2
theorem own_types_ne {W : World} {b b' : Nat} {e e' : TypeId} {k k' n n' : Nat} {v v' : Value} {xs xs' : List Value} (h : W.ownsRow b e k v n xs) (h' : W.ownsRow b' e' k' v' n' xs') (he : e ≠ e') : v.ownBlock = none ∨ v.ownBlock ≠ v'.ownBlock := by
  rcases h.2 with ⟨rfl, _⟩ | ⟨g, cap, cur, rfl, _, hg, _⟩
  · exact .inl rfl
  · refine .inr ?_
    rcases h'.2 with ⟨rfl, _⟩ | ⟨g', cap', cur', rfl, _, hg', _⟩
    · simp [Value.ownBlock]
    · intro hh
      simp [Value.ownBlock] at hh
      subst hh
      rw [hg] at hg'
      cases hg'
      exact he rfl
/-- A slice of slices that was there, or is the call's own. -/
def ChV (w0 w : World) (v : Value) (us : List Value) : Prop := RdK 1 vC w0 v us ∨ w.ownsRow w0.heap.size 115 1 v us.length us
theorem ChV.rd {w0 w : World} {v : Value} {us : List Value} (h : ChV w0 w v us) (b : Below w0.heap.size w0 w) : RdK 1 vC w v us :=
  h.elim (fun h => h.below b (Nat.le_refl _)) (fun h => own_rdk vC_len (by rw [vC_flat]; exact h))
theorem ChV.keep {w0 w w' : World} {v : Value} {us : List Value} (h : ChV w0 w v us) (g : Below w.heap.size w w') : ChV w0 w' v us :=
  h.imp id (fun h => own_keep h g)
theorem ChV.kept {w0 w w' : World} {v x : Value} {us xs : List Value} {e : TypeId} {k n : Nat} (h : ChV w0 w v us) (hx : w.ownsRow w0.heap.size e k x n xs) (he : 115 ≠ e) (g : w.grownBy w' x.ownBlock) : ChV w0 w' v us :=
  h.imp id (fun h => h.kept g (own_types_ne h hx he))
end Go.Proofs.YtoagdmglchccnaaGreatDoor
