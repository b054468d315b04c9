/- Values: their bytes. Written by wip/tools/gen7k.py. -/
/- Leaves: Weight, the encoding of a chunk. Written by wip/tools/gen9h.py. -/
import Derived.Test.YtoagdmglchccnaaGreatDoorQRR17
import Derived.Test.YtoagdmglchccnaaGreatDoorQRR10
import Derived.Test.YtoagdmglchccnaaGreatDoorQRR7
import Derived.Maps.AppendAt
namespace Go.Proofs.YtoagdmglchccnaaGreatDoor.V7
open Go Go.RowKit
set_option linter.unusedVariables false
set_option linter.unusedSimpArgs false
/-- A value's bytes; none, if it may not be. -/
def encL (a : V) : List UInt8 := if mayB a = false then [] else if a.k = 1 then [1, if a.i = 0 then 0 else 1] else if a.k = 2 then 2 :: putL (zigN a.i) else if a.k = 3 then 3 :: textL a.s else [0]
def EncR (w : World) (l : List UInt8) (e : Ending) (w' : World) : Prop := ∃ v, e = .returned v ∧ Rd w' v l ∧ w'.ownsRow w.heap.size 5 1 v l.length (l.map bv) ∧ Below w.heap.size w w'
theorem encR_of {w w' : World} {v : Value} {l : List UInt8} (ho : w'.ownsRow w.heap.size 5 1 v l.length (l.map bv)) (hl : 0 < l.length) (hb : Below w.heap.size w w') : EncR w l (.returned v) w' := by
  obtain ⟨g, cap, rfl, _, _⟩ := slice_of_own ho hl
  exact ⟨_, rfl, own_rd ho, ho, hb⟩
theorem own_below {w w' : World} {b : Nat} {e : TypeId} {size : Nat} {v : Value} {n : Nat} {xs : List Value} (h : w.ownsRow b e size v n xs) (hb : Below w.heap.size w w') : w'.ownsRow b e size v n xs := by
  refine ⟨h.1, ?_⟩
  rcases h.2 with h1 | ⟨g, cap, cur, rfl, h2, h3, h4⟩
  · exact .inl h1
  · exact .inr ⟨g, cap, cur, rfl, h2, (hb.block g (lt_of_block h3)).trans h3, h4⟩
theorem textL_len (s : List UInt8) (h : s.length ≤ 64) : (textL s).length ≤ 74 := by
  unfold textL
  rw [if_pos (by omega), List.length_append]
  have := (putL_len s.length).2
  omega
set_option maxRecDepth 100000 in
set_option maxHeartbeats 1000000 in
theorem encode_any (k i : Int) (s : List UInt8) (w : World) (hs : s.length ≤ maxLen) (hI : I64 i) :
    Calls Tryz.prog 109 #[.agg #[.int .i64 k, .int .i64 i, .string (str s)]] w (EncR w (encL ⟨k, i, s⟩)) := by
  obtain ⟨i0, hi, hz0, hz1, hz2⟩ := info_parts u8info
  have M := fun w => may_any k i s w hs
  cases hm : mayB ⟨k, i, s⟩ with
  | false =>
    have e : encL ⟨k, i, s⟩ = [] := by unfold encL; rw [if_pos hm]
    rw [e]
    rw [hm] at M
    clear e hm hs hI
    obtain ⟨q1, bel⟩ : (w.alloc (.cells #[.int .i64 k, .int .i64 i, .string (str s)] 145)).heap[w.heap.size]? = some (.cells #[.int .i64 k, .int .i64 i, .string (str s)] 145) ∧ Below w.heap.size w (w.alloc (.cells #[.int .i64 k, .int .i64 i, .string (str s)] 145)) := ⟨heap_alloc_new _ _, (Below.refl _ _).alloc (Nat.le_refl _) _⟩
    go_enter Tryz.func109, Tryz.ntmps109
    go_wp2_with fail
    refine (M _).mono ?_
    rintro e w1 ⟨rfl, g⟩
    replace q1 := (g.block _ (lt_of_block q1)).trans q1
    replace bel := chain bel g
    clear g
    obtain ⟨c0, c1, c2⟩ := cells3 q1
    have ql := lt_of_block q1
    go_wp2_with fail
    go_ret
    exact ⟨_, rfl, rd_nil _, World.ownsRow_nil _ _ _ _, bel⟩
  | true =>
    have hc := hm
    simp only [mayB, decide_eq_true_eq] at hc
    rw [hm] at M
    rcases hc with ⟨rfl, rfl, rfl⟩ | ⟨rfl, h2, rfl⟩ | ⟨rfl, rfl⟩ | ⟨rfl, rfl, h3⟩
    · have e : encL ⟨0, 0, []⟩ = [0] := by decide
      rw [e]
      clear e hm hs hI
      obtain ⟨q1, bel⟩ : (w.alloc (.cells #[.int .i64 0, .int .i64 0, .string (str [])] 145)).heap[w.heap.size]? = some (.cells #[.int .i64 0, .int .i64 0, .string (str [])] 145) ∧ Below w.heap.size w (w.alloc (.cells #[.int .i64 0, .int .i64 0, .string (str [])] 145)) := ⟨heap_alloc_new _ _, (Below.refl _ _).alloc (Nat.le_refl _) _⟩
      go_enter Tryz.func109, Tryz.ntmps109
      go_wp2_with fail
      refine (M _).mono ?_
      rintro e w1 ⟨rfl, g⟩
      replace q1 := (g.block _ (lt_of_block q1)).trans q1
      replace bel := chain bel g
      clear g
      obtain ⟨c0, c1, c2⟩ := cells3 q1
      have ql := lt_of_block q1
      have ho : (w1.alloc (.cells #[.int .u8 0] 5)).ownsRow w.heap.size 5 1 (.slice (some ⟨w1.heap.size, 0, none⟩) 1 1) 1 [.int .u8 0] := World.ownsRow_lit w1 #[.int .u8 0] 1 bel.size (by decide) rfl
      have hb1 : Below w.heap.size w (w1.alloc (.cells #[.int .u8 0] 5)) := bel.alloc bel.size _
      go_wp2_with fail
      go_ret
      exact encR_of (l := [0]) ho (by decide) hb1
    · rcases h2 with rfl | rfl
      · have e : encL ⟨1, 0, []⟩ = [1, 0] := by decide
        rw [e]
        clear e hm hs hI
        obtain ⟨q1, bel⟩ : (w.alloc (.cells #[.int .i64 1, .int .i64 0, .string (str [])] 145)).heap[w.heap.size]? = some (.cells #[.int .i64 1, .int .i64 0, .string (str [])] 145) ∧ Below w.heap.size w (w.alloc (.cells #[.int .i64 1, .int .i64 0, .string (str [])] 145)) := ⟨heap_alloc_new _ _, (Below.refl _ _).alloc (Nat.le_refl _) _⟩
        go_enter Tryz.func109, Tryz.ntmps109
        go_wp2_with fail
        refine (M _).mono ?_
        rintro e w1 ⟨rfl, g⟩
        replace q1 := (g.block _ (lt_of_block q1)).trans q1
        replace bel := chain bel g
        clear g
        obtain ⟨c0, c1, c2⟩ := cells3 q1
        have ql := lt_of_block q1
        have ho : (w1.alloc (.cells #[.int .u8 1] 5)).ownsRow w.heap.size 5 1 (.slice (some ⟨w1.heap.size, 0, none⟩) 1 1) 1 [.int .u8 1] := World.ownsRow_lit w1 #[.int .u8 1] 1 bel.size (by decide) rfl
        have hb1 : Below w.heap.size w (w1.alloc (.cells #[.int .u8 1] 5)) := bel.alloc bel.size _
        go_wp2_with (at_builtin; go_loud (refine wpList_app1 w rfl _ _ 115 rfl w.heap.size 5 i0 (.int .u8 0) 1 Tryz.underlying115 hi hz0 hz1 hz2 rfl _ _ _ rfl ho _ _ (by rw [World.size_alloc]; rfl) rfl (by decide) (by decide) (Nat.le_refl _) hb1 ?_); intro v' w2 o2 b2)
        go_ret
        exact encR_of (l := [1, 0]) o2 (by decide) b2
      · have e : encL ⟨1, 1, []⟩ = [1, 1] := by decide
        rw [e]
        clear e hm hs hI
        obtain ⟨q1, bel⟩ : (w.alloc (.cells #[.int .i64 1, .int .i64 1, .string (str [])] 145)).heap[w.heap.size]? = some (.cells #[.int .i64 1, .int .i64 1, .string (str [])] 145) ∧ Below w.heap.size w (w.alloc (.cells #[.int .i64 1, .int .i64 1, .string (str [])] 145)) := ⟨heap_alloc_new _ _, (Below.refl _ _).alloc (Nat.le_refl _) _⟩
        go_enter Tryz.func109, Tryz.ntmps109
        go_wp2_with fail
        refine (M _).mono ?_
        rintro e w1 ⟨rfl, g⟩
        replace q1 := (g.block _ (lt_of_block q1)).trans q1
        replace bel := chain bel g
        clear g
        obtain ⟨c0, c1, c2⟩ := cells3 q1
        have ql := lt_of_block q1
        have ho : (w1.alloc (.cells #[.int .u8 1] 5)).ownsRow w.heap.size 5 1 (.slice (some ⟨w1.heap.size, 0, none⟩) 1 1) 1 [.int .u8 1] := World.ownsRow_lit w1 #[.int .u8 1] 1 bel.size (by decide) rfl
        have hb1 : Below w.heap.size w (w1.alloc (.cells #[.int .u8 1] 5)) := bel.alloc bel.size _
        go_wp2_with (at_builtin; go_loud (refine wpList_app1 w rfl _ _ 115 rfl w.heap.size 5 i0 (.int .u8 0) 1 Tryz.underlying115 hi hz0 hz1 hz2 rfl _ _ _ rfl ho _ _ (by rw [World.size_alloc]; rfl) rfl (by decide) (by decide) (Nat.le_refl _) hb1 ?_); intro v' w2 o2 b2)
        go_ret
        exact encR_of (l := [1, 1]) o2 (by decide) b2
    · have e : encL ⟨2, i, []⟩ = 2 :: putL (zigN i) := by unfold encL; rw [if_neg (by rw [hm]; simp)]; rfl
      rw [e]
      clear e hm hs
      obtain ⟨q1, bel⟩ : (w.alloc (.cells #[.int .i64 2, .int .i64 i, .string (str [])] 145)).heap[w.heap.size]? = some (.cells #[.int .i64 2, .int .i64 i, .string (str [])] 145) ∧ Below w.heap.size w (w.alloc (.cells #[.int .i64 2, .int .i64 i, .string (str [])] 145)) := ⟨heap_alloc_new _ _, (Below.refl _ _).alloc (Nat.le_refl _) _⟩
      go_enter Tryz.func109, Tryz.ntmps109
      go_wp2_with fail
      refine (M _).mono ?_
      rintro e w1 ⟨rfl, g⟩
      replace q1 := (g.block _ (lt_of_block q1)).trans q1
      replace bel := chain bel g
      clear g
      obtain ⟨c0, c1, c2⟩ := cells3 q1
      have ql := lt_of_block q1
      have ho : (w1.alloc (.cells #[.int .u8 2] 5)).ownsRow w.heap.size 5 1 (.slice (some ⟨w1.heap.size, 0, none⟩) 1 1) 1 [.int .u8 2] := World.ownsRow_lit w1 #[.int .u8 2] 1 bel.size (by decide) rfl
      have hb1 : Below w.heap.size w (w1.alloc (.cells #[.int .u8 2] 5)) := bel.alloc bel.size _
      go_wp2_with fail
      refine (putInt_any i hI _).mono ?_
      rintro e w2 ⟨g2, n2, cap2, rfl, hn2, hl2, o2, b2⟩
      have r2 : Rd w2 (.slice (some ⟨g2, 0, none⟩) n2 cap2) (putL (zigN i)) := own_rd o2
      have ho2 := own_below ho b2
      have hb2 := chain hb1 b2
      have hl3 := (putL_len (zigN i)).2
      go_wp2_with (at_builtin; go_loud (refine wpList_app_rd w rfl _ _ 115 rfl w.heap.size 5 i0 (.int .u8 0) 1 Tryz.underlying115 hi hz0 hz1 hz2 rfl _ _ _ rfl ho2 _ _ rfl r2 (by unfold maxLen; omega) (by omega) (Nat.le_refl _) hb2 ?_); intro v' w3 o3 b3)
      go_ret
      refine encR_of (l := 2 :: putL (zigN i)) ?_ (by simp) b3
      rw [List.length_cons, Nat.add_comm]
      exact o3
    · have e : encL ⟨3, 0, s⟩ = 3 :: textL s := by unfold encL; rw [if_neg (by rw [hm]; simp)]; rfl
      rw [e]
      have hl3 := textL_len s h3
      clear e hm hs hI
      obtain ⟨q1, bel⟩ : (w.alloc (.cells #[.int .i64 3, .int .i64 0, .string (str s)] 145)).heap[w.heap.size]? = some (.cells #[.int .i64 3, .int .i64 0, .string (str s)] 145) ∧ Below w.heap.size w (w.alloc (.cells #[.int .i64 3, .int .i64 0, .string (str s)] 145)) := ⟨heap_alloc_new _ _, (Below.refl _ _).alloc (Nat.le_refl _) _⟩
      go_enter Tryz.func109, Tryz.ntmps109
      go_wp2_with fail
      refine (M _).mono ?_
      rintro e w1 ⟨rfl, g⟩
      replace q1 := (g.block _ (lt_of_block q1)).trans q1
      replace bel := chain bel g
      clear g
      obtain ⟨c0, c1, c2⟩ := cells3 q1
      have ql := lt_of_block q1
      have ho : (w1.alloc (.cells #[.int .u8 3] 5)).ownsRow w.heap.size 5 1 (.slice (some ⟨w1.heap.size, 0, none⟩) 1 1) 1 [.int .u8 3] := World.ownsRow_lit w1 #[.int .u8 3] 1 bel.size (by decide) rfl
      have hb1 : Below w.heap.size w (w1.alloc (.cells #[.int .u8 3] 5)) := bel.alloc bel.size _
      go_wp2_with fail
      refine (putText_any s _ (by unfold maxLen; omega)).mono ?_
      rintro e w2 ⟨v2, rfl, r2, o2, b2⟩
      have ho2 := own_below ho b2
      have hb2 := chain hb1 b2
      go_wp2_with (at_builtin; go_loud (refine wpList_app_rd w rfl _ _ 115 rfl w.heap.size 5 i0 (.int .u8 0) 1 Tryz.underlying115 hi hz0 hz1 hz2 rfl _ _ _ rfl ho2 _ _ rfl r2 (by unfold maxLen; omega) (by omega) (Nat.le_refl _) hb2 ?_); intro v' w3 o3 b3)
      go_ret
      refine encR_of (l := 3 :: textL s) ?_ (by simp) b3
      rw [List.length_cons, Nat.add_comm]
      exact o3
end Go.Proofs.YtoagdmglchccnaaGreatDoor.V7
namespace Go.Proofs.YtoagdmglchccnaaGreatDoor
open Go Go.RowKit
set_option linter.unusedVariables false
set_option linter.unusedSimpArgs false
def WfI (l : List It) : Prop := ∀ x ∈ l, I64 x.v.i
def wtI (x : It) : Nat := x.key.length + (V7.encL x.v).length
def wtL (l : List It) : Nat := (l.map wtI).sum
def weightL (l : List It) : Nat := if isL l = true then wtL l else 0
theorem encL_max (a : V7.V) : (V7.encL a).length ≤ 75 := by
  unfold V7.encL
  split
  · simp
  · rename_i hm
    split
    · simp
    · split
      · have := (putL_len (zigN a.i)).2; simp; omega
      · split
        · have h3 : a.s.length ≤ 64 := by
            have h : V7.mayB a = true := by simpa using hm
            simp only [V7.mayB, decide_eq_true_eq] at h
            rcases h with ⟨_, _, h⟩ | ⟨_, _, h⟩ | ⟨_, h⟩ | ⟨_, _, h⟩
            · simp [h]
            · simp [h]
            · simp [h]
            · exact h
          have := V7.textL_len a.s h3
          simp; omega
        · simp
theorem may_key {x : It} (h : mayI x = true) : x.key.length ≤ 24 := by
  unfold mayI isB patB at h
  simp only [Bool.and_eq_true, decide_eq_true_eq] at h
  exact h.1.2.1
theorem may_ver {x : It} (h : mayI x = true) : 0 ≤ x.ver ∧ x.ver ≤ 2147483647 := by
  unfold mayI at h
  simp only [Bool.and_eq_true, decide_eq_true_eq] at h
  exact ⟨h.2.2.2.1, h.2.2.2.2⟩
theorem may_v {x : It} (h : mayI x = true) : V7.mayB x.v = true := by
  unfold mayI at h
  simp only [Bool.and_eq_true, decide_eq_true_eq] at h
  exact h.2.1
/-- 'b = append(b, v...)' of bytes, a block of another's stays. -/
theorem wpList_app_rdb {P : Program} {ops : Array Oper} {rest : List Oper} {o : Oper} {a : Act} {Q : Exit → Act → World → Prop} {w : World} (w0 : World) (hgd : o.guard = none) (s x : Operand) (t : TypeId)
    (ho : o.op = .call { callee := .builtin .append, args := #[s, x], argTypes := #[t, t] })
    (base : Nat) (e : TypeId) (i : TypeInfo) (z : Value) (bytes : Nat) (ht : P.underlying t = some (.slice e)) (hi : P.info? e = some i) (hz : i.zero = some z)
    (hsize : i.size = 1) (hby : i.bytes = bytes) (hzs : z.cells.size = 1)
    (v : Value) (n : Nat) (xs : List Value) (hs : a.eval s = v) (hown : w.ownsRow base e 1 v n xs) (vx : Value) (l : List UInt8) (hx : a.eval x = vx) (hr : Rd w vx l)
    (h63 : n + l.length ≤ maxLen) (hbytes : (n + l.length) * bytes ≤ 140737488355328) (hbase : base ≤ w0.heap.size) (hb : Below base w0 w) (B : Nat) (o' : Obj) (hbx : w.heap[B]? = some o') (hbn : v.ownBlock ≠ some B)
    (hK : ∀ v' w', w'.ownsRow base e 1 v' (n + l.length) (xs ++ l.map bv) → Below base w0 w' → w'.heap[B]? = some o' → v'.ownBlock ≠ some B → wpList P ops Q rest (a.put o.dst v') w') :
    wpList P ops Q (o :: rest) a w := by
  obtain ⟨ao, cap, rfl, h2, h3, h4, h5⟩ := hr
  have hb1 : base ≤ w.heap.size := Nat.le_trans hbase hb.size
  cases ao with
  | none =>
    have h6 := h4 rfl
    obtain rfl : l = [] := List.eq_nil_of_length_eq_zero (by omega)
    subst h6
    exact wpList_append_own_none hgd s x t ho base e i 1 ht hi v n xs hs hown hx (hK v w (by simpa using hown) hb hbx hbn)
  | some ad =>
    refine wpList_append_own_at _ hgd s x t ho base e i z 1 bytes ht hi hz hsize hby hzs (by decide) v n xs hs hown ad l.length cap (l.map bv) hx (by simp) ?_ ?_ h63 hbytes hb1 ?_
    · intro j u hj
      have hjl : j < l.length := by have := (List.getElem?_eq_some_iff.1 hj).1; simpa using this
      obtain ⟨b, off, he, _, hc⟩ := h5 (by omega)
      cases he
      rw [Addr.add_lit, hc j hjl]
      simp [hjl] at hj
      simp [hjl, hj]
    · intro u hu
      obtain ⟨b, _, rfl⟩ := List.mem_map.1 hu
      rfl
    · intro v' w' h1 h2 _ h9
      have hlt := lt_of_block hbx
      refine hK v' w' h1 (grown_below hb hbase hown h2) ((h2.block B hlt (fun e => hbn e.symm)).trans hbx) ?_
      rcases h9 with e | e
      · rw [e]; exact hbn
      · rw [e]; intro e'; cases e'; omega
/-- Bytes of one's own are read. -/
theorem own_rd' {w : World} {base : Nat} {e : TypeId} {v : Value} {l : List UInt8} (h : w.ownsRow base e 1 v l.length (l.map bv)) : Rd w v l := by
  rcases h.2 with ⟨h1, h2⟩ | ⟨g, cap, cur, h1, _⟩
  · have : l = [] := List.eq_nil_of_length_eq_zero h2
    subst this; subst h1
    exact rd_nil w
  · subst h1; exact own_rd h
def bytesI (x : It) : List UInt8 := textL x.key ++ (V7.encL x.v ++ putL x.ver.toNat)
def encC (l : List It) : List UInt8 := UInt8.ofNat l.length :: l.flatMap bytesI
theorem bytes_succ {l : List It} {j : Nat} (h : j < l.length) : (l.take (j + 1)).flatMap bytesI = (l.take j).flatMap bytesI ++ bytesI l[j] := by
  rw [List.take_add_one, List.getElem?_eq_getElem h, List.flatMap_append]; simp
theorem bv_of (n : Nat) (h : n < 256) : bv (UInt8.ofNat n) = .int .u8 (n : Int) := by
  unfold bv; rw [UInt8.toNat_ofNat']; congr 1; omega
set_option maxRecDepth 100000 in
set_option maxHeartbeats 1000000 in
theorem enc9_any (v : Value) (l : List It) (w : World) (h : RdI w v l) (h200 : l.length ≤ 200) (hm : ∀ x ∈ l, mayI x = true) (hsz : SzI l) (hwf : WfI l) :
    Calls Tryz.prog 84 #[v] w (fun e w' => ∃ v', e = .returned v' ∧ w'.ownsRow w.heap.size 5 1 v' (encC l).length ((encC l).map bv) ∧ Below w.heap.size w w') := by
  obtain ⟨i0, hi, hz0, hz1, hz2⟩ := info_parts u8info
  obtain ⟨ao, cap, rfl, hc, hm', hr⟩ := RdK.open h
  have HRD := Lib.hid (show RdI w (.slice ao l.length cap) l from hr)
  have HM := Lib.hid hm
  have HS := Lib.hid hsz
  have HW := Lib.hid hwf
  obtain ⟨n, hn⟩ : ∃ n, n = l.length := ⟨_, rfl⟩
  have c0 : IntKind.u8.wrap (n : Int) = (n : Int) := by rw [IntKind.wrap_u8]; omega
  have HN := Lib.hid hn
  rw [← hn] at h200 hc ⊢
  have LIT := Lib.hid (World.ownsRow_lit (e := 5) (size := 1) w #[.int .u8 (n : Int)] 1 (Nat.le_refl _) (by decide) rfl)
  have BLIT := (Below.refl w.heap.size w).alloc (Nat.le_refl _) (.cells #[.int .u8 (n : Int)] 5)
  obtain ⟨R, hR⟩ : ∃ R, R = encC l := ⟨_, rfl⟩
  rw [← hR]
  have HR := Lib.hid hR
  clear h hr hm hsz hwf hn hR
  go_enter Tryz.func84, Tryz.ntmps84
  go_wp2_with fail
  go_loopw [3, 12] (fun b i wr => ∃ (j : Nat) (acc : List UInt8), j ≤ n ∧ i = .int .i64 (j : Int) ∧ acc.length ≤ 1 + 200 * j ∧ Hid (acc = UInt8.ofNat n :: (l.take j).flatMap bytesI) ∧ wr.ownsRow w.heap.size 5 1 b acc.length (acc.map bv) ∧ Below w.heap.size w wr) (fun _ i _ => 300 - (intOf i).toNat)
  case atStart => exact ⟨0, [UInt8.ofNat n], Nat.zero_le _, rfl, by simp, rfl, by have h := LIT.out; simpa [bv_of n (by omega)] using h, BLIT⟩
  case round =>
    obtain ⟨j, acc, hj, rfl, hacc, HA, hown, bel⟩ := hrel
    by_cases hjn : j < n
    · have hlt : j < l.length := by have := HN.out; omega
      have hr := HRD.out
      have R1 := hr.below bel (Nat.le_refl _)
      obtain ⟨b, off, rfl, hb, c0, c1, c2, c3, c4⟩ := rdi_cells R1 j hlt
      obtain ⟨x, hx⟩ : ∃ x, x = l[j]'hlt := ⟨_, rfl⟩
      rw [← hx] at c0 c1 c2 c3 c4
      have hmx : mayI x = true := by rw [hx]; exact HM.out _ (List.getElem_mem _)
      have hxk := may_key hmx
      have hxk2 : x.key.length ≤ maxLen := by unfold maxLen; omega
      have hxs : x.v.s.length ≤ maxLen := by rw [hx]; exact (HS.out _ (List.getElem_mem _)).2
      have hxi : I64 x.v.i := by rw [hx]; exact HW.out _ (List.getElem_mem _)
      obtain ⟨v1, v2⟩ := may_ver hmx
      have l1 := V7.textL_len x.key (by omega)
      have l2 := encL_max x.v
      have l3 := (putL_len x.ver.toNat).2
      have cu : IntKind.u64.wrap x.ver = x.ver := by rw [IntKind.wrap_u64]; omega
      have HA2 := Lib.hid (show acc ++ textL x.key ++ V7.encL x.v ++ putL x.ver.toNat = UInt8.ofNat n :: (l.take (j + 1)).flatMap bytesI by
        rw [bytes_succ hlt, ← List.cons_append, ← HA.out, ← hx]; unfold bytesI; simp)
      have PT := Lib.hid (fun w => putText_any x.key w hxk2)
      have EN := Lib.hid (fun w => V7.encode_any x.v.k x.v.i x.v.s w hxs hxi)
      have PV := Lib.hid (fun w => put_any x.ver (by unfold U64; omega) w)
      obtain ⟨L1, hL1⟩ : ∃ L, L = textL x.key := ⟨_, rfl⟩
      obtain ⟨L2, hL2⟩ : ∃ L, L = V7.encL x.v := ⟨_, rfl⟩
      obtain ⟨L3, hL3⟩ : ∃ L, L = putL x.ver.toNat := ⟨_, rfl⟩
      rw [← hL1] at l1
      rw [← hL2] at l2
      rw [← hL3] at l3
      rw [← hL1, ← hL2, ← hL3] at HA2
      have e2 : (⟨x.v.k, x.v.i, x.v.s⟩ : V7.V) = x.v := rfl
      rw [e2, ← hL2] at EN
      rw [← hL1] at PT
      rw [← hL3] at PV
      have q1 := heap_alloc_new wr (.cells #[.string (str x.key), .int .i64 x.v.k, .int .i64 x.v.i, .string (str x.v.s), .int .i64 x.ver] 154)
      have B1 := chain bel ((Below.refl wr.heap.size wr).alloc (Nat.le_refl _) (.cells #[.string (str x.key), .int .i64 x.v.k, .int .i64 x.v.i, .string (str x.v.s), .int .i64 x.ver] 154))
      have own1 := own_keep hown ((Below.refl wr.heap.size wr).alloc (Nat.le_refl _) (.cells #[.string (str x.key), .int .i64 x.v.k, .int .i64 x.v.i, .string (str x.v.s), .int .i64 x.ver] 154))
      have hn1 : u3.ownBlock ≠ some wr.heap.size := by
        intro e
        have := (hown.lt _ e).2
        omega
      have HN1 := Lib.hid hn1
      have OW1 := Lib.hid own1
      clear hx hr R1 hmx hL1 hL2 hL3 e2 hown own1 hn1
      go_wp2_with fail
      refine (PT.out _).mono ?_
      rintro e w2 ⟨t2, rfl, r2, -, g2⟩
      have q2 := (g2.block _ (lt_of_block q1)).trans q1
      obtain ⟨d0, d1, d2, d3, d4, dz⟩ := block_cells5 q2
      have B2 := chain B1 g2
      have hn2 := HN1.out
      have own2 := own_keep OW1.out g2
      clear g2 q1
      go_wp2_with (at_builtin; refine wpList_app_rdb w rfl (.tmp 16) (.tmp 19) 115 rfl w.heap.size 5 i0 (.int .u8 0) 1 Tryz.underlying115 hi hz0 hz1 hz2 rfl _ _ _ rfl own2 _ L1 rfl r2 (by unfold maxLen; omega) (by omega) (Nat.le_refl _) B2 wr.heap.size _ q2 hn2 ?_; intro v3 w3 own3 B3 q3 hn3; have OW3 := Lib.hid own3; have HN3 := Lib.hid hn3; clear own3 hn3; obtain ⟨d0, d1, d2, d3, d4, dz⟩ := block_cells5 q3)
      clear own2 q2 r2 hn2
      go_wp2_with fail
      refine (EN.out _).mono ?_
      rintro e w4 ⟨t4, rfl, r4, -, g4⟩
      have q4 := (g4.block _ (lt_of_block q3)).trans q3
      obtain ⟨d0, d1, d2, d3, d4, dz⟩ := block_cells5 q4
      have B4 := chain B3 g4
      have hn4 := HN3.out
      have own4 := own_keep OW3.out g4
      clear g4 q3
      go_wp2_with (at_builtin; refine wpList_app_rdb w rfl (.tmp 21) (.tmp 24) 115 rfl w.heap.size 5 i0 (.int .u8 0) 1 Tryz.underlying115 hi hz0 hz1 hz2 rfl _ (acc.length + L1.length) _ rfl own4 _ L2 rfl r4 (by unfold maxLen; omega) (by omega) (Nat.le_refl _) B4 wr.heap.size _ q4 hn4 ?_; intro v5 w5 own5 B5 q5 hn5; have OW5 := Lib.hid own5; have HN5 := Lib.hid hn5; clear own5 hn5; obtain ⟨d0, d1, d2, d3, d4, dz⟩ := block_cells5 q5)
      clear own4 q4 r4 hn4
      go_wp2_with fail
      refine (PV.out _).mono ?_
      rintro e w6 ⟨t6, rfl, o6, g6⟩
      have r6 := own_rd' o6
      have q6 := (g6.block _ (lt_of_block q5)).trans q5
      obtain ⟨d0, d1, d2, d3, d4, dz⟩ := block_cells5 q6
      have B6 := chain B5 g6
      have hn6 := HN5.out
      have own6 := own_keep OW5.out g6
      clear g6 q5
      go_wp2_with (at_builtin; refine wpList_app_rdb w rfl (.tmp 26) (.tmp 30) 115 rfl w.heap.size 5 i0 (.int .u8 0) 1 Tryz.underlying115 hi hz0 hz1 hz2 rfl _ (acc.length + L1.length + L2.length) _ rfl own6 _ L3 rfl r6 (by unfold maxLen; omega) (by omega) (Nat.le_refl _) B6 wr.heap.size _ q6 hn6 ?_; intro v7 w7 own7 B7 q7 hn7; have OW7 := Lib.hid own7; have HN7 := Lib.hid hn7; clear own7 hn7; obtain ⟨d0, d1, d2, d3, d4, dz⟩ := block_cells5 q7)
      exact ⟨⟨j + 1, acc ++ L1 ++ L2 ++ L3, by omega, by push_cast; rfl, by simp only [List.length_append]; omega, HA2, by have h := OW7.out; simpa [List.length_append, Nat.add_assoc] using h, B7⟩, by simp [intOf]; omega⟩
    · obtain rfl : j = n := by omega
      have E := Lib.hid (show R = acc by rw [HR.out, HA.out, HN.out, List.take_length]; rfl)
      go_wp2_with fail
      go_ret
      have e := E.out
      subst e
      exact ⟨_, rfl, hown, bel⟩
end Go.Proofs.YtoagdmglchccnaaGreatDoor
