/- Leaves: Weight, the encoding of a chunk. Written by wip/tools/gen9h.py. -/
import Derived.Test.YtbdfcgffkonbiaaDoorQSN9
import Derived.Test.YtbdfcgffkonbiaaDoorQSN6
import Derived.Test.YtbdfcgffkonbiaaDoorQSN11
import Derived.Maps.AppendAt
namespace Go.Proofs.YtbdfcgffkonbiaaDoor
open Go Go.RowKit
set_option linter.unusedVariables false
set_option linter.unusedSimpArgs false
def WfI (l : List It) : Prop := ∀ x ∈ l, I64 x.v.i
def wtI (x : It) : Nat := x.key.length + (V7.encL x.v).length
def wtL (l : List It) : Nat := (l.map wtI).sum
def weightL (l : List It) : Nat := if isL l = true then wtL l else 0
theorem encL_max (a : V7.V) : (V7.encL a).length ≤ 75 := by
  unfold V7.encL
  split
  · simp
  · rename_i hm
    split
    · simp
    · split
      · have := (putL_len (zigN a.i)).2; simp; omega
      · split
        · have h3 : a.s.length ≤ 64 := by
            have h : V7.mayB a = true := by simpa using hm
            simp only [V7.mayB, decide_eq_true_eq] at h
            rcases h with ⟨_, _, h⟩ | ⟨_, _, h⟩ | ⟨_, h⟩ | ⟨_, _, h⟩
            · simp [h]
            · simp [h]
            · simp [h]
            · exact h
          have := V7.textL_len a.s h3
          simp; omega
        · simp
theorem may_key {x : It} (h : mayI x = true) : x.key.length ≤ 24 := by
  unfold mayI isB patB at h
  simp only [Bool.and_eq_true, decide_eq_true_eq] at h
  exact h.1.2.1
theorem may_ver {x : It} (h : mayI x = true) : 0 ≤ x.ver ∧ x.ver ≤ 2147483647 := by
  unfold mayI at h
  simp only [Bool.and_eq_true, decide_eq_true_eq] at h
  exact ⟨h.2.2.2.1, h.2.2.2.2⟩
theorem may_v {x : It} (h : mayI x = true) : V7.mayB x.v = true := by
  unfold mayI at h
  simp only [Bool.and_eq_true, decide_eq_true_eq] at h
  exact h.2.1
theorem wt_succ {l : List It} {j : Nat} (h : j < l.length) : wtL (l.take (j + 1)) = wtL (l.take j) + wtI l[j] := by
  unfold wtL; rw [List.take_add_one, List.getElem?_eq_getElem h, List.map_append, List.sum_append]; simp
/-- 'b = append(b, v...)' of bytes, a block of another's stays. -/
theorem wpList_app_rdb {P : Program} {ops : Array Oper} {rest : List Oper} {o : Oper} {a : Act} {Q : Exit → Act → World → Prop} {w : World} (w0 : World) (hgd : o.guard = none) (s x : Operand) (t : TypeId)
    (ho : o.op = .call { callee := .builtin .append, args := #[s, x], argTypes := #[t, t] })
    (base : Nat) (e : TypeId) (i : TypeInfo) (z : Value) (bytes : Nat) (ht : P.underlying t = some (.slice e)) (hi : P.info? e = some i) (hz : i.zero = some z)
    (hsize : i.size = 1) (hby : i.bytes = bytes) (hzs : z.cells.size = 1)
    (v : Value) (n : Nat) (xs : List Value) (hs : a.eval s = v) (hown : w.ownsRow base e 1 v n xs) (vx : Value) (l : List UInt8) (hx : a.eval x = vx) (hr : Rd w vx l)
    (h63 : n + l.length ≤ maxLen) (hbytes : (n + l.length) * bytes ≤ 140737488355328) (hbase : base ≤ w0.heap.size) (hb : Below base w0 w) (B : Nat) (o' : Obj) (hbx : w.heap[B]? = some o') (hbn : v.ownBlock ≠ some B)
    (hK : ∀ v' w', w'.ownsRow base e 1 v' (n + l.length) (xs ++ l.map bv) → Below base w0 w' → w'.heap[B]? = some o' → v'.ownBlock ≠ some B → wpList P ops Q rest (a.put o.dst v') w') :
    wpList P ops Q (o :: rest) a w := by
  obtain ⟨ao, cap, rfl, h2, h3, h4, h5⟩ := hr
  have hb1 : base ≤ w.heap.size := Nat.le_trans hbase hb.size
  cases ao with
  | none =>
    have h6 := h4 rfl
    obtain rfl : l = [] := List.eq_nil_of_length_eq_zero (by omega)
    subst h6
    exact wpList_append_own_none hgd s x t ho base e i 1 ht hi v n xs hs hown hx (hK v w (by simpa using hown) hb hbx hbn)
  | some ad =>
    refine wpList_append_own_at _ hgd s x t ho base e i z 1 bytes ht hi hz hsize hby hzs (by decide) v n xs hs hown ad l.length cap (l.map bv) hx (by simp) ?_ ?_ h63 hbytes hb1 ?_
    · intro j u hj
      have hjl : j < l.length := by have := (List.getElem?_eq_some_iff.1 hj).1; simpa using this
      obtain ⟨b, off, he, _, hc⟩ := h5 (by omega)
      cases he
      rw [Addr.add_lit, hc j hjl]
      simp [hjl] at hj
      simp [hjl, hj]
    · intro u hu
      obtain ⟨b, _, rfl⟩ := List.mem_map.1 hu
      rfl
    · intro v' w' h1 h2 _ h9
      have hlt := lt_of_block hbx
      refine hK v' w' h1 (grown_below hb hbase hown h2) ((h2.block B hlt (fun e => hbn e.symm)).trans hbx) ?_
      rcases h9 with e | e
      · rw [e]; exact hbn
      · rw [e]; intro e'; cases e'; omega
set_option maxRecDepth 100000 in
set_option maxHeartbeats 1000000 in
theorem weight_any (v : Value) (l : List It) (w : World) (tab : TabAt w) (h : RdI w v l) (hsz : SzI l) (hwf : WfI l) :
    Calls Tryd.prog 89 #[v] w fun e w' => e = .returned (.int .i64 (weightL l : Int)) ∧ Below w.heap.size w w' := by
  obtain ⟨ao, cap, rfl, hc, hm, hr⟩ := RdK.open h
  have HRD := Lib.hid (show RdI w (.slice ao l.length cap) l from hr)
  have IS0 := is9_any _ l w tab (show RdI w (.slice ao l.length cap) l from hr) hsz
  obtain ⟨R, hR⟩ : ∃ R, R = weightL l := ⟨_, rfl⟩
  rw [← hR]
  clear h hr
  cases hl : isL l with
  | false =>
    rw [hl] at IS0
    have e0 : R = 0 := by rw [hR]; unfold weightL; rw [hl]; rfl
    subst e0
    clear hR hl
    go_enter Tryd.func89, Tryd.ntmps89
    go_wp2_with fail
    refine IS0.mono ?_
    rintro e w1 ⟨rfl, g1⟩
    go_wp2_with fail
    go_ret
    exact ⟨rfl, g1⟩
  | true =>
    rw [hl] at IS0
    have h64 := isL_len hl
    have HM := Lib.hid (isL_may hl)
    have HR := Lib.hid (show R = wtL l by rw [hR]; unfold weightL; rw [hl]; rfl)
    have HS := Lib.hid hsz
    have HW := Lib.hid hwf
    clear hR hl hsz hwf
    go_enter Tryd.func89, Tryd.ntmps89
    go_wp2_with fail
    refine IS0.mono ?_
    rintro e w1 ⟨rfl, g1⟩
    clear IS0
    go_wp2_with fail
    go_loopw [3, 11] (fun z i wr => ∃ (j s : Nat), j ≤ l.length ∧ i = .int .i64 (j : Int) ∧ z = .int .i64 (s : Int) ∧ s ≤ 100 * j ∧ Hid (s = wtL (l.take j)) ∧ Below w.heap.size w wr) (fun _ i _ => 100 - (intOf i).toNat)
    case atStart => exact ⟨0, 0, Nat.zero_le _, rfl, rfl, Nat.le_refl _, rfl, g1⟩
    case round =>
      obtain ⟨j, s, hj, rfl, rfl, hs, HA, bel⟩ := hrel
      by_cases hlt : j < l.length
      · have hr := HRD.out
        have R1 := hr.below bel (Nat.le_refl _)
        obtain ⟨b, off, rfl, hb, c0, c1, c2, c3, c4⟩ := rdi_cells R1 j hlt
        obtain ⟨x, hx⟩ : ∃ x, x = l[j]'hlt := ⟨_, rfl⟩
        rw [← hx] at c0 c1 c2 c3 c4
        have hxk : x.key.length ≤ 24 := by rw [hx]; exact may_key (HM.out _ (List.getElem_mem _))
        have hxs : x.v.s.length ≤ maxLen := by rw [hx]; exact (HS.out _ (List.getElem_mem _)).2
        have hxi : I64 x.v.i := by rw [hx]; exact HW.out _ (List.getElem_mem _)
        have hmx := encL_max x.v
        obtain ⟨n1, hn1⟩ : ∃ n1, n1 = x.key.length := ⟨_, rfl⟩
        obtain ⟨n2, hn2⟩ : ∃ n2, n2 = (V7.encL x.v).length := ⟨_, rfl⟩
        have z1 : (str x.key).size = n1 := by rw [hn1]; exact str_size _
        have HA2 := Lib.hid (show s + (n1 + n2) = wtL (l.take (j + 1)) by rw [wt_succ hlt, ← HA.out, ← hx, hn1, hn2]; rfl)
        rw [← hn1] at hxk
        rw [← hn2] at hmx
        have EN := Lib.hid (show ∀ w, Calls Tryd.prog 113 #[.agg #[.int .i64 x.v.k, .int .i64 x.v.i, .string (str x.v.s)]] w fun e w' => ∃ ao cap, e = .returned (.slice ao n2 cap) ∧ n2 ≤ cap ∧ cap ≤ 9223372036854775807 ∧ Below w.heap.size w w' by
          intro w
          refine (V7.encode_any x.v.k x.v.i x.v.s w hxs hxi).mono ?_
          rintro e w9 ⟨v9, rfl, r9, -, b9⟩
          obtain ⟨ao9, cap9, rfl, h1, h2, -⟩ := r9
          rw [hn2]
          exact ⟨ao9, cap9, rfl, h1, by unfold maxLen at h2; omega, b9⟩)
        have E1 := Lib.hid (show IntKind.i64.wrap ((n1 : Int) + (n2 : Int)) = ((n1 + n2 : Nat) : Int) by rw [IntKind.wrap_i64]; omega)
        have E2 := Lib.hid (show IntKind.i64.wrap ((s : Int) + ((n1 + n2 : Nat) : Int)) = ((s + (n1 + n2) : Nat) : Int) by rw [IntKind.wrap_i64]; omega)
        have q8 := heap_alloc_new wr (.cells #[.string (str x.key), .int .i64 x.v.k, .int .i64 x.v.i, .string (str x.v.s), .int .i64 x.ver] 53)
        have B1 := chain bel ((Below.refl wr.heap.size wr).alloc (Nat.le_refl _) (.cells #[.string (str x.key), .int .i64 x.v.k, .int .i64 x.v.i, .string (str x.v.s), .int .i64 x.ver] 53))
        have hs2 : s + (n1 + n2) ≤ 100 * (j + 1) := by omega
        clear hx hn1 hn2 hr R1 hxs hxi
        go_wp2_with fail
        refine g_start (by kernel_rfl) ?_
        refine g_take (i := 0) (d := (some 15)) (v := ?_) rfl rfl (by kernel_rfl) (fun _ _ _ h => h) (by rfl) (fun w' hb' => ?_) ?_
        rotate_left
        · (try go_simp); (try with_reducible rfl)
        try simp only [Act.put, List.setIfInBounds_toArray, List.set_cons_zero, List.set_cons_succ]
        refine g_take (i := 1) (d := (some 16)) (v := ?_) rfl rfl (by kernel_rfl) (fun _ _ _ h => h) (by rfl) (fun w' hb' => ?_) ?_
        rotate_left
        · (try go_simp); (try with_reducible rfl)
        try simp only [Act.put, List.setIfInBounds_toArray, List.set_cons_zero, List.set_cons_succ]
        refine g_take (i := 2) (d := (some 17)) (v := ?_) rfl rfl (by kernel_rfl) (fun _ _ _ h => h) (by rfl) (fun w' hb' => ?_) ?_
        rotate_left
        · obtain ⟨d0, d1, d2, d3, d4, dz⟩ := block_cells5 ((hb'.block _ (lt_of_block q8)).trans q8); (try go_simp); (try with_reducible rfl)
        try simp only [Act.put, List.setIfInBounds_toArray, List.set_cons_zero, List.set_cons_succ]
        refine g_take (i := 3) (d := (some 18)) (v := ?_) rfl rfl (by kernel_rfl) (fun _ _ _ h => h) (by rfl) (fun w' hb' => ?_) ?_
        rotate_left
        · (try go_simp); (try with_reducible rfl)
        try simp only [Act.put, List.setIfInBounds_toArray, List.set_cons_zero, List.set_cons_succ]
        refine g_take (i := 4) (d := (some 19)) (v := ?_) rfl rfl (by kernel_rfl) (fun _ _ _ h => h) (by rfl) (fun w' hb' => ?_) ?_
        rotate_left
        · (try go_simp); (try with_reducible rfl)
        try simp only [Act.put, List.setIfInBounds_toArray, List.set_cons_zero, List.set_cons_succ]
        refine g_take (i := 5) (d := (some 20)) (v := ?_) rfl rfl (by kernel_rfl) (fun _ _ _ h => h) (by rfl) (fun w' hb' => ?_) ?_
        rotate_left
        · obtain ⟨d0, d1, d2, d3, d4, dz⟩ := block_cells5 ((hb'.block _ (lt_of_block q8)).trans q8); (try go_simp); (try with_reducible rfl)
        try simp only [Act.put, List.setIfInBounds_toArray, List.set_cons_zero, List.set_cons_succ]
        refine g_run (i := 6) rfl (by kernel_rfl) (by rfl) (fun K hK => ?_)
        go_simp; refine (EN.out _).mono ?_; rintro e w9 ⟨ao9, cap9, rfl, h91, h92, b9⟩; refine hK _ _ ⟨b9, ?_⟩; clear hK K
        try simp only [Act.put, List.setIfInBounds_toArray, List.set_cons_zero, List.set_cons_succ]
        refine g_take (i := 7) (d := (some 22)) (v := ?_) rfl rfl (by kernel_rfl) (fun _ _ _ h => h) (by rfl) (fun w' hb' => ?_) ?_
        rotate_left
        · (try go_simp); (try with_reducible rfl)
        try simp only [Act.put, List.setIfInBounds_toArray, List.set_cons_zero, List.set_cons_succ]
        refine g_take (i := 8) (d := (some 23)) (v := ?_) rfl rfl (by kernel_rfl) (fun _ _ _ h => h) (by rfl) (fun w' hb' => ?_) ?_
        rotate_left
        · have e1 := E1.out; (try go_simp); (try with_reducible rfl)
        try simp only [Act.put, List.setIfInBounds_toArray, List.set_cons_zero, List.set_cons_succ]
        refine g_take (i := 9) (d := (some 24)) (v := ?_) rfl rfl (by kernel_rfl) (fun _ _ _ h => h) (by rfl) (fun w' hb' => ?_) ?_
        rotate_left
        · have e2 := E2.out; (try go_simp); (try with_reducible rfl)
        try simp only [Act.put, List.setIfInBounds_toArray, List.set_cons_zero, List.set_cons_succ]
        refine g_take (i := 10) (d := (some 3)) (v := ?_) rfl rfl (by kernel_rfl) (fun _ _ _ h => h) (by rfl) (fun w' hb' => ?_) ?_
        rotate_left
        · (try go_simp); (try with_reducible rfl)
        try simp only [Act.put, List.setIfInBounds_toArray, List.set_cons_zero, List.set_cons_succ]
        refine g_done (by kernel_rfl) ?_
        go_wp2_with fail
        exact ⟨⟨j + 1, s + (n1 + n2), by omega, by push_cast; rfl, by have h := E2.out; push_cast at h ⊢; rw [h], hs2, HA2, chain (B1.drew) b9⟩, by simp [intOf]; omega⟩
      · obtain rfl : j = l.length := by omega
        have E := Lib.hid (show R = s by rw [HR.out, HA.out, List.take_length])
        go_wp2_with fail
        go_ret
        exact ⟨by rw [E.out]; rfl, bel⟩
/-- Bytes of one's own are read. -/
theorem own_rd' {w : World} {base : Nat} {e : TypeId} {v : Value} {l : List UInt8} (h : w.ownsRow base e 1 v l.length (l.map bv)) : Rd w v l := by
  rcases h.2 with ⟨h1, h2⟩ | ⟨g, cap, cur, h1, _⟩
  · have : l = [] := List.eq_nil_of_length_eq_zero h2
    subst this; subst h1
    exact rd_nil w
  · subst h1; exact own_rd h
def bytesI (x : It) : List UInt8 := textL x.key ++ (V7.encL x.v ++ putL x.ver.toNat)
def encC (l : List It) : List UInt8 := UInt8.ofNat l.length :: l.flatMap bytesI
theorem bytes_succ {l : List It} {j : Nat} (h : j < l.length) : (l.take (j + 1)).flatMap bytesI = (l.take j).flatMap bytesI ++ bytesI l[j] := by
  rw [List.take_add_one, List.getElem?_eq_getElem h, List.flatMap_append]; simp
theorem bv_of (n : Nat) (h : n < 256) : bv (UInt8.ofNat n) = .int .u8 (n : Int) := by
  unfold bv; rw [UInt8.toNat_ofNat']; congr 1; omega
end Go.Proofs.YtbdfcgffkonbiaaDoor
