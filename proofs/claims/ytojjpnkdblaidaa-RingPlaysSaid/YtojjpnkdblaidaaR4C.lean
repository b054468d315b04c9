/- Say, by the ring. Written by wip/tools/gen4c.py. -/
import Derived.Test.YtojjpnkdblaidaaR4B
import Derived.Test.YtojjpnkdblaidaaRegV
import Derived.Maps.AppendAt
namespace Go.Proofs.Ytojjpnkdblaidaa
open Go Go.RowKit Go.Maps
set_option linter.unusedVariables false
set_option linter.unusedSimpArgs false
theorem op_app_at {P : Program} {w : World} {o : Oper} {a : Act} {K : Act → World → Prop} {Q : Exit → Act → World → Prop} (s x : Operand) (t : TypeId)
    (ho : o.op = .call { callee := .builtin .append, args := #[s, x], argTypes := #[t, t] })
    (base : Nat) (e : TypeId) (i : TypeInfo) (z : Value) (size bytes : Nat) (ht : P.underlying t = some (.slice e)) (hi : P.info? e = some i) (hz : i.zero = some z)
    (hsize : i.size = size) (hby : i.bytes = bytes) (hzs : z.cells.size = size) (hsz : 0 < size)
    (v : Value) (n : Nat) (xs : List Value) (hs : a.eval s = v) (hown : w.ownsRow base e size v n xs)
    (ad : Addr) (m c : Nat) (news : List Value) (hx : a.eval x = .slice (some ad) m c) (hl : news.length = m * size) (hnews : ∀ j u, news[j]? = some u → w.cell? (ad.add j) = some u) (h1 : ∀ u ∈ news, u.oneCell' = true)
    (h63 : n + m ≤ maxLen) (hbytes : (n + m) * bytes ≤ 140737488355328) (hbase : base ≤ w.heap.size)
    (h : ∀ v' w', w'.ownsRow base e size v' (n + m) (xs ++ news) → w.grownBy w' v.ownBlock → (v'.ownBlock = v.ownBlock ∨ v'.ownBlock = some w.heap.size) → K (a.put o.dst v') w') : o.wp P a w K Q := by
  obtain ⟨v', w', hr, h2, h3, h4, h5⟩ := run_append_own_at (P := P) w base t o.type e i z size bytes ht hi hz hsize hby hzs hsz v n xs hown ad m c news hl hnews h1 h63 hbytes hbase
  unfold Oper.wp execOp
  simp only [ho, resolve, invoke, builtin, Sem.run_bind, Sem.run_pure, Result.andThen_ok, List.map_toArray, List.map_cons, List.map_nil, hs, hx, hr]
  exact h v' w' h2 h3 h5
/-- What turned is among the blocks own. -/
structure Trn (own : Nat → Prop) (w w' : World) : Prop where
  os : w'.os = w.os
  tape : w'.tape = w.tape
  output : w'.output = w.output
  size : w.heap.size ≤ w'.heap.size
  block : ∀ k, k < w.heap.size → ¬ own k → w'.heap[k]? = w.heap[k]?
theorem Trn.refl (own : Nat → Prop) (w : World) : Trn own w w := ⟨rfl, rfl, rfl, Nat.le_refl _, fun _ _ _ => rfl⟩
theorem Trn.below {own : Nat → Prop} {w w1 w2 : World} (h : Trn own w w1) (g : Below w1.heap.size w1 w2) : Trn own w w2 :=
  ⟨g.os.trans h.os, g.tape.trans h.tape, g.output.trans h.output, Nat.le_trans h.size g.size, fun k hk hn => (g.block k (Nat.lt_of_lt_of_le hk h.size)).trans (h.block k hk hn)⟩
theorem Trn.grown {own : Nat → Prop} {w w1 w2 : World} {r : Option Nat} (h : Trn own w w1) (g : w1.grownBy w2 r) (hr : ∀ k, r = some k → own k) : Trn own w w2 :=
  ⟨g.os.trans h.os, g.tape.trans h.tape, g.output.trans h.output, Nat.le_trans h.size g.size, fun k hk hn => (g.block k (Nat.lt_of_lt_of_le hk h.size) (fun e => hn (hr k e.symm))).trans (h.block k hk hn)⟩
theorem Trn.of_below {own : Nat → Prop} {w w1 : World} (g : Below w.heap.size w w1) : Trn own w w1 := (Trn.refl own w).below g
/-- The blocks of a ring. -/
def ownR (B M : Nat) (sv : Value) (k : Nat) : Prop := k = B ∨ k = M ∨ sv.ownBlock = some k
def SaidP (w : World) (base B M n : Nat) (bad : Nat → Bool) (sv : Value) (err : Int) (L' : List St) (e : Ending) (w' : World) : Prop :=
  e = .returned (.int .i64 err) ∧ ∃ sv', RG w' base B M n bad sv' L' ∧ Trn (ownR B M sv) w w' ∧ ∀ k, sv'.ownBlock = some k → sv.ownBlock = some k ∨ w.heap.size ≤ k
theorem st_info : (Try.prog.info? 39).map (fun i => (i.zero, i.size, i.bytes)) = some (some (.agg #[.int .i64 0, .int .i64 0, .int .i64 0, .int .i64 0, .int .i64 0]), 5, 40) := by kernel_rfl
theorem st_one (s : St) : ∀ u ∈ s.cs, u.oneCell' = true := by
  intro u hu
  simp [St.cs] at hu
  rcases hu with rfl | rfl | rfl | rfl | rfl <;> rfl
theorem cells_new (w : World) (s : St) (t : TypeId) : ∀ j u, s.cs[j]? = some u → (w.alloc (.cells #[.int .i64 s.a, .int .i64 s.b, .int .i64 s.c, .int .i64 s.d, .int .i64 s.e] t)).cell? ((⟨w.heap.size, 0, none⟩ : Addr).add j) = some u := by
  intro j u hj
  have e : (⟨w.heap.size, 0, none⟩ : Addr).add j = ⟨w.heap.size, j, none⟩ := by rw [Addr.add_lit]; simp
  rw [e, block_cell (heap_alloc_new w _), ← hj]
  simp [St.cs]
theorem int_eqb {a b : Int} (h : a = b) : (a == b) = true := by simp [h]
theorem int_neb {a b : Int} (h : a ≠ b) : (a == b) = false := by simp [h]
theorem int_eqn {a b : Int} (h : a = b) : (a != b) = false := by simp [h]
theorem int_nen {a b : Int} (h : a ≠ b) : (a != b) = true := by simp [h]
theorem RG.saidSame {w w' : World} {base B M n : Nat} {bad : Nat → Bool} {sv : Value} {L : List St} (h : RG w base B M n bad sv L) (g : Below w.heap.size w w') (err : Int) : SaidP w base B M n bad sv err L (.returned (.int .i64 err)) w' :=
  ⟨rfl, sv, h.below g, Trn.of_below g, fun k hk => .inl hk⟩
theorem say_end {w w3 w4 : World} {base B M n : Nat} {bad : Nat → Bool} {sv v4 : Value} {L L1 : List St} {s : St} {cs : Array Value} {X : Obj} (h : RG w base B M n bad sv L) (hL1 : L1 = L ++ [s]) (hwf : ∀ x ∈ L1, x.Wf) (hpar : ∀ x ∈ L1, 0 ≤ x.a ∧ x.a < n) (hlen : L.length < 1000)
    (hD : setD L1 = (setD L).put (kl s) (.agg [])) (T3 : Trn (ownR B M sv) w w3) (m3 : w3.ownsMap Try.prog 39 unitElem M (L.length + 1) ((setD L).put (kl s) (.agg []))) (g4 : (w3.drew.alloc X).grownBy w4 sv.ownBlock)
    (ro4 : w4.ownsRow base 39 5 v4 (L.length + 1) (L.flatMap St.cs ++ s.cs)) (hl4 : v4.ownBlock = sv.ownBlock ∨ v4.ownBlock = some (w3.drew.alloc X).heap.size) (hB : w4.heap[B]? = some (.cells cs 55 (0, 0))) (rc : RC cs n bad M sv) :
    SaidP w base B M n bad sv 0 L1 (.returned (.int .i64 0)) (w4.setCell ⟨B, 66, none⟩ v4) := by
  have T4 : Trn (ownR B M sv) w w4 := ((T3.below ((Below.refl _ _).drew.alloc (Nat.le_refl _) X))).grown g4 (fun k hk => .inr (.inr hk))
  have T5 : Trn (ownR B M sv) w (w4.setCell ⟨B, 66, none⟩ v4) := ⟨T4.os, T4.tape, T4.output, by simpa using T4.size, fun k hk hn => (set_old (fun e => hn (.inl e))).trans (T4.block k hk hn)⟩
  have hM4 : w4.ownsMap Try.prog 39 unitElem M (L.length + 1) ((setD L).put (kl s) (.agg [])) := by
    have hMS : some M ≠ sv.ownBlock := by
      intro e
      rcases h.row.2 with ⟨e1, e2⟩ | ⟨g, cap, cur, e1, _, e3, _⟩
      · rw [e1] at e; cases e
      · rw [e1] at e; cases e
        obtain ⟨es, clock, e4, _⟩ := h.map
        rw [e3] at e4; cases e4
    exact World.ownsMap.kept (w := w3.drew.alloc X) (World.ownsMap.alloc m3.drew X) g4 hMS
  have hMB : M ≠ B := by
    rintro rfl
    obtain ⟨es, clock, e4, _⟩ := hM4
    rw [hB] at e4; cases e4
  refine ⟨rfl, v4, ⟨h.hn, hwf, hpar, by rw [hL1, List.length_append, List.length_singleton]; omega, h.bB, h.bM, ⟨_, set_at hB, ?_⟩, ?_, ?_⟩, T5, ?_⟩
  · refine ⟨by simpa using rc.size, ?_, ?_, ?_, ?_⟩
    · rw [Array.getElem?_setIfInBounds_ne (by omega)]; exact rc.h0
    · intro p hp; rw [Array.getElem?_setIfInBounds_ne (by omega)]; exact rc.hb p hp
    · rw [Array.getElem?_setIfInBounds_ne (by omega)]; exact rc.hm
    · have := rc.size; simp [this]
  · rw [hL1, List.length_append, List.length_singleton, ← hL1, hD]
    exact hM4.setCell (by simpa using hMB) _
  · rw [hL1, List.length_append, List.length_singleton, List.flatMap_append]
    have e5 : [s].flatMap St.cs = s.cs := by simp
    rw [e5]
    refine ⟨ro4.1, ?_⟩
    rcases ro4.2 with hn | ⟨g, cap, cur, rfl, hb, hg, rest⟩
    · exact .inl hn
    · refine .inr ⟨g, cap, cur, rfl, hb, ?_, rest⟩
      rw [set_old]
      · exact hg
      · rintro rfl
        rw [hB] at hg; cases hg
  · intro k hk
    rcases hl4 with e | e
    · exact .inl (e ▸ hk)
    · rw [e] at hk; cases hk
      right
      have := T3.size
      simp; omega
set_option maxRecDepth 100000 in
theorem say_range (base B M n : Nat) (bad : Nat → Bool) (sv : Value) (L : List St) (sp : Int) (s : St) (w : World) (h : RG w base B M n bad sv L) (h1 : isB n sp = false) :
    Calls Try.prog 12 #[.pointer (some ⟨B, 0, none⟩), .int .i64 sp, s.v] w (SaidP w base B M n bad sv 4 L) := by
  have I := is_any B n sp (w.alloc (.cells #[.int .i64 s.a, .int .i64 s.b, .int .i64 s.c, .int .i64 s.d, .int .i64 s.e] 39)) (h.below ((Below.refl _ _).alloc (Nat.le_refl _) _)).cell0
  rw [h1] at I
  clear h1
  unfold St.v
  go_enter Try.func12, Try.ntmps12
  go_wp2_with (go_at_call 21; refine I.mono ?_; rintro e w' ⟨rfl, rfl⟩)
  go_ret
  exact h.saidSame ((Below.refl _ _).alloc (Nat.le_refl _) _) 4
set_option maxRecDepth 100000 in
theorem say_forged (base B M n : Nat) (bad : Nat → Bool) (sv : Value) (L : List St) (sp : Int) (s : St) (w : World) (h : RG w base B M n bad sv L) (h1 : isB n sp = true) (h2 : s.a ≠ sp) (h3 : badB n bad sp = false ∨ badB n bad s.a = false) :
    Calls Try.prog 12 #[.pointer (some ⟨B, 0, none⟩), .int .i64 sp, s.v] w (SaidP w base B M n bad sv 19 L) := by
  have h' := h.below ((Below.refl _ _).alloc (Nat.le_refl _) (.cells #[.int .i64 s.a, .int .i64 s.b, .int .i64 s.c, .int .i64 s.d, .int .i64 s.e] 39))
  have I := is_any B n sp _ h'.cell0
  have A1 := bad_any base B M n bad sv L sp _ h'
  have A2 := bad_any base B M n bad sv L s.a _ h'
  have e1 := int_nen h2
  have e2 := int_neb h2
  rw [h1] at I
  clear h1 h2 h'
  unfold St.v
  rcases h3 with h3 | h3
  · rw [h3] at A1
    clear h3 A2
    go_enter Try.func12, Try.ntmps12
    go_wp2_with (first | (go_at_call 21; refine I.mono ?_; rintro e w' ⟨rfl, rfl⟩) | (go_at_call 15; refine A1.mono ?_; rintro e w' ⟨rfl, rfl⟩))
    go_ret
    exact h.saidSame ((Below.refl _ _).alloc (Nat.le_refl _) _) 19
  · cases h4 : badB n bad sp
    · rw [h4] at A1
      clear h3 h4 A2
      go_enter Try.func12, Try.ntmps12
      go_wp2_with (first | (go_at_call 21; refine I.mono ?_; rintro e w' ⟨rfl, rfl⟩) | (go_at_call 15; refine A1.mono ?_; rintro e w' ⟨rfl, rfl⟩))
      go_ret
      exact h.saidSame ((Below.refl _ _).alloc (Nat.le_refl _) _) 19
    · rw [h3] at A2
      rw [h4] at A1
      clear h3 h4
      go_enter Try.func12, Try.ntmps12
      go_wp2_with (first | (go_at_call 21; refine I.mono ?_; rintro e w' ⟨rfl, rfl⟩) | (go_at_call 15; with_reducible refine A1.mono ?_; rintro e w' ⟨rfl, rfl⟩) | (go_at_call 15; with_reducible refine A2.mono ?_; rintro e w' ⟨rfl, rfl⟩))
      go_ret
      exact h.saidSame ((Below.refl _ _).alloc (Nat.le_refl _) _) 19
set_option maxRecDepth 100000 in
set_option maxHeartbeats 2000000 in
theorem say_go (base B M n : Nat) (bad : Nat → Bool) (sv : Value) (L : List St) (sp : Int) (s : St) (hs : s.Wf) (w : World) (h : RG w base B M n bad sv L) (hlen : L.length < 1000) (hbw : base ≤ w.heap.size) (h1 : isB n sp = true) (h2 : s.a = sp ∨ (badB n bad sp = true ∧ badB n bad s.a = true)) :
    Calls Try.prog 12 #[.pointer (some ⟨B, 0, none⟩), .int .i64 sp, s.v] w (SaidP w base B M n bad sv 0 (if s ∈ L then L else L ++ [s])) := by
  obtain ⟨i0, hi0, hz0, hz1, hz2⟩ := info_parts st_info
  obtain ⟨W, hW⟩ : ∃ W, W = w.alloc (.cells #[.int .i64 s.a, .int .i64 s.b, .int .i64 s.c, .int .i64 s.d, .int .i64 s.e] 39) := ⟨_, rfl⟩
  have Be : Below w.heap.size w W := by rw [hW]; exact (Below.refl _ _).alloc (Nat.le_refl _) _
  have hq : W.heap[w.heap.size]? = some (.cells #[.int .i64 s.a, .int .i64 s.b, .int .i64 s.c, .int .i64 s.d, .int .i64 s.e] 39 (0, 0)) := by rw [hW]; exact heap_alloc_new _ _
  have h' := h.below Be
  have I := is_any B n sp _ h'.cell0
  rw [h1] at I
  have A1 := bad_any base B M n bad sv L sp _ h'
  have A2 := bad_any base B M n bad sv L s.a _ h'
  have Hh := has_any base B M n bad sv L s hs _ h'
  have e5 : ((L.length : Int) == 65536) = false := int_neb (by omega)
  have HS := Lib.hid hs
  have c0 := cells5 hq
  unfold St.v at Hh
  unfold St.v
  have key : ∀ (Q : Prop → Prop), True := fun _ => trivial
  by_cases hm : s ∈ L
  · rw [if_pos hm]
    rw [show decide (s ∈ L) = true from by simpa using hm] at Hh
    have fin := fun w' (g : Below W.heap.size W w') => h.saidSame (chain Be g) 0
    clear h1 h h' hs hm
    rcases h2 with h2 | ⟨h2, h3⟩
    · have e1 := int_eqn h2
      have e2 := int_eqb h2
      clear h2 A1 A2
      go_enter Try.func12, Try.ntmps12
      go_wp2_with ((try rw [← hW]); (first | (go_at_call 21; refine I.mono ?_; rintro e w' ⟨rfl, rfl⟩) | (go_at_call 13; refine Hh.mono ?_; rintro e w' ⟨rfl, g⟩)))
      go_ret
      exact fin _ g
    · by_cases h4 : s.a = sp
      · have e1 := int_eqn h4
        have e2 := int_eqb h4
        clear h2 h3 h4 A1 A2
        go_enter Try.func12, Try.ntmps12
        go_wp2_with ((try rw [← hW]); (first | (go_at_call 21; refine I.mono ?_; rintro e w' ⟨rfl, rfl⟩) | (go_at_call 13; refine Hh.mono ?_; rintro e w' ⟨rfl, g⟩)))
        go_ret
        exact fin _ g
      · have e1 := int_nen h4
        have e2 := int_neb h4
        rw [h2] at A1
        rw [h3] at A2
        clear h2 h3 h4
        go_enter Try.func12, Try.ntmps12
        go_wp2_with ((try rw [← hW]); (first | (go_at_call 21; refine I.mono ?_; rintro e w' ⟨rfl, rfl⟩) | (go_at_call 13; refine Hh.mono ?_; rintro e w' ⟨rfl, g⟩) | (go_at_call 15; with_reducible refine A1.mono ?_; rintro e w' ⟨rfl, rfl⟩) | (go_at_call 15; with_reducible refine A2.mono ?_; rintro e w' ⟨rfl, rfl⟩)))
        go_ret
        exact fin _ g
  · rw [if_neg hm]
    rw [show decide (s ∈ L) = false from by simpa using hm] at Hh
    have hwf2 : ∀ x ∈ L ++ [s], x.Wf := by intro x hx; rcases List.mem_append.1 hx with hx | hx; exact h.wf x hx; rw [List.mem_singleton.1 hx]; exact hs
    have hsa : 0 ≤ s.a ∧ s.a < n := by
      rcases h2 with h2 | ⟨_, h2⟩
      · rw [h2]; exact isB_iff.1 h1
      · unfold badB at h2; rw [Bool.and_eq_true] at h2; exact isB_iff.1 h2.1
    have hpar2 : ∀ x ∈ L ++ [s], 0 ≤ x.a ∧ x.a < n := by intro x hx; rcases List.mem_append.1 hx with hx | hx; exact h.par x hx; rw [List.mem_singleton.1 hx]; exact hsa
    have hflat : (L ++ [s]).flatMap St.cs = L.flatMap St.cs ++ s.cs := by simp
    have HF := Lib.hid hflat
    clear h1 hs hm hflat
    have hWs : w.heap.size < W.heap.size := lt_of_block hq
    obtain ⟨cs, hcs, rc⟩ := h.blk
    have hc6 := rc.hs
    have hBw : B < w.heap.size := lt_of_block hcs
    obtain ⟨ao, cap, hsv⟩ : ∃ ao cap, sv = .slice ao L.length cap := by
      rcases h.row.2 with ⟨e1, e2⟩ | ⟨g, cap, cur, e1, _⟩
      · exact ⟨none, 0, by rw [e1, e2]⟩
      · exact ⟨_, cap, e1⟩
    have hne : some B ≠ sv.ownBlock := by
      intro e
      rcases h.row.2 with ⟨e1, e2⟩ | ⟨g, cap, cur, e1, _, e3, _⟩
      · rw [e1] at e; cases e
      · rw [e1] at e; cases e; rw [hcs] at e3; cases e3
    have hMB : some B ≠ some M := by
      intro e
      cases e
      obtain ⟨es, clock, e3, _⟩ := h.map
      rw [hcs] at e3; cases e3
    have hMS : sv.ownBlock ≠ some M := by
      intro e
      rcases h.row.2 with ⟨e1, e2⟩ | ⟨g, cap, cur, e1, _, e3, _⟩
      · rw [e1] at e; cases e
      · rw [e1] at e; cases e
        obtain ⟨es, clock, e4, _⟩ := h.map
        rw [e3] at e4; cases e4
    have hnq : some w.heap.size ≠ sv.ownBlock := fun e => by have := (h.row.lt _ e.symm).2; omega
    have hqM : some w.heap.size ≠ some M := fun e => by
      cases e
      obtain ⟨es, clock, e4, _⟩ := h.map
      have := lt_of_block e4; omega
    have h0 := h
    rw [hsv] at h0
    obtain ⟨L1, hL1⟩ : ∃ L1, L1 = L ++ [s] := ⟨_, rfl⟩
    rw [← hL1] at hwf2 hpar2 ⊢
    have HL1 := Lib.hid hL1
    have HWF := Lib.hid hwf2
    have HPAR := Lib.hid hpar2
    rw [hsv] at rc
    have HRC := Lib.hid rc
    have hD := setD_snoc L s
    rw [← hL1] at hD
    have HD := Lib.hid hD
    clear hL1 hwf2 hpar2 hsa rc hD
    rcases h2 with h2 | ⟨h2, h3⟩
    · have e1 := int_eqn h2
      have e2 := int_eqb h2
      clear h2 A1 A2
      go_enter Try.func12, Try.ntmps12
      go_wp2_with ((try rw [← hW]); (first | (go_at_call 21; refine I.mono ?_; rintro e w1 ⟨rfl, rfl⟩)))
      try rw [← hW]
      refine Hh.mono ?_
      rintro e w2 ⟨rfl, g⟩
      have h2 := h'.below g
      have c66 := h2.cells
      rw [hsv] at c66
      have hq2 := (g.block _ (lt_of_block hq)).trans hq
      have lq2 := lt_of_block hq2
      go_wp2_with fail
      refine t_start 6 (by kernel_rfl) ?_
      refine t_take (i := 0) (d := (some 40)) (v := ?_) rfl rfl (by kernel_rfl) (fun _ _ _ h => h) (by rfl) (fun w' hb' => ?_) ?_
      rotate_left
      · (try go_simp); (try with_reducible rfl)
      try simp only [Act.put, List.setIfInBounds_toArray, List.set_cons_zero, List.set_cons_succ]
      refine t_take (i := 1) (d := (some 41)) (v := ?_) rfl rfl (by kernel_rfl) (fun _ _ _ h => h) (by rfl) (fun w' hb' => ?_) ?_
      rotate_left
      · (try go_simp); (try with_reducible rfl)
      try simp only [Act.put, List.setIfInBounds_toArray, List.set_cons_zero, List.set_cons_succ]
      refine t_take (i := 2) (d := (some 42)) (v := ?_) rfl rfl (by kernel_rfl) (fun _ _ _ h => h) (by rfl) (fun w' hb' => ?_) ?_
      rotate_left
      · (try go_simp); (try with_reducible rfl)
      try simp only [Act.put, List.setIfInBounds_toArray, List.set_cons_zero, List.set_cons_succ]
      refine t_take (i := 3) (d := (some 43)) (v := ?_) rfl rfl (by kernel_rfl) (fun _ _ _ h => h) (by rfl) (fun w' hb' => ?_) ?_
      rotate_left
      · have hc := (h2.below (chain (Below.refl _ _).drew hb')).cellm; (try go_simp); (try with_reducible rfl)
      try simp only [Act.put, List.setIfInBounds_toArray, List.set_cons_zero, List.set_cons_succ]
      refine t_take (i := 4) (d := (some 44)) (v := ?_) rfl rfl (by kernel_rfl) (fun _ _ _ h => h) (by rfl) (fun w' hb' => ?_) ?_
      rotate_left
      · have hc := cells5 ((hb'.block _ lq2).trans hq2); (try go_simp); (try with_reducible rfl)
      try simp only [Act.put, List.setIfInBounds_toArray, List.set_cons_zero, List.set_cons_succ]
      refine t_run (i := 5) rfl (by kernel_rfl) (by kernel_rfl) (by rfl) (fun K hK => ?_)
      go_simp; refine hK _ _ ⟨Below.refl _ _, ?_⟩; clear hK K
      try simp only [Act.put, List.setIfInBounds_toArray, List.set_cons_zero, List.set_cons_succ]
      refine t_last (i := 6) rfl (by kernel_rfl) (by kernel_rfl) (by kernel_rfl) (by rfl) (fun K hK => ?_)
      obtain ⟨w3, hrun, m3, t3⟩ := h2.map.drew.store law Try.underlying52 (by unfold maxLen; omega) (key_st s HS.out) unitElem_mk; unfold St.v at hrun; go_simp; refine hK _ _ ?_; clear hK K hrun
      go_wp2_with fail
      have g3 := t3.grown
      have hB3 : w3.heap[B]? = some (.cells cs 55 (0, 0)) := (g3.block B (by have := lt_of_block hq2; simp; omega) hMB).trans ((g.block B (by omega)).trans ((Be.block B hBw).trans hcs))
      have hq3 : w3.heap[w.heap.size]? = some (.cells #[.int .i64 s.a, .int .i64 s.b, .int .i64 s.c, .int .i64 s.d, .int .i64 s.e] 39 (0, 0)) := (g3.block _ (by simp; exact lt_of_block hq2) hqM).trans hq2
      have ro3 : w3.drew.ownsRow base 39 5 sv L.length (L.flatMap St.cs) := World.ownsRow.kept (w := w2.drew) (w' := w3) (row := some M) h2.row g3 (.inr hMS)
      have lq3 := lt_of_block hq3
      have T3 : Trn (ownR B M sv) w w3 := (Trn.of_below (chain Be g)).grown (w2 := w3) (w1 := w2) (r := some M) ⟨g3.os, g3.tape, g3.output, g3.size, g3.block⟩ (fun k hk => .inr (.inl (by cases hk; rfl)))
      rw [hsv] at ro3 hc6 hne hnq T3
      refine v_start 10 (fun w' => w'.heap[B]? = some (.cells cs 55 (0, 0)) ∧ w'.heap[w.heap.size]? = some (.cells #[.int .i64 s.a, .int .i64 s.b, .int .i64 s.c, .int .i64 s.d, .int .i64 s.e] 39 (0, 0))) (by kernel_rfl) ?_
      refine v_take (i := 0) (d := (some 46)) (v := ?_) rfl rfl (by kernel_rfl) (fun _ _ _ h => h) (by rfl) (by first | exact ⟨hB3, hq3⟩ | exact ⟨B4, by first | assumption | exact (g4.block _ (by simp; have := lt_of_block hq3; omega) hnq).trans ((heap_alloc_old _ _ (lt_of_block hq3)).trans hq3)⟩) (fun w' hb' => ?_) ?_
      rotate_left
      · (try go_simp); (try with_reducible rfl)
      try simp only [Act.put, List.setIfInBounds_toArray, List.set_cons_zero, List.set_cons_succ]
      refine v_take (i := 1) (d := (some 47)) (v := ?_) rfl rfl (by kernel_rfl) (fun _ _ _ h => h) (by rfl) (by first | exact ⟨hB3, hq3⟩ | exact ⟨B4, by first | assumption | exact (g4.block _ (by simp; have := lt_of_block hq3; omega) hnq).trans ((heap_alloc_old _ _ (lt_of_block hq3)).trans hq3)⟩) (fun w' hb' => ?_) ?_
      rotate_left
      · (try go_simp); (try with_reducible rfl)
      try simp only [Act.put, List.setIfInBounds_toArray, List.set_cons_zero, List.set_cons_succ]
      refine v_take (i := 2) (d := (some 48)) (v := ?_) rfl rfl (by kernel_rfl) (fun _ _ _ h => h) (by rfl) (by first | exact ⟨hB3, hq3⟩ | exact ⟨B4, by first | assumption | exact (g4.block _ (by simp; have := lt_of_block hq3; omega) hnq).trans ((heap_alloc_old _ _ (lt_of_block hq3)).trans hq3)⟩) (fun w' hb' => ?_) ?_
      rotate_left
      · (try go_simp); (try with_reducible rfl)
      try simp only [Act.put, List.setIfInBounds_toArray, List.set_cons_zero, List.set_cons_succ]
      refine v_take (i := 3) (d := (some 49)) (v := ?_) rfl rfl (by kernel_rfl) (fun _ _ _ h => h) (by rfl) (by first | exact ⟨hB3, hq3⟩ | exact ⟨B4, by first | assumption | exact (g4.block _ (by simp; have := lt_of_block hq3; omega) hnq).trans ((heap_alloc_old _ _ (lt_of_block hq3)).trans hq3)⟩) (fun w' hb' => ?_) ?_
      rotate_left
      · (try go_simp); (try with_reducible rfl)
      try simp only [Act.put, List.setIfInBounds_toArray, List.set_cons_zero, List.set_cons_succ]
      refine v_take (i := 4) (d := (some 50)) (v := ?_) rfl rfl (by kernel_rfl) (fun _ _ _ h => h) (by rfl) (by first | exact ⟨hB3, hq3⟩ | exact ⟨B4, by first | assumption | exact (g4.block _ (by simp; have := lt_of_block hq3; omega) hnq).trans ((heap_alloc_old _ _ (lt_of_block hq3)).trans hq3)⟩) (fun w' hb' => ?_) ?_
      rotate_left
      · have hc := (block_cell hb'.1 66).trans hc6; (try go_simp); (try with_reducible rfl)
      try simp only [Act.put, List.setIfInBounds_toArray, List.set_cons_zero, List.set_cons_succ]
      refine v_take (i := 5) (d := (some 51)) (v := ?_) rfl rfl (by kernel_rfl) (fun _ _ _ h => h) (by rfl) (by first | exact ⟨hB3, hq3⟩ | exact ⟨B4, by first | assumption | exact (g4.block _ (by simp; have := lt_of_block hq3; omega) hnq).trans ((heap_alloc_old _ _ (lt_of_block hq3)).trans hq3)⟩) (fun w' hb' => ?_) ?_
      rotate_left
      · have hc := cells5 hb'.2; (try go_simp); (try with_reducible rfl)
      try simp only [Act.put, List.setIfInBounds_toArray, List.set_cons_zero, List.set_cons_succ]
      refine v_run (i := 6) rfl (by kernel_rfl) (by kernel_rfl) (by rfl) (fun K hK => ?_)
      go_simp; refine hK _ _ ⟨⟨(heap_alloc_old _ _ (lt_of_block hB3)).trans hB3, (heap_alloc_old _ _ (lt_of_block hq3)).trans hq3⟩, ?_⟩; clear hK K
      try simp only [Act.put, List.setIfInBounds_toArray, List.set_cons_zero, List.set_cons_succ]
      refine v_run (i := 7) rfl (by kernel_rfl) (by kernel_rfl) (by rfl) (fun K hK => ?_)
      refine op_app_at (.tmp 50) (.tmp 52) 25 rfl base 39 i0 (.agg #[.int .i64 0, .int .i64 0, .int .i64 0, .int .i64 0, .int .i64 0]) 5 40 Try.underlying25 hi0 hz0 hz1 hz2 rfl (by decide) _ L.length (L.flatMap St.cs) rfl (ro3.alloc _) ⟨w3.heap.size, 0, none⟩ 1 1 s.cs rfl rfl (cells_new _ s _) (st_one s) (by unfold maxLen; omega) (by omega) (by simp; omega) ?_
      intro v4 w4 ro4 g4 hl4
      obtain ⟨b4, cap4, rfl, _, _⟩ := slice_of_own ro4 (by omega)
      have B4 := (g4.block B (by simp; have := lt_of_block hB3; omega) hne).trans ((heap_alloc_old _ _ (lt_of_block hB3)).trans hB3)
      refine hK _ _ ⟨⟨B4, (g4.block _ (by simp; have := lt_of_block hq3; omega) hnq).trans ((heap_alloc_old _ _ (lt_of_block hq3)).trans hq3)⟩, ?_⟩
      clear hK K
      try simp only [Act.put, List.setIfInBounds_toArray, List.set_cons_zero, List.set_cons_succ]
      refine v_take (i := 8) (d := (some 54)) (v := ?_) rfl rfl (by kernel_rfl) (fun _ _ _ h => h) (by rfl) (by first | exact ⟨hB3, hq3⟩ | exact ⟨B4, by first | assumption | exact (g4.block _ (by simp; have := lt_of_block hq3; omega) hnq).trans ((heap_alloc_old _ _ (lt_of_block hq3)).trans hq3)⟩) (fun w' hb' => ?_) ?_
      rotate_left
      · (try go_simp); (try with_reducible rfl)
      try simp only [Act.put, List.setIfInBounds_toArray, List.set_cons_zero, List.set_cons_succ]
      refine v_take (i := 9) (d := (some 55)) (v := ?_) rfl rfl (by kernel_rfl) (fun _ _ _ h => h) (by rfl) (by first | exact ⟨hB3, hq3⟩ | exact ⟨B4, by first | assumption | exact (g4.block _ (by simp; have := lt_of_block hq3; omega) hnq).trans ((heap_alloc_old _ _ (lt_of_block hq3)).trans hq3)⟩) (fun w' hb' => ?_) ?_
      rotate_left
      · (try go_simp); (try with_reducible rfl)
      try simp only [Act.put, List.setIfInBounds_toArray, List.set_cons_zero, List.set_cons_succ]
      refine v_last (i := 10) rfl (by kernel_rfl) (by kernel_rfl) (by kernel_rfl) (by rfl) (fun K hK => ?_)
      have hc := block_cell B4 66
      have hf := block_frozen B4 66
      rw [hc6] at hc
      go_simp
      refine hK _ _ ?_
      clear hK K
      go_wp2_with fail
      go_ret
      rw [hsv]
      exact say_end h0 HL1.out HWF.out HPAR.out hlen HD.out T3 m3 g4 ro4 hl4 B4 HRC.out
    · by_cases h4 : s.a = sp
      · have e1 := int_eqn h4
        have e2 := int_eqb h4
        clear h2 h3 h4 A1 A2
        go_enter Try.func12, Try.ntmps12
        go_wp2_with ((try rw [← hW]); (first | (go_at_call 21; refine I.mono ?_; rintro e w1 ⟨rfl, rfl⟩)))
        try rw [← hW]
        refine Hh.mono ?_
        rintro e w2 ⟨rfl, g⟩
        have h2 := h'.below g
        have c66 := h2.cells
        rw [hsv] at c66
        have hq2 := (g.block _ (lt_of_block hq)).trans hq
        have lq2 := lt_of_block hq2
        go_wp2_with fail
        refine t_start 6 (by kernel_rfl) ?_
        refine t_take (i := 0) (d := (some 40)) (v := ?_) rfl rfl (by kernel_rfl) (fun _ _ _ h => h) (by rfl) (fun w' hb' => ?_) ?_
        rotate_left
        · (try go_simp); (try with_reducible rfl)
        try simp only [Act.put, List.setIfInBounds_toArray, List.set_cons_zero, List.set_cons_succ]
        refine t_take (i := 1) (d := (some 41)) (v := ?_) rfl rfl (by kernel_rfl) (fun _ _ _ h => h) (by rfl) (fun w' hb' => ?_) ?_
        rotate_left
        · (try go_simp); (try with_reducible rfl)
        try simp only [Act.put, List.setIfInBounds_toArray, List.set_cons_zero, List.set_cons_succ]
        refine t_take (i := 2) (d := (some 42)) (v := ?_) rfl rfl (by kernel_rfl) (fun _ _ _ h => h) (by rfl) (fun w' hb' => ?_) ?_
        rotate_left
        · (try go_simp); (try with_reducible rfl)
        try simp only [Act.put, List.setIfInBounds_toArray, List.set_cons_zero, List.set_cons_succ]
        refine t_take (i := 3) (d := (some 43)) (v := ?_) rfl rfl (by kernel_rfl) (fun _ _ _ h => h) (by rfl) (fun w' hb' => ?_) ?_
        rotate_left
        · have hc := (h2.below (chain (Below.refl _ _).drew hb')).cellm; (try go_simp); (try with_reducible rfl)
        try simp only [Act.put, List.setIfInBounds_toArray, List.set_cons_zero, List.set_cons_succ]
        refine t_take (i := 4) (d := (some 44)) (v := ?_) rfl rfl (by kernel_rfl) (fun _ _ _ h => h) (by rfl) (fun w' hb' => ?_) ?_
        rotate_left
        · have hc := cells5 ((hb'.block _ lq2).trans hq2); (try go_simp); (try with_reducible rfl)
        try simp only [Act.put, List.setIfInBounds_toArray, List.set_cons_zero, List.set_cons_succ]
        refine t_run (i := 5) rfl (by kernel_rfl) (by kernel_rfl) (by rfl) (fun K hK => ?_)
        go_simp; refine hK _ _ ⟨Below.refl _ _, ?_⟩; clear hK K
        try simp only [Act.put, List.setIfInBounds_toArray, List.set_cons_zero, List.set_cons_succ]
        refine t_last (i := 6) rfl (by kernel_rfl) (by kernel_rfl) (by kernel_rfl) (by rfl) (fun K hK => ?_)
        obtain ⟨w3, hrun, m3, t3⟩ := h2.map.drew.store law Try.underlying52 (by unfold maxLen; omega) (key_st s HS.out) unitElem_mk; unfold St.v at hrun; go_simp; refine hK _ _ ?_; clear hK K hrun
        go_wp2_with fail
        have g3 := t3.grown
        have hB3 : w3.heap[B]? = some (.cells cs 55 (0, 0)) := (g3.block B (by have := lt_of_block hq2; simp; omega) hMB).trans ((g.block B (by omega)).trans ((Be.block B hBw).trans hcs))
        have hq3 : w3.heap[w.heap.size]? = some (.cells #[.int .i64 s.a, .int .i64 s.b, .int .i64 s.c, .int .i64 s.d, .int .i64 s.e] 39 (0, 0)) := (g3.block _ (by simp; exact lt_of_block hq2) hqM).trans hq2
        have ro3 : w3.drew.ownsRow base 39 5 sv L.length (L.flatMap St.cs) := World.ownsRow.kept (w := w2.drew) (w' := w3) (row := some M) h2.row g3 (.inr hMS)
        have lq3 := lt_of_block hq3
        have T3 : Trn (ownR B M sv) w w3 := (Trn.of_below (chain Be g)).grown (w2 := w3) (w1 := w2) (r := some M) ⟨g3.os, g3.tape, g3.output, g3.size, g3.block⟩ (fun k hk => .inr (.inl (by cases hk; rfl)))
        rw [hsv] at ro3 hc6 hne hnq T3
        refine v_start 10 (fun w' => w'.heap[B]? = some (.cells cs 55 (0, 0)) ∧ w'.heap[w.heap.size]? = some (.cells #[.int .i64 s.a, .int .i64 s.b, .int .i64 s.c, .int .i64 s.d, .int .i64 s.e] 39 (0, 0))) (by kernel_rfl) ?_
        refine v_take (i := 0) (d := (some 46)) (v := ?_) rfl rfl (by kernel_rfl) (fun _ _ _ h => h) (by rfl) (by first | exact ⟨hB3, hq3⟩ | exact ⟨B4, by first | assumption | exact (g4.block _ (by simp; have := lt_of_block hq3; omega) hnq).trans ((heap_alloc_old _ _ (lt_of_block hq3)).trans hq3)⟩) (fun w' hb' => ?_) ?_
        rotate_left
        · (try go_simp); (try with_reducible rfl)
        try simp only [Act.put, List.setIfInBounds_toArray, List.set_cons_zero, List.set_cons_succ]
        refine v_take (i := 1) (d := (some 47)) (v := ?_) rfl rfl (by kernel_rfl) (fun _ _ _ h => h) (by rfl) (by first | exact ⟨hB3, hq3⟩ | exact ⟨B4, by first | assumption | exact (g4.block _ (by simp; have := lt_of_block hq3; omega) hnq).trans ((heap_alloc_old _ _ (lt_of_block hq3)).trans hq3)⟩) (fun w' hb' => ?_) ?_
        rotate_left
        · (try go_simp); (try with_reducible rfl)
        try simp only [Act.put, List.setIfInBounds_toArray, List.set_cons_zero, List.set_cons_succ]
        refine v_take (i := 2) (d := (some 48)) (v := ?_) rfl rfl (by kernel_rfl) (fun _ _ _ h => h) (by rfl) (by first | exact ⟨hB3, hq3⟩ | exact ⟨B4, by first | assumption | exact (g4.block _ (by simp; have := lt_of_block hq3; omega) hnq).trans ((heap_alloc_old _ _ (lt_of_block hq3)).trans hq3)⟩) (fun w' hb' => ?_) ?_
        rotate_left
        · (try go_simp); (try with_reducible rfl)
        try simp only [Act.put, List.setIfInBounds_toArray, List.set_cons_zero, List.set_cons_succ]
        refine v_take (i := 3) (d := (some 49)) (v := ?_) rfl rfl (by kernel_rfl) (fun _ _ _ h => h) (by rfl) (by first | exact ⟨hB3, hq3⟩ | exact ⟨B4, by first | assumption | exact (g4.block _ (by simp; have := lt_of_block hq3; omega) hnq).trans ((heap_alloc_old _ _ (lt_of_block hq3)).trans hq3)⟩) (fun w' hb' => ?_) ?_
        rotate_left
        · (try go_simp); (try with_reducible rfl)
        try simp only [Act.put, List.setIfInBounds_toArray, List.set_cons_zero, List.set_cons_succ]
        refine v_take (i := 4) (d := (some 50)) (v := ?_) rfl rfl (by kernel_rfl) (fun _ _ _ h => h) (by rfl) (by first | exact ⟨hB3, hq3⟩ | exact ⟨B4, by first | assumption | exact (g4.block _ (by simp; have := lt_of_block hq3; omega) hnq).trans ((heap_alloc_old _ _ (lt_of_block hq3)).trans hq3)⟩) (fun w' hb' => ?_) ?_
        rotate_left
        · have hc := (block_cell hb'.1 66).trans hc6; (try go_simp); (try with_reducible rfl)
        try simp only [Act.put, List.setIfInBounds_toArray, List.set_cons_zero, List.set_cons_succ]
        refine v_take (i := 5) (d := (some 51)) (v := ?_) rfl rfl (by kernel_rfl) (fun _ _ _ h => h) (by rfl) (by first | exact ⟨hB3, hq3⟩ | exact ⟨B4, by first | assumption | exact (g4.block _ (by simp; have := lt_of_block hq3; omega) hnq).trans ((heap_alloc_old _ _ (lt_of_block hq3)).trans hq3)⟩) (fun w' hb' => ?_) ?_
        rotate_left
        · have hc := cells5 hb'.2; (try go_simp); (try with_reducible rfl)
        try simp only [Act.put, List.setIfInBounds_toArray, List.set_cons_zero, List.set_cons_succ]
        refine v_run (i := 6) rfl (by kernel_rfl) (by kernel_rfl) (by rfl) (fun K hK => ?_)
        go_simp; refine hK _ _ ⟨⟨(heap_alloc_old _ _ (lt_of_block hB3)).trans hB3, (heap_alloc_old _ _ (lt_of_block hq3)).trans hq3⟩, ?_⟩; clear hK K
        try simp only [Act.put, List.setIfInBounds_toArray, List.set_cons_zero, List.set_cons_succ]
        refine v_run (i := 7) rfl (by kernel_rfl) (by kernel_rfl) (by rfl) (fun K hK => ?_)
        refine op_app_at (.tmp 50) (.tmp 52) 25 rfl base 39 i0 (.agg #[.int .i64 0, .int .i64 0, .int .i64 0, .int .i64 0, .int .i64 0]) 5 40 Try.underlying25 hi0 hz0 hz1 hz2 rfl (by decide) _ L.length (L.flatMap St.cs) rfl (ro3.alloc _) ⟨w3.heap.size, 0, none⟩ 1 1 s.cs rfl rfl (cells_new _ s _) (st_one s) (by unfold maxLen; omega) (by omega) (by simp; omega) ?_
        intro v4 w4 ro4 g4 hl4
        obtain ⟨b4, cap4, rfl, _, _⟩ := slice_of_own ro4 (by omega)
        have B4 := (g4.block B (by simp; have := lt_of_block hB3; omega) hne).trans ((heap_alloc_old _ _ (lt_of_block hB3)).trans hB3)
        refine hK _ _ ⟨⟨B4, (g4.block _ (by simp; have := lt_of_block hq3; omega) hnq).trans ((heap_alloc_old _ _ (lt_of_block hq3)).trans hq3)⟩, ?_⟩
        clear hK K
        try simp only [Act.put, List.setIfInBounds_toArray, List.set_cons_zero, List.set_cons_succ]
        refine v_take (i := 8) (d := (some 54)) (v := ?_) rfl rfl (by kernel_rfl) (fun _ _ _ h => h) (by rfl) (by first | exact ⟨hB3, hq3⟩ | exact ⟨B4, by first | assumption | exact (g4.block _ (by simp; have := lt_of_block hq3; omega) hnq).trans ((heap_alloc_old _ _ (lt_of_block hq3)).trans hq3)⟩) (fun w' hb' => ?_) ?_
        rotate_left
        · (try go_simp); (try with_reducible rfl)
        try simp only [Act.put, List.setIfInBounds_toArray, List.set_cons_zero, List.set_cons_succ]
        refine v_take (i := 9) (d := (some 55)) (v := ?_) rfl rfl (by kernel_rfl) (fun _ _ _ h => h) (by rfl) (by first | exact ⟨hB3, hq3⟩ | exact ⟨B4, by first | assumption | exact (g4.block _ (by simp; have := lt_of_block hq3; omega) hnq).trans ((heap_alloc_old _ _ (lt_of_block hq3)).trans hq3)⟩) (fun w' hb' => ?_) ?_
        rotate_left
        · (try go_simp); (try with_reducible rfl)
        try simp only [Act.put, List.setIfInBounds_toArray, List.set_cons_zero, List.set_cons_succ]
        refine v_last (i := 10) rfl (by kernel_rfl) (by kernel_rfl) (by kernel_rfl) (by rfl) (fun K hK => ?_)
        have hc := block_cell B4 66
        have hf := block_frozen B4 66
        rw [hc6] at hc
        go_simp
        refine hK _ _ ?_
        clear hK K
        go_wp2_with fail
        go_ret
        rw [hsv]
        exact say_end h0 HL1.out HWF.out HPAR.out hlen HD.out T3 m3 g4 ro4 hl4 B4 HRC.out
      · have e1 := int_nen h4
        have e2 := int_neb h4
        rw [h2] at A1
        rw [h3] at A2
        clear h2 h3 h4
        go_enter Try.func12, Try.ntmps12
        go_wp2_with ((try rw [← hW]); (first | (go_at_call 21; refine I.mono ?_; rintro e w1 ⟨rfl, rfl⟩) | (go_at_call 15; with_reducible refine A1.mono ?_; rintro e w1 ⟨rfl, rfl⟩) | (go_at_call 15; with_reducible refine A2.mono ?_; rintro e w1 ⟨rfl, rfl⟩)))
        try rw [← hW]
        refine Hh.mono ?_
        rintro e w2 ⟨rfl, g⟩
        have h2 := h'.below g
        have c66 := h2.cells
        rw [hsv] at c66
        have hq2 := (g.block _ (lt_of_block hq)).trans hq
        have lq2 := lt_of_block hq2
        go_wp2_with fail
        refine t_start 6 (by kernel_rfl) ?_
        refine t_take (i := 0) (d := (some 40)) (v := ?_) rfl rfl (by kernel_rfl) (fun _ _ _ h => h) (by rfl) (fun w' hb' => ?_) ?_
        rotate_left
        · (try go_simp); (try with_reducible rfl)
        try simp only [Act.put, List.setIfInBounds_toArray, List.set_cons_zero, List.set_cons_succ]
        refine t_take (i := 1) (d := (some 41)) (v := ?_) rfl rfl (by kernel_rfl) (fun _ _ _ h => h) (by rfl) (fun w' hb' => ?_) ?_
        rotate_left
        · (try go_simp); (try with_reducible rfl)
        try simp only [Act.put, List.setIfInBounds_toArray, List.set_cons_zero, List.set_cons_succ]
        refine t_take (i := 2) (d := (some 42)) (v := ?_) rfl rfl (by kernel_rfl) (fun _ _ _ h => h) (by rfl) (fun w' hb' => ?_) ?_
        rotate_left
        · (try go_simp); (try with_reducible rfl)
        try simp only [Act.put, List.setIfInBounds_toArray, List.set_cons_zero, List.set_cons_succ]
        refine t_take (i := 3) (d := (some 43)) (v := ?_) rfl rfl (by kernel_rfl) (fun _ _ _ h => h) (by rfl) (fun w' hb' => ?_) ?_
        rotate_left
        · have hc := (h2.below (chain (Below.refl _ _).drew hb')).cellm; (try go_simp); (try with_reducible rfl)
        try simp only [Act.put, List.setIfInBounds_toArray, List.set_cons_zero, List.set_cons_succ]
        refine t_take (i := 4) (d := (some 44)) (v := ?_) rfl rfl (by kernel_rfl) (fun _ _ _ h => h) (by rfl) (fun w' hb' => ?_) ?_
        rotate_left
        · have hc := cells5 ((hb'.block _ lq2).trans hq2); (try go_simp); (try with_reducible rfl)
        try simp only [Act.put, List.setIfInBounds_toArray, List.set_cons_zero, List.set_cons_succ]
        refine t_run (i := 5) rfl (by kernel_rfl) (by kernel_rfl) (by rfl) (fun K hK => ?_)
        go_simp; refine hK _ _ ⟨Below.refl _ _, ?_⟩; clear hK K
        try simp only [Act.put, List.setIfInBounds_toArray, List.set_cons_zero, List.set_cons_succ]
        refine t_last (i := 6) rfl (by kernel_rfl) (by kernel_rfl) (by kernel_rfl) (by rfl) (fun K hK => ?_)
        obtain ⟨w3, hrun, m3, t3⟩ := h2.map.drew.store law Try.underlying52 (by unfold maxLen; omega) (key_st s HS.out) unitElem_mk; unfold St.v at hrun; go_simp; refine hK _ _ ?_; clear hK K hrun
        go_wp2_with fail
        have g3 := t3.grown
        have hB3 : w3.heap[B]? = some (.cells cs 55 (0, 0)) := (g3.block B (by have := lt_of_block hq2; simp; omega) hMB).trans ((g.block B (by omega)).trans ((Be.block B hBw).trans hcs))
        have hq3 : w3.heap[w.heap.size]? = some (.cells #[.int .i64 s.a, .int .i64 s.b, .int .i64 s.c, .int .i64 s.d, .int .i64 s.e] 39 (0, 0)) := (g3.block _ (by simp; exact lt_of_block hq2) hqM).trans hq2
        have ro3 : w3.drew.ownsRow base 39 5 sv L.length (L.flatMap St.cs) := World.ownsRow.kept (w := w2.drew) (w' := w3) (row := some M) h2.row g3 (.inr hMS)
        have lq3 := lt_of_block hq3
        have T3 : Trn (ownR B M sv) w w3 := (Trn.of_below (chain Be g)).grown (w2 := w3) (w1 := w2) (r := some M) ⟨g3.os, g3.tape, g3.output, g3.size, g3.block⟩ (fun k hk => .inr (.inl (by cases hk; rfl)))
        rw [hsv] at ro3 hc6 hne hnq T3
        refine v_start 10 (fun w' => w'.heap[B]? = some (.cells cs 55 (0, 0)) ∧ w'.heap[w.heap.size]? = some (.cells #[.int .i64 s.a, .int .i64 s.b, .int .i64 s.c, .int .i64 s.d, .int .i64 s.e] 39 (0, 0))) (by kernel_rfl) ?_
        refine v_take (i := 0) (d := (some 46)) (v := ?_) rfl rfl (by kernel_rfl) (fun _ _ _ h => h) (by rfl) (by first | exact ⟨hB3, hq3⟩ | exact ⟨B4, by first | assumption | exact (g4.block _ (by simp; have := lt_of_block hq3; omega) hnq).trans ((heap_alloc_old _ _ (lt_of_block hq3)).trans hq3)⟩) (fun w' hb' => ?_) ?_
        rotate_left
        · (try go_simp); (try with_reducible rfl)
        try simp only [Act.put, List.setIfInBounds_toArray, List.set_cons_zero, List.set_cons_succ]
        refine v_take (i := 1) (d := (some 47)) (v := ?_) rfl rfl (by kernel_rfl) (fun _ _ _ h => h) (by rfl) (by first | exact ⟨hB3, hq3⟩ | exact ⟨B4, by first | assumption | exact (g4.block _ (by simp; have := lt_of_block hq3; omega) hnq).trans ((heap_alloc_old _ _ (lt_of_block hq3)).trans hq3)⟩) (fun w' hb' => ?_) ?_
        rotate_left
        · (try go_simp); (try with_reducible rfl)
        try simp only [Act.put, List.setIfInBounds_toArray, List.set_cons_zero, List.set_cons_succ]
        refine v_take (i := 2) (d := (some 48)) (v := ?_) rfl rfl (by kernel_rfl) (fun _ _ _ h => h) (by rfl) (by first | exact ⟨hB3, hq3⟩ | exact ⟨B4, by first | assumption | exact (g4.block _ (by simp; have := lt_of_block hq3; omega) hnq).trans ((heap_alloc_old _ _ (lt_of_block hq3)).trans hq3)⟩) (fun w' hb' => ?_) ?_
        rotate_left
        · (try go_simp); (try with_reducible rfl)
        try simp only [Act.put, List.setIfInBounds_toArray, List.set_cons_zero, List.set_cons_succ]
        refine v_take (i := 3) (d := (some 49)) (v := ?_) rfl rfl (by kernel_rfl) (fun _ _ _ h => h) (by rfl) (by first | exact ⟨hB3, hq3⟩ | exact ⟨B4, by first | assumption | exact (g4.block _ (by simp; have := lt_of_block hq3; omega) hnq).trans ((heap_alloc_old _ _ (lt_of_block hq3)).trans hq3)⟩) (fun w' hb' => ?_) ?_
        rotate_left
        · (try go_simp); (try with_reducible rfl)
        try simp only [Act.put, List.setIfInBounds_toArray, List.set_cons_zero, List.set_cons_succ]
        refine v_take (i := 4) (d := (some 50)) (v := ?_) rfl rfl (by kernel_rfl) (fun _ _ _ h => h) (by rfl) (by first | exact ⟨hB3, hq3⟩ | exact ⟨B4, by first | assumption | exact (g4.block _ (by simp; have := lt_of_block hq3; omega) hnq).trans ((heap_alloc_old _ _ (lt_of_block hq3)).trans hq3)⟩) (fun w' hb' => ?_) ?_
        rotate_left
        · have hc := (block_cell hb'.1 66).trans hc6; (try go_simp); (try with_reducible rfl)
        try simp only [Act.put, List.setIfInBounds_toArray, List.set_cons_zero, List.set_cons_succ]
        refine v_take (i := 5) (d := (some 51)) (v := ?_) rfl rfl (by kernel_rfl) (fun _ _ _ h => h) (by rfl) (by first | exact ⟨hB3, hq3⟩ | exact ⟨B4, by first | assumption | exact (g4.block _ (by simp; have := lt_of_block hq3; omega) hnq).trans ((heap_alloc_old _ _ (lt_of_block hq3)).trans hq3)⟩) (fun w' hb' => ?_) ?_
        rotate_left
        · have hc := cells5 hb'.2; (try go_simp); (try with_reducible rfl)
        try simp only [Act.put, List.setIfInBounds_toArray, List.set_cons_zero, List.set_cons_succ]
        refine v_run (i := 6) rfl (by kernel_rfl) (by kernel_rfl) (by rfl) (fun K hK => ?_)
        go_simp; refine hK _ _ ⟨⟨(heap_alloc_old _ _ (lt_of_block hB3)).trans hB3, (heap_alloc_old _ _ (lt_of_block hq3)).trans hq3⟩, ?_⟩; clear hK K
        try simp only [Act.put, List.setIfInBounds_toArray, List.set_cons_zero, List.set_cons_succ]
        refine v_run (i := 7) rfl (by kernel_rfl) (by kernel_rfl) (by rfl) (fun K hK => ?_)
        refine op_app_at (.tmp 50) (.tmp 52) 25 rfl base 39 i0 (.agg #[.int .i64 0, .int .i64 0, .int .i64 0, .int .i64 0, .int .i64 0]) 5 40 Try.underlying25 hi0 hz0 hz1 hz2 rfl (by decide) _ L.length (L.flatMap St.cs) rfl (ro3.alloc _) ⟨w3.heap.size, 0, none⟩ 1 1 s.cs rfl rfl (cells_new _ s _) (st_one s) (by unfold maxLen; omega) (by omega) (by simp; omega) ?_
        intro v4 w4 ro4 g4 hl4
        obtain ⟨b4, cap4, rfl, _, _⟩ := slice_of_own ro4 (by omega)
        have B4 := (g4.block B (by simp; have := lt_of_block hB3; omega) hne).trans ((heap_alloc_old _ _ (lt_of_block hB3)).trans hB3)
        refine hK _ _ ⟨⟨B4, (g4.block _ (by simp; have := lt_of_block hq3; omega) hnq).trans ((heap_alloc_old _ _ (lt_of_block hq3)).trans hq3)⟩, ?_⟩
        clear hK K
        try simp only [Act.put, List.setIfInBounds_toArray, List.set_cons_zero, List.set_cons_succ]
        refine v_take (i := 8) (d := (some 54)) (v := ?_) rfl rfl (by kernel_rfl) (fun _ _ _ h => h) (by rfl) (by first | exact ⟨hB3, hq3⟩ | exact ⟨B4, by first | assumption | exact (g4.block _ (by simp; have := lt_of_block hq3; omega) hnq).trans ((heap_alloc_old _ _ (lt_of_block hq3)).trans hq3)⟩) (fun w' hb' => ?_) ?_
        rotate_left
        · (try go_simp); (try with_reducible rfl)
        try simp only [Act.put, List.setIfInBounds_toArray, List.set_cons_zero, List.set_cons_succ]
        refine v_take (i := 9) (d := (some 55)) (v := ?_) rfl rfl (by kernel_rfl) (fun _ _ _ h => h) (by rfl) (by first | exact ⟨hB3, hq3⟩ | exact ⟨B4, by first | assumption | exact (g4.block _ (by simp; have := lt_of_block hq3; omega) hnq).trans ((heap_alloc_old _ _ (lt_of_block hq3)).trans hq3)⟩) (fun w' hb' => ?_) ?_
        rotate_left
        · (try go_simp); (try with_reducible rfl)
        try simp only [Act.put, List.setIfInBounds_toArray, List.set_cons_zero, List.set_cons_succ]
        refine v_last (i := 10) rfl (by kernel_rfl) (by kernel_rfl) (by kernel_rfl) (by rfl) (fun K hK => ?_)
        have hc := block_cell B4 66
        have hf := block_frozen B4 66
        rw [hc6] at hc
        go_simp
        refine hK _ _ ?_
        clear hK K
        go_wp2_with fail
        go_ret
        rw [hsv]
        exact say_end h0 HL1.out HWF.out HPAR.out hlen HD.out T3 m3 g4 ro4 hl4 B4 HRC.out
end Go.Proofs.Ytojjpnkdblaidaa
