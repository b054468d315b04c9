/- Choose: Choices, of changes that may be chosen from. -/
import Derived.Test.YtgmblgpfgdfnaaaQMM43
namespace Go.Proofs.Ytgmblgpfgdfnaaa
open Go Go.RowKit
set_option linter.unusedVariables false
set_option linter.unusedSimpArgs false
set_option maxRecDepth 100000
attribute [local go_sem] Oper.semAt_some

def hiF : Int → List Ce → Int
  | a, [] => a
  | a, c :: r => hiF (if a < c.sq then c.sq else a) r
theorem hiF_snoc : ∀ (l : List Ce) (a : Int) (c : Ce), hiF a (l ++ [c]) = if hiF a l < c.sq then c.sq else hiF a l
  | [], a, c => rfl
  | x :: r, a, c => hiF_snoc r _ c
/-- What the first loop of Choices keeps. -/
def InvH (M H : Nat) (w : World) (lv : Value) (low : Int) (xs : List Ce) (W : World) : Prop :=
  (W.heap[M]? = some (.cells #[lv] 48 (0, 0)) ∧ W.heap[H]? = some (.cells #[.int .i64 (hiF low xs)] 3 (0, 0))) ∧ Below M w W
theorem InvH.below {M H : Nat} {w : World} {lv : Value} {low : Int} (s : List Ce) (A B : World) (h : InvH M H w lv low s A) (b : Below A.heap.size A B) : InvH M H w lv low s B := by
  obtain ⟨⟨h0, h1⟩, hb⟩ := h
  have k : ∀ {j : Nat} {o : Obj}, A.heap[j]? = some o → B.heap[j]? = some o := fun e => (b.block _ (lt_of_block e)).trans e
  exact ⟨⟨k h0, k h1⟩, hb.trans (b.mono (by have := lt_of_block h0; omega))⟩
theorem InvH.from (M H : Nat) (w : World) (lv : Value) (low : Int) (hM : M ≤ w.heap.size) (B : Nat) (hB : M ≤ B) : OwnFrom B (InvH M H w lv low) := by
  rintro s X Y row ⟨⟨h0, h1⟩, hb⟩ hg hrow
  have k : ∀ {j : Nat} {c : Array Value} {t : TypeId} {z : Nat × Nat}, X.heap[j]? = some (.cells c t z) → Y.heap[j]? = some (.cells c t z) := fun {j c t z} e => by
    refine (hg.block j (lt_of_block e) ?_).trans e
    intro e'
    obtain ⟨_, o, ho, hc⟩ := hrow j e'.symm
    rw [e] at ho; cases ho; cases hc
  exact ⟨⟨k h0, k h1⟩, hb.grown hg (Nat.le_trans hM hb.size) fun j e => Nat.le_trans hB (hrow j e).1⟩
def chL (l : List Cg) (s : Int) : List Value := (choA s (pickO s (allC l))).toList
theorem chL_len (l : List Cg) (s : Int) : (chL l s).length = 4 := by
  unfold chL
  obtain ⟨a, t, b, h⟩ := choA_cells s (pickO s (allC l))
  rw [h]; rfl
theorem chL_one (l : List Cg) (s : Int) : ∀ u ∈ chL l s, u.oneCell' = true := by
  unfold chL
  obtain ⟨a, t, b, h⟩ := choA_cells s (pickO s (allC l))
  rw [h]
  intro u hu
  simp only [List.mem_cons, List.not_mem_nil, or_false] at hu
  rcases hu with rfl | rfl | rfl | rfl <;> rfl
theorem choice_info : (Try.prog.info? 63).map (fun i => (i.zero, i.size, i.bytes)) = some (some (.agg #[.int .i64 0, .int .i64 0, .string (str []), .bool false]), 4, 40) := by kernel_rfl
theorem op_app31_at {P : Program} {w : World} {o : Oper} {a : Act} {K : Act → World → Prop} {Q : Exit → Act → World → Prop} (s x : Operand) (t : TypeId)
    (ho : o.op = .call { callee := .builtin .append, args := #[s, x], argTypes := #[t, t] })
    (base : Nat) (e : TypeId) (i : TypeInfo) (z : Value) (size bytes : Nat) (ht : P.underlying t = some (.slice e)) (hi : P.info? e = some i) (hz : i.zero = some z)
    (hsize : i.size = size) (hby : i.bytes = bytes) (hzs : z.cells.size = size) (hsz : 0 < size)
    (v : Value) (n : Nat) (xs : List Value) (hs : a.eval s = v) (hown : w.ownsRow base e size v n xs)
    (ad : Addr) (m c : Nat) (news : List Value) (hx : a.eval x = .slice (some ad) m c) (hl : news.length = m * size) (hnews : ∀ j u, news[j]? = some u → w.cell? (ad.add j) = some u) (h1 : ∀ u ∈ news, u.oneCell' = true)
    (h63 : n + m ≤ maxLen) (hbytes : (n + m) * bytes ≤ 140737488355328) (hbase : base ≤ w.heap.size)
    (h : ∀ v' w', w'.ownsRow base e size v' (n + m) (xs ++ news) → w.grownBy w' v.ownBlock → (v'.ownBlock = v.ownBlock ∨ v'.ownBlock = some w.heap.size) → K (a.put o.dst v') w') : o.wp P a w K Q := by
  obtain ⟨v', w', hr, h2, h3, h4, h5⟩ := run_append_own_at (P := P) w base t o.type e i z size bytes ht hi hz hsize hby hzs hsz v n xs hown ad m c news hl hnews h1 h63 hbytes hbase
  unfold Oper.wp execOp
  simp only [ho, resolve, invoke, builtin, Sem.run_bind, Sem.run_pure, Result.andThen_ok, List.map_toArray, List.map_cons, List.map_nil, hs, hx, hr]
  exact h v' w' h2 h3 h5
/-- What the second loop of Choices keeps. -/
def InvO (M O D1 : Nat) (w : World) (lv : Value) (l : List Cg) (xs : List Int) (W : World) : Prop :=
  (W.heap[M]? = some (.cells #[lv] 48 (0, 0)) ∧ W.heap[D1]? = some (.deferred (some [])) ∧ O + 3 ≤ W.heap.size ∧
    ∃ v, W.heap[O]? = some (.cells #[v] 80 (0, 0)) ∧ W.ownsRow (O + 3) 63 4 v xs.length (xs.flatMap (chL l))) ∧ Below M w W
theorem InvO.from (M O D1 : Nat) (w : World) (lv : Value) (l : List Cg) (hM : M ≤ w.heap.size) (B : Nat) (hB : M ≤ B) (hD : D1 < B) : OwnFrom B (InvO M O D1 w lv l) := by
  rintro s X Y row ⟨⟨h0, h1, h2, v, h3, h4⟩, hb⟩ hg hrow
  have k : ∀ {j : Nat} {c : Array Value} {t : TypeId} {z : Nat × Nat}, X.heap[j]? = some (.cells c t z) → Y.heap[j]? = some (.cells c t z) := fun {j c t z} e => by
    refine (hg.block j (lt_of_block e) ?_).trans e
    intro e'
    obtain ⟨_, o, ho, hc⟩ := hrow j e'.symm
    rw [e] at ho; cases ho; cases hc
  refine ⟨⟨k h0, (hg.block _ (lt_of_block h1) (fun e' => by have := (hrow D1 e'.symm).1; omega)).trans h1, Nat.le_trans h2 hg.size, v, k h3, h4.kept hg ?_⟩, hb.grown hg (Nat.le_trans hM hb.size) fun j e => Nat.le_trans hB (hrow j e).1⟩
  rcases h4.2 with ⟨rfl, _⟩ | ⟨g, cap, cur, rfl, _, hgb, _⟩
  · exact .inl rfl
  · refine .inr fun e' => ?_
    obtain ⟨_, o, ho, hc⟩ := hrow g (by simpa [Value.ownBlock] using e'.symm)
    rw [hgb] at ho; cases ho; cases hc
theorem three_allocs31 (w W : World) (a b c : Obj) (hW : W = ((w.alloc a).alloc b).alloc c) :
    W.heap[w.heap.size]? = some a ∧ (W.heap[w.heap.size + 1]? = some b ∧ W.heap[w.heap.size + 1 + 1]? = some c) ∧ (∀ k, k < w.heap.size → W.heap[k]? = w.heap[k]?) ∧ W.heap.size = w.heap.size + 3 := by
  subst hW
  obtain ⟨h1, h2, h3, -⟩ := two_allocs w a b
  have n3 := heap_alloc_new ((w.alloc a).alloc b) c
  have z : ((w.alloc a).alloc b).heap.size = w.heap.size + 1 + 1 := by simp
  rw [z] at n3
  refine ⟨(heap_alloc_old _ _ (by omega)).trans h1, ⟨(heap_alloc_old _ _ (by omega)).trans h2, n3⟩, fun k hk => ?_, by simp⟩
  rw [heap_alloc_old _ _ (by omega), heap_alloc_old _ _ (by simp; omega), heap_alloc_old _ _ hk]
set_option maxHeartbeats 2000000 in
theorem choices_yes (n : Int) (l : List Cg) (v : Value) (w : World) (h : RdCg w v l) (hm : MayP n l) (N : Nat) (hN : hiF (lowZ l).1 (allC l) = (lowZ l).1 + (N : Int)) (hN64 : N ≤ 64) :
    Calls Try.prog 41 #[v, .int .i64 n] w fun e w' => (∃ v', e = .returned (.tuple #[v', .int .i64 0]) ∧ RdK 4 (chL l) w' v' (upN (lowZ l).1 N)) ∧ Below w.heap.size w w' := by
  refine (callsIn_wide (n := 7)).1 ?_
  obtain ⟨i0, hi, hz0, hz1, hz2⟩ := info_parts choice_info
  obtain ⟨Z, hZ⟩ : ∃ Z : Ending → World → Prop, Z = fun e w' => (∃ v', e = .returned (.tuple #[v', .int .i64 0]) ∧ RdK 4 (chL l) w' v' (upN (lowZ l).1 N)) ∧ Below w.heap.size w w' := ⟨_, rfl⟩
  rw [← hZ]
  have HZ := Lib.hid hZ
  clear hZ
  have h0 : 0 < l.length := by have := hm.len; have := may_n hm; omega
  have hl := lowZ_in hm
  have MY := Lib.hid (fun w' (g : Below w.heap.size w w') => choMay_yes n l v w' (h.below g (Nat.le_refl _)) hm)
  have LO0 := fun w' (g : Below w.heap.size w w') => lowest_any l v w' (h.below g (Nat.le_refl _)) h0
  have AT := Lib.hid (fun s w' (g : Below w.heap.size w w') => at_any l v s w' (h.below g (Nat.le_refl _)))
  obtain ⟨ao, cap, hv, hcl, hcm⟩ := rdcg_val h
  have HRD := Lib.hid h
  have HV := Lib.hid hv
  obtain ⟨R, hR⟩ : ∃ R, R = lowZ l := ⟨_, rfl⟩
  rw [← hR] at LO0 hl hN
  obtain ⟨ra, rb⟩ := R
  simp only at LO0 hl hN
  have HR := Lib.hid hR
  have LO := Lib.hid LO0
  obtain ⟨hl1, hl2⟩ := hl
  have HN := Lib.hid hN
  have b0 := (Below.refl w.heap.size w).alloc (Nat.le_refl _) (.cells #[v] 48)
  have q0 := heap_alloc_new w (.cells #[v] 48)
  subst hv
  have c0 := block_cell q0 0
  simp only [List.getElem?_toArray, List.getElem?_cons_zero] at c0
  clear LO0 hR h0 h hm hN
  obtain ⟨n0, hn0⟩ : ∃ n0, n0 = l.length := ⟨_, rfl⟩
  rw [← hn0] at MY AT HRD LO b0 q0 c0 hcl ⊢
  have HN0 := Lib.hid hn0
  clear hn0
  trace "T1"
  refine callsIn_of_wp_marks Try.func41 rfl trivial ?_ rfl
  trace "T2"
  simp only [Try.ntmps41, List.size_toArray, List.length_cons, List.length_nil, Nat.reduceAdd, Nat.reduceSub, Array.replicate_succ, Array.replicate_zero, List.push_toArray, List.append_toArray, List.nil_append, List.cons_append]
  gi_wp2_with (first | (refine ⟨trivial, ?_⟩; gi_at_call 43; refine (callsIn_wide.2 (MY.out _ b0)).mono ?_; rintro e w1 ⟨rfl, g1⟩; (replace q0 := (g1.block _ (lt_of_block q0)).trans q0); (replace b0 := chain b0 g1); (replace c0 := block_cell q0 0); (simp only [List.getElem?_toArray, List.getElem?_cons_zero] at c0)) | (refine ⟨trivial, ?_⟩; gi_at_call 44; refine (callsIn_wide.2 (LO.out _ b0)).mono ?_; rintro e w2 ⟨rfl, g2⟩; (replace q0 := (g2.block _ (lt_of_block q0)).trans q0); (replace b0 := chain b0 g2); (have q1 := (heap_alloc_old w2 (.cells #[.int .i64 ra] 3) (lt_of_block q0)).trans q0); (replace c0 := block_cell q1 0); (simp only [List.getElem?_toArray, List.getElem?_cons_zero] at c0)) | (refine ⟨trivial, ?_⟩; gi_at_call 56; refine (callsIn_wide.2 (certs_any ao n0 cap _)).mono ?_; rintro e w9 ⟨rfl, rfl⟩))
  -- loop 1
  have q2 : ((w2.alloc (.cells #[.int .i64 ra] 3)).alloc (.cells #[.slice ao n0 cap] 48)).heap[w.heap.size]? = some (.cells #[.slice ao n0 cap] 48 (0, 0)) := (heap_alloc_old _ _ (lt_of_block q1)).trans q1
  obtain ⟨r1, r2, r3, -⟩ := two_allocs w2 (.cells #[.int .i64 ra] 3) (.cells #[.slice ao n0 cap] 48)
  have b2 := (b0.alloc b0.size (.cells #[.int .i64 ra] 3)).alloc (Nat.le_trans b0.size (by simp)) (.cells #[.slice ao n0 cap] 48)
  have hs2 : ((w2.alloc (.cells #[.int .i64 ra] 3)).alloc (.cells #[.slice ao n0 cap] 48)).heap.size = w2.heap.size + 2 := by simp
  have hMH : w.heap.size < w2.heap.size := lt_of_block q0
  obtain ⟨W0, hW0⟩ : ∃ W, W = (w2.alloc (.cells #[.int .i64 ra] 3)).alloc (.cells #[.slice ao n0 cap] 48) := ⟨_, rfl⟩
  rw [← hW0] at q2 r1 r2 b2 hs2 ⊢
  have QS := Lib.hid hs2
  have HR0 : RdCg w (.slice ao n0 cap) l := HRD.out
  clear hW0 hs2 q0 q1 c0 b0 r3
  refine range_lawM rfl (by decide) (gf := 75) (lb := #[.pointer (some ⟨w2.heap.size + 1, 0, none⟩)]) rfl trivial (enters_of Try.func75 (by kernel_rfl) rfl) (fun _ => rfl)
    (certs_gives (7 - 1) (by decide) (w2.heap.size + 1) (.slice ao n0 cap) l w W0 HR0 b2 r2)
    (fun A B h => TwA.keeps h _) (fun h k hs => Below.trans (h hs) (k (Nat.le_trans hs (h hs).size))) (kpM_put (by rw [QS.out]; omega))
    (InvH w.heap.size w2.heap.size w (.slice ao n0 cap) ra) (fun _ _ _ => False) (InvH.from _ _ _ _ _ (Nat.le_refl _) _ (by rw [QS.out]; omega)) (fun _ _ _ _ _ h _ _ => h) (fun s A B h b => InvH.below s A B h b) (fun _ _ _ _ h _ => h)
    ⟨⟨q2, r1⟩, b2⟩
    (fun x W => { tmps := #[.slice ao n0 cap, .int .i64 n, .pointer (some ⟨w.heap.size, 0, none⟩), undef, .slice none 0 0, .int .i64 0, .int .i64 ra, .int .i64 rb, .pointer (some ⟨w2.heap.size, 0, none⟩), .pointer (some ⟨W.heap.size, 0, none⟩), undef, undef, .slice ao n0 cap, .int .i64 n, .bool true, .bool false, .tuple #[.int .i64 ra, .int .i64 rb], .slice ao n0 cap, .tuple #[.int .i64 ra, .int .i64 rb], .int .i64 ra, .int .i64 rb, .int .i64 ra, .slice ao n0 cap, .func (.func 75) #[] #[.pointer (some ⟨w2.heap.size + 1, 0, none⟩)], ceV x, undef, undef, undef, undef, undef, undef, undef, undef, undef, undef, undef, undef, undef, undef, undef], defers := [] })
    (fun x W => W.alloc (.cells #[.int .i64 x.sq, .int .i64 x.vw, .int .i64 x.tm, .string (str x.body), .slice x.vo.a x.vo.n x.vo.k] 58))
    (fun x W => (Below.refl _ W).alloc (Nat.le_refl _) _) (fun x W hs => (Below.refl _ W).alloc hs _) (fun s A B h b => InvH.below s A B h b) ?assign ?body ?done ?stop
  case assign =>
    intro l x W K hK
    obtain ⟨a, b, c, d, ⟨va, vn, vk⟩⟩ := x
    unfold ceV at hK ⊢
    simp only at hK ⊢
    gi_wp2
    exact hK
  case body =>
    rintro l pre x W X ⟨⟨h0, h1⟩, hb⟩ hlt hW hn
    have HUP := Lib.hid (hiF_snoc pre ra x)
    obtain ⟨a, b, c, d, ⟨va, vn, vk⟩⟩ := x
    unfold ceV
    simp only at hn ⊢
    obtain ⟨hi0, hhi⟩ : ∃ z, z = hiF ra pre := ⟨_, rfl⟩
    rw [← hhi] at h1
    have HHI := Lib.hid hhi
    rw [heap_alloc_new] at hn
    obtain ⟨e0, e1, e2, e3, e4, ef⟩ := block_cells5 hn
    obtain ⟨f0, ff⟩ := block_cells1 h1
    have H1 := Lib.hid h1
    have H0 := Lib.hid h0
    have HB := Lib.hid hb
    clear hn h0 h1 hb hhi
    gi_wp2_with fail
    · have hUP : hiF ra (pre ++ [⟨a, b, c, d, ⟨va, vn, vk⟩⟩]) = a := by rw [HUP.out, ← HHI.out]; exact if_pos (by omega)
      have hY : (X.setCell ⟨w2.heap.size, 0, none⟩ (.int .i64 a)).heap[w2.heap.size]? = some (.cells #[.int .i64 a] 3 (0, 0)) := by simpa using set_at (i := 0) (u := .int .i64 a) H1.out
      refine ⟨(KeepsOthers.setCell X ⟨w2.heap.size, 0, none⟩ (.int .i64 a)).from _, fun _ => (Below.refl _ _).setCell (p := ⟨w2.heap.size, 0, none⟩) (by show w.heap.size ≤ w2.heap.size; omega) _, ⟨⟨(set_old (by omega)).trans H0.out, ?_⟩, HB.out.setCell (p := ⟨w2.heap.size, 0, none⟩) (by show w.heap.size ≤ w2.heap.size; omega) _⟩⟩
      rw [hUP]; exact hY
    · have hUP : hiF ra (pre ++ [⟨a, b, c, d, ⟨va, vn, vk⟩⟩]) = hi0 := by rw [HUP.out, ← HHI.out]; exact if_neg (by omega)
      have hY : (X.setCell ⟨w2.heap.size, 0, none⟩ (.int .i64 hi0)).heap[w2.heap.size]? = some (.cells #[.int .i64 hi0] 3 (0, 0)) := by simpa using set_at (i := 0) (u := .int .i64 hi0) H1.out
      refine ⟨(KeepsOthers.setCell X ⟨w2.heap.size, 0, none⟩ (.int .i64 hi0)).from _, fun _ => (Below.refl _ _).setCell (p := ⟨w2.heap.size, 0, none⟩) (by show w.heap.size ≤ w2.heap.size; omega) _, ⟨⟨(set_old (by omega)).trans H0.out, ?_⟩, HB.out.setCell (p := ⟨w2.heap.size, 0, none⟩) (by show w.heap.size ≤ w2.heap.size; omega) _⟩⟩
      rw [hUP]; exact hY
  case done =>
    rintro D1 ys W1 hD rfl ⟨⟨h0, h1⟩, hb⟩ hK
    have hHI := HN.out
    obtain ⟨hi', hhi⟩ : ∃ z, z = hiF ra (allC l) := ⟨_, rfl⟩
    rw [← hhi] at h1 hHI
    have HD1 := Lib.hid hD
    have HK := Lib.hid hK
    have H0 := Lib.hid h0
    have H1 := Lib.hid h1
    have HB := Lib.hid hb
    have b3 := hb.alloc hb.size (.cells #[.slice none 0 0] 80)
    have p1 := (heap_alloc_old W1 (.cells #[.slice none 0 0] 80) (lt_of_block h1)).trans h1
    obtain ⟨f0, ff⟩ := block_cells1 p1
    have HHI := Lib.hid hHI
    clear hhi hHI h0 h1 hb hK hD p1
    gi_wp2_with (refine ⟨trivial, ?_⟩; gi_at_call 57; refine (callsIn_wide.2 (above_any ra hi' _)).mono ?_; rintro e w9 ⟨rfl, rfl⟩)
    have hMW : w.heap.size < W1.heap.size := lt_of_block H0.out
    obtain ⟨W, hW⟩ : ∃ W, W = ((W1.alloc (.cells #[.slice none 0 0] 80)).alloc (.cells #[.int .i64 ra] 3)).alloc (.cells #[.int .i64 hi'] 3) := ⟨_, rfl⟩
    obtain ⟨t1, t2, t3, tz⟩ := three_allocs31 W1 W _ _ _ hW
    have t0 : W.heap[w.heap.size]? = some (.cells #[.slice ao n0 cap] 48 (0, 0)) := (t3 _ hMW).trans H0.out
    have td : W.heap[D1]? = some (.deferred (some [])) := (t3 _ (lt_of_block HK.out)).trans HK.out
    have b4 : Below w.heap.size w W := by rw [hW]; exact (b3.alloc (by simp; omega) _).alloc (by simp; omega) _
    have TZ := Lib.hid tz
    have HLT := Lib.hid hMW
    have HDL := Lib.hid (lt_of_block HK.out)
    rw [← hW]
    obtain ⟨t4, t5⟩ := t2
    obtain ⟨V0, hV0⟩ : ∃ V, V = W := ⟨_, rfl⟩
    rw [← hV0] at t0 t1 t4 t5 td b4 TZ ⊢
    clear hW t3 tz b3 f0 ff hMW hV0 W
    have TD0 := Lib.hid (show D1 < V0.heap.size by rw [TZ.out]; have := HDL.out; omega)
    refine range_law rfl (by decide) (gf := 76) (lb := #[.pointer (some ⟨W1.heap.size + 1, 0, none⟩), .pointer (some ⟨W1.heap.size + 1 + 1, 0, none⟩)]) rfl trivial (enters_of Try.func76 (by kernel_rfl) rfl) (fun _ => rfl)
      (above_gives (7 - 1) (by decide) (W1.heap.size + 1) (W1.heap.size + 1 + 1) ra hi' N HHI.out hl1 (by have := HHI.out; omega) V0 t4 t5)
      (fun A B h => by rw [h]; exact KeepsFrom.refl _ _) (fun h k => Eq.trans k h) (kpH_put (by rw [TZ.out]; omega))
      (InvO w.heap.size W1.heap.size D1 w (.slice ao n0 cap) l) (fun _ _ _ => False) (InvO.from _ _ _ _ _ _ (Nat.le_refl _) _ (by rw [TZ.out]; have := HLT.out; omega) (by rw [TZ.out]; have := HDL.out; omega)) (fun _ _ _ _ _ h _ _ => h) (fun _ _ _ h e => by rw [← e]; exact h) (fun _ _ _ _ h _ => h)
      ⟨⟨t0, td, by rw [TZ.out]; exact Nat.le_refl _, _, t1, World.ownsRow_nil _ _ _ _⟩, b4⟩
      (fun x => { tmps := #[.slice ao n0 cap, .int .i64 n, .pointer (some ⟨w.heap.size, 0, none⟩), undef, .slice none 0 0, .int .i64 0, .int .i64 ra, .int .i64 rb, .pointer (some ⟨w2.heap.size, 0, none⟩), undef, .pointer (some ⟨W1.heap.size, 0, none⟩), .int .i64 x, .slice ao n0 cap, .int .i64 n, .bool true, .bool false, .tuple #[.int .i64 ra, .int .i64 rb], .slice ao n0 cap, .tuple #[.int .i64 ra, .int .i64 rb], .int .i64 ra, .int .i64 rb, .int .i64 ra, .slice ao n0 cap, .func (.func 75) #[] #[.pointer (some ⟨w2.heap.size + 1, 0, none⟩)], undef, undef, undef, undef, undef, .int .i64 ra, .int .i64 hi', .func (.func 76) #[] #[.pointer (some ⟨W1.heap.size + 1, 0, none⟩), .pointer (some ⟨W1.heap.size + 1 + 1, 0, none⟩)], .int .i64 x, undef, undef, undef, undef, undef, undef, undef], defers := [] }) ?assign2 ?body2 ?done2 ?stop2
    case assign2 =>
      intro l' x W K hK
      gi_wp2
      exact hK
    case body2 =>
      rintro l' pre x W ⟨⟨h0, hd1, hz, v, h3, hrow⟩, hbl⟩ hlt
      obtain ⟨pn, hpn⟩ : ∃ n, n = pre.length := ⟨_, rfl⟩
      rw [← hpn] at hrow hlt
      obtain ⟨va, vc, rfl⟩ := own_val hrow
      have HROW := Lib.hid hrow
      have HPN := Lib.hid (show pn < 64 by omega)
      have HPE := Lib.hid hpn
      have HSZ := Lib.hid hz
      have HD := Lib.hid hd1
      obtain ⟨a1, a2, a3, hc⟩ := choA_cells x (pickO x (allC l))
      have ATX0 := fun w' g => AT.out x w' g
      rw [hc] at ATX0
      have ATX := Lib.hid ATX0
      have HC := Lib.hid hc
      have SH : W.drew.heap[W1.heap.size]? = some (.cells #[.slice va pn vc] 80 (0, 0)) ∧ W.drew.heap[w.heap.size]? = some (.cells #[.slice ao n0 cap] 48 (0, 0)) := ⟨h3, h0⟩
      have HS0 := Lib.hid SH
      clear ATX0 hc hpn hlt hrow hz hd1 h0 h3 TZ
      gi_wp2
      refine j_start (ro := some l') 6 (fun w' => w'.heap[W1.heap.size]? = some (.cells #[.slice va pn vc] 80 (0, 0)) ∧ w'.heap[w.heap.size]? = some (.cells #[.slice ao n0 cap] 48 (0, 0))) (by rintro ⟨_, _, h⟩; exact h) (by kernel_rfl) (by kernel_rfl) ?_
      refine v_take (i := 0) (d := (some 33)) (v := ?_) rfl rfl (by kernel_rfl) (fun _ _ _ h => h) (by rfl) SH (fun w' hb' => ?_) ?_
      rotate_left
      · have z := block_cell hb'.1 0; simp only [List.getElem?_toArray, List.getElem?_cons_zero] at z; (try go_simp); (try with_reducible rfl)
      try simp only [Act.put, List.setIfInBounds_toArray, List.set_cons_zero, List.set_cons_succ]
      refine v_take (i := 1) (d := (some 34)) (v := ?_) rfl rfl (by kernel_rfl) (fun _ _ _ h => h) (by rfl) SH (fun w' hb' => ?_) ?_
      rotate_left
      · have z := block_cell hb'.2 0; simp only [List.getElem?_toArray, List.getElem?_cons_zero] at z; (try go_simp); (try with_reducible rfl)
      try simp only [Act.put, List.setIfInBounds_toArray, List.set_cons_zero, List.set_cons_succ]
      refine v_take (i := 2) (d := (some 35)) (v := ?_) rfl rfl (by kernel_rfl) (fun _ _ _ h => h) (by rfl) SH (fun w' hb' => ?_) ?_
      rotate_left
      · (try go_simp); (try with_reducible rfl)
      try simp only [Act.put, List.setIfInBounds_toArray, List.set_cons_zero, List.set_cons_succ]
      refine v_run (i := 3) rfl (by kernel_rfl) (by kernel_rfl) (by rfl) (fun K hK => ?_)
      go_simp; refine (ATX.out _ (hbl.trans (Below.drew (Below.refl _ _)))).mono ?_; rintro e w3 ⟨rfl, g3⟩
      have g4 := Below.trans (Below.drew (Below.refl W.heap.size W)) g3
      have SH2 : w3.heap[W1.heap.size]? = some (.cells #[.slice va pn vc] 80 (0, 0)) ∧ w3.heap[w.heap.size]? = some (.cells #[.slice ao n0 cap] 48 (0, 0)) := ⟨(g4.block _ (lt_of_block SH.1)).trans SH.1, (g4.block _ (lt_of_block SH.2)).trans SH.2⟩
      refine hK _ _ ⟨SH2, ?_⟩; clear hK K SH; have SH := SH2
      try simp only [Act.put, List.setIfInBounds_toArray, List.set_cons_zero, List.set_cons_succ]
      refine v_run (i := 4) rfl (by kernel_rfl) (by kernel_rfl) (by rfl) (fun K hK => ?_)
      go_simp; refine hK _ _ ⟨⟨(heap_alloc_old _ _ (lt_of_block SH.1)).trans SH.1, (heap_alloc_old _ _ (lt_of_block SH.2)).trans SH.2⟩, ?_⟩; clear hK K
      try simp only [Act.put, List.setIfInBounds_toArray, List.set_cons_zero, List.set_cons_succ]
      refine v_run (i := 5) rfl (by kernel_rfl) (by kernel_rfl) (by rfl) (fun K hK => ?_)
      have hrow3 := own_rows_below HROW.out g4
      have hne3 : ∀ C, C < W1.heap.size + 3 → some C ≠ (Value.slice va pn vc).ownBlock := fun C hC e => by have := (hrow3.lt _ e.symm).1; omega
      refine op_app31_at (.tmp 33) (.tmp 37) 80 rfl (W1.heap.size + 3) 63 i0 (.agg #[.int .i64 0, .int .i64 0, .string (str []), .bool false]) 4 40 Try.underlying80 hi hz0 hz1 hz2 rfl (by decide) (.slice va pn vc) _ _ rfl (hrow3.alloc _) ⟨w3.heap.size, 0, none⟩ 1 1 [.int .i64 x, .int .i64 a1, .string a2, .bool a3] rfl rfl ?_ ?_ ?_ ?_ ?_ ?_
      · intro j u hj
        have e : Addr.add ⟨w3.heap.size, 0, none⟩ j = ⟨w3.heap.size, j, none⟩ := by rw [Addr.add_lit, Nat.zero_add]
        rw [e, block_cell (heap_alloc_new w3 _) j]
        simpa using hj
      · intro u hu
        simp only [List.mem_cons, List.not_mem_nil, or_false] at hu
        rcases hu with rfl | rfl | rfl | rfl <;> rfl
      · have := HPN.out; unfold maxLen; omega
      · have := HPN.out; omega
      · have := HSZ.out; have := g4.size; simp; omega
      intro v4 w4 hown4 hgr4 hbl4
      have SA : w4.heap[W1.heap.size]? = some (.cells #[.slice va pn vc] 80 (0, 0)) ∧ w4.heap[w.heap.size]? = some (.cells #[.slice ao n0 cap] 48 (0, 0)) := ⟨(hgr4.block _ (by simp; exact Nat.lt_succ_of_lt (lt_of_block SH.1)) (hne3 _ (by omega))).trans ((heap_alloc_old _ _ (lt_of_block SH.1)).trans SH.1), (hgr4.block _ (by simp; exact Nat.lt_succ_of_lt (lt_of_block SH.2)) (hne3 _ (by have := HLT.out; omega))).trans ((heap_alloc_old _ _ (lt_of_block SH.2)).trans SH.2)⟩
      have SHO := SH
      obtain ⟨ra4, rc4, e4⟩ := own_val hown4
      subst e4
      refine hK _ _ ⟨SA, ?_⟩; clear hK K SH; have SH := SA
      try simp only [Act.put, List.setIfInBounds_toArray, List.set_cons_zero, List.set_cons_succ]
      refine v_last (i := 6) rfl (by kernel_rfl) (by kernel_rfl) (by kernel_rfl) (by rfl) (fun K hK => ?_)
      have z := block_cell SH.1 0; simp only [List.getElem?_toArray, List.getElem?_cons_zero] at z; have fz := block_frozen SH.1 0; go_simp; refine hK _ _ ?_; clear hK K
      gi_wp2
      have hMW := HLT.out
      have hbl3 : Below w.heap.size w w3 := chain hbl g4
      have hal : (w3.alloc (.cells #[.int .i64 x, .int .i64 a1, .string a2, .bool a3] 63)).heap.size = w3.heap.size + 1 := by simp
      have hz3 : W1.heap.size + 3 ≤ w3.heap.size := Nat.le_trans HSZ.out g4.size
      have b9 : Below w.heap.size w w4 := grown_below (hbl3.alloc hbl3.size (.cells #[.int .i64 x, .int .i64 a1, .string a2, .bool a3] 63)) (Nat.le_refl _) (own_base (hrow3.alloc (.cells #[.int .i64 x, .int .i64 a1, .string a2, .bool a3] 63)) (by omega)) hgr4
      have hsz4 : w3.heap.size + 1 ≤ w4.heap.size := by have := hgr4.size; rw [hal] at this; exact this
      have ub : ∀ k, k < W.heap.size → k ≠ W1.heap.size → some k ≠ (Value.slice va pn vc).ownBlock → (w4.setCell ⟨W1.heap.size, 0, none⟩ (.slice ra4 (pn + 1) rc4)).heap[k]? = W.heap[k]? := fun k hk h1 h2 => by
        have := g4.size
        rw [set_old h1, hgr4.block _ (by rw [hal]; omega) h2, heap_alloc_old _ _ (by omega), g4.block _ hk]
      have hdl := lt_of_block HD.out
      have nd : some D1 ≠ (Value.slice va pn vc).ownBlock := fun e => by
        rcases HROW.out.2 with ⟨e2, _⟩ | ⟨g, cap', cur, e2, _, hgb, _⟩
        · rw [e2] at e; cases e
        · rw [e2] at e
          have e9 : D1 = g := by simpa [Value.ownBlock] using e
          have := HD.out
          rw [e9, hgb] at this; cases this
      refine ⟨((KeepsFrom.of_grownBy (row := none) ⟨g4.os, g4.tape, g4.output, g4.size, fun k hk _ => g4.block k hk⟩ (fun j e => by cases e)).trans ((KeepsOthers.alloc w3 (.cells #[.int .i64 x, .int .i64 a1, .string a2, .bool a3] 63)).from _)).trans (((KeepsOthers.of_grownBy hgr4 (fun j o ej hj => ?_)).from _).trans ((KeepsOthers.setCell w4 ⟨W1.heap.size, 0, none⟩ _).from _)), ub _ (by have := HSZ.out; omega) (by omega) (hne3 _ (by omega)), ⟨⟨?_, ?_, ?_, .slice ra4 (pn + 1) rc4, ?_, ?_⟩, ?_⟩⟩
      · rcases (hrow3.alloc (.cells #[.int .i64 x, .int .i64 a1, .string a2, .bool a3] 63)).2 with ⟨e, _⟩ | ⟨g, cap', cur, e, _, hgb, _⟩
        · rw [e] at ej; cases ej
        · rw [e] at ej
          have e9 : g = j := by simpa [Value.ownBlock] using ej
          rw [← e9, hgb] at hj; cases hj; rfl
      · exact (set_old (by omega)).trans SA.2
      · by_cases hdo : D1 = W1.heap.size
        · exfalso
          have := HS0.out.1
          have h7 := HD.out
          rw [hdo] at h7
          rw [show W.drew.heap = W.heap from rfl, h7] at this
          cases this
        · exact (ub _ hdl hdo nd).trans HD.out
      · show W1.heap.size + 3 ≤ (w4.setCell ⟨W1.heap.size, 0, none⟩ (.slice ra4 (pn + 1) rc4)).heap.size
        simp; omega
      · simpa using set_at (i := 0) (u := .slice ra4 (pn + 1) rc4) SA.1
      · have hk := hown4.kept (grown_setB (i := 0) (u := .slice ra4 (pn + 1) rc4) (grown_reflB (w := w4) (r := some W1.heap.size))) (own_ne hown4 (by omega))
        have e1 : chL l x = [.int .i64 x, .int .i64 a1, .string a2, .bool a3] := by unfold chL; rw [HC.out]
        rw [List.length_append, List.length_singleton, ← HPE.out, List.flatMap_append]
        simp only [List.flatMap_cons, List.flatMap_nil, List.append_nil]
        rw [e1]; exact hk
      · exact b9.setCell (p := ⟨W1.heap.size, 0, none⟩) (by show w.heap.size ≤ W1.heap.size; omega) _
    case done2 =>
      rintro D2 ys W hD rfl ⟨⟨h0, hd1, hz, v, h3, hrow⟩, hbl⟩ hK
      obtain ⟨va, vc, rfl⟩ := own_val hrow
      have HROW := Lib.hid hrow
      have HK2 := Lib.hid hK
      have HD := Lib.hid hd1
      have HBL := Lib.hid hbl
      obtain ⟨f0, ff⟩ := block_cells1 h3
      obtain ⟨pn, hpn⟩ : ∃ n, n = (upN ra N).length := ⟨_, rfl⟩
      rw [← hpn] at f0 HROW
      have HPN := Lib.hid hpn
      clear hrow hK hd1 hbl h0 h3 hz TZ hpn
      gi_wp2
      have TD : Hid (D1 < D2) := Lib.hid (by have := TD0.out; omega)
      have hne : D1 ≠ D2 := by have := TD.out; omega
      have hd2 := (World.putObj_heap_other (w := W) (o := .deferred none) hne).trans HD.out
      refine ⟨by simp, .inl ⟨_, _, rfl, run_takeDeferred HK2.out, ?_⟩⟩
      refine ⟨by simp, .inl ⟨_, _, rfl, run_takeDeferred hd2, ?_⟩⟩
      refine ⟨_, results_tmp2 rfl _ _ _, ?_⟩
      have ha := ownsRow_putObj HROW.out (.deferred none) HK2.out rfl
      have hb := ownsRow_putObj ha (.deferred none) hd2 rfl
      have k1 := kpM_put (M := w.heap.size) (w := w) (Nat.le_refl _) W D2 _ (.deferred none) (by have := TD.out; have := HD1.out; have := b2.size; omega) HK2.out rfl rfl HBL.out.size
      have k2 := kpM_put (M := w.heap.size) (w := w) (Nat.le_refl _) _ D1 _ (.deferred none) (by have := HD1.out; have := b2.size; omega) hd2 rfl rfl (HBL.out.trans k1).size
      rw [HZ.out]
      refine ⟨⟨_, rfl, ?_⟩, (HBL.out.trans k1).trans k2⟩
      have hr := HR.out
      show RdK 4 (chL l) _ (.slice va pn vc) (upN (lowZ l).1 N)
      rw [← hr]
      have hq := HPN.out
      subst hq
      exact own_rdk (chL_len l) hb
    case stop2 =>
      rintro D c pre W _ _ h _
      exact h.elim
  case stop =>
    rintro D c pre W _ _ h _
    exact h.elim
end Go.Proofs.Ytgmblgpfgdfnaaa
