/- Slots: slices.Insert of a vote into a list of the call's own. Written by wip/tools/gen29g.py. -/
import Derived.Test.YtgmblgpfgdfnaaaDoorQSPC13
import Derived.Shelf.Spec.SlicesInsertGrow
import Derived.Laws.CopyOwn
namespace Go.Proofs.YtgmblgpfgdfnaaaDoor
open Go Go.RowKit
set_option linter.unusedVariables false
set_option linter.unusedSimpArgs false
set_option maxRecDepth 100000
/-- 'copy(dst, src)' of elements of k cells into a row that is known. -/
theorem run_copy_rowk {P : Program} (w : World) (dT sT ty elem : TypeId) (k g o dLen dCap : Nat) (a : Addr) (sLen sCap m : Nat) (cur : List Value) (t : TypeId) (cs : List Value)
    (hu : P.underlying dT = some (.slice elem)) (hs : (P.info? elem).map (·.size) = some k)
    (hg : w.heap[g]? = some (.cells cur.toArray t (0, 0))) (hm : Nat.min sLen dLen = m) (hn : cs.length = m * k)
    (hsrc : ∀ j v, cs[j]? = some v → w.cell? (a.add j) = some v) (hfit : o + cs.length ≤ cur.length) (h1 : ∀ v ∈ cs, v.oneCell' = true) :
    (Builtin.copy_ #[dT, sT] ty #[.slice (some ⟨g, o, none⟩) dLen dCap, .slice (some a) sLen sCap]).run P w =
      .ok (goInt m) (w.setRow g (splice cur o cs).toArray) := by
  have hl := run_loadCells_list (P := P) w a cs hsrc
  have hst := run_storeCells_at P g o t cs 0 cur.toArray w hg (by simpa using hfit) h1
  cases hq : P.info? elem with
  | none => simp [hq] at hs
  | some i =>
    have hi : i.size = k := by simpa [hq] using hs
    simp [Builtin.copy_, run_underlying hu, Builtin.lenOf, Builtin.firstCells, sizeOf, typeInfo, hq, hi, hm, ← hn, hl, hst, splice]
theorem splice_get {α : Type} (L : List α) (o : Nat) (cs : List α) (h : o + cs.length ≤ L.length) (j : Nat) : (splice L o cs)[j]? = if o ≤ j ∧ j < o + cs.length then cs[j - o]? else L[j]? := by
  unfold splice
  by_cases h1 : j < o
  · rw [List.getElem?_append_left (by simp; omega), List.getElem?_take, if_pos h1, if_neg (by omega)]
  · rw [List.getElem?_append_right (by simp; omega)]
    have e : (L.take o).length = o := by simp; omega
    rw [e]
    by_cases h2 : j < o + cs.length
    · rw [List.getElem?_append_left (by omega), if_pos (by omega)]
    · rw [List.getElem?_append_right (by omega), List.getElem?_drop, if_neg (by omega)]
      congr 1; omega
theorem length_splice' {α : Type} (L : List α) (o : Nat) (cs : List α) (h : o + cs.length ≤ L.length) : (splice L o cs).length = L.length := by unfold splice; simp; omega
/-- What is inserted in place. -/
theorem splice_in {α : Type} (L cs X : List α) (n i k : Nat) (hL : L.take n = cs) (hcs : cs.length = n) (hi : i ≤ n) (hX : X.length = k) (hfit : n + k ≤ L.length) :
    (splice (splice L (i + k) (cs.drop i)) i X).take (n + k) = cs.take i ++ X ++ cs.drop i := by
  have hd : (cs.drop i).length = n - i := by simp; omega
  have h1 : (splice L (i + k) (cs.drop i)).length = L.length := length_splice' _ _ _ (by omega)
  apply List.ext_getElem?
  intro j
  rw [List.getElem?_take, splice_get _ _ _ (by omega), splice_get _ _ _ (by omega), hX, hd]
  have hLj : ∀ j, j < n → L[j]? = cs[j]? := fun j hj => by rw [← hL, List.getElem?_take, if_pos hj]
  by_cases a1 : j < i
  · rw [if_pos (by omega), if_neg (by omega), if_neg (by omega), List.append_assoc, List.getElem?_append_left (by simp; omega), List.getElem?_take, if_pos a1, hLj j (by omega)]
  · have e1 : (cs.take i).length = i := by simp; omega
    by_cases a2 : j < i + k
    · rw [if_pos (by omega), if_pos (by omega), List.append_assoc, List.getElem?_append_right (by omega), e1, List.getElem?_append_left (by omega)]
    · rw [List.append_assoc, List.getElem?_append_right (by omega), e1, List.getElem?_append_right (by omega), hX]
      by_cases a3 : j < n + k
      · rw [if_pos a3, if_neg (by omega), if_pos (by omega), show j - (i + k) = j - i - k by omega]
      · rw [if_neg a3, List.getElem?_eq_none (by omega)]
/-- What is laid anew. -/
theorem splice_new {α : Type} (L cs X : List α) (n i k : Nat) (hL : L.take i = cs.take i) (hcs : cs.length = n) (hi : i ≤ n) (hX : X.length = k) (hfit : n + k ≤ L.length) :
    (splice (splice L i X) (i + k) (cs.drop i)).take (n + k) = cs.take i ++ X ++ cs.drop i := by
  have hd : (cs.drop i).length = n - i := by simp; omega
  have h1 : (splice L i X).length = L.length := length_splice' _ _ _ (by omega)
  apply List.ext_getElem?
  intro j
  rw [List.getElem?_take, splice_get _ _ _ (by omega), splice_get _ _ _ (by omega), hX, hd]
  have hLj : ∀ j, j < i → L[j]? = cs[j]? := fun j hj => by
    have := congrArg (fun l => l[j]?) hL
    simpa [List.getElem?_take, hj] using this
  by_cases a1 : j < i
  · rw [if_pos (by omega), if_neg (by omega), if_neg (by omega), List.append_assoc, List.getElem?_append_left (by simp; omega), List.getElem?_take, if_pos a1, hLj j (by omega)]
  · have e1 : (cs.take i).length = i := by simp; omega
    by_cases a2 : j < i + k
    · rw [if_pos (by omega), if_neg (by omega), if_pos (by omega), List.append_assoc, List.getElem?_append_right (by omega), e1, List.getElem?_append_left (by omega)]
    · rw [List.append_assoc, List.getElem?_append_right (by omega), e1, List.getElem?_append_right (by omega), hX]
      by_cases a3 : j < n + k
      · rw [if_pos a3, if_pos (by omega), show j - (i + k) = j - i - k by omega]
      · rw [if_neg a3, List.getElem?_eq_none (by omega)]
theorem vote_size : ∀ w, (Go.sizeOf 26).run Tryd.prog w = .ok 3 w := by
  intro w
  obtain ⟨i, h1, h2, h3, h4⟩ := info_parts vote_info
  simp [sizeOf, typeInfo, h1, h3]
theorem insC (l : List Vt) (i : Nat) (x : Vt) : (l.take i ++ x :: l.drop i).flatMap vtC = (l.flatMap vtC).take (i * 3) ++ vtC x ++ (l.flatMap vtC).drop (i * 3) := by
  rw [List.flatMap_append, List.flatMap_cons, flat_take vtC_len, flat_drop vtC_len, List.append_assoc]
theorem ins_len {α : Type} {l : List α} {i : Nat} {x : α} (hi : i ≤ l.length) : (l.take i ++ x :: l.drop i).length = l.length + 1 := by simp; omega
/-- A list with a vote more, of the call's own; all but the elder row stays. -/
def InsT (w : World) (base : Nat) (v : Value) (l : List Vt) (e : Ending) (w' : World) : Prop := ∃ v', e = .returned v' ∧ w'.ownsRow base 26 3 v' l.length (l.flatMap vtC) ∧ w.grownBy w' v.ownBlock
/-- At the end. -/
theorem insert_end (base : Nat) (v : Value) (l : List Vt) (x : Vt) (w : World) (vb : Nat) (hown : w.ownsRow base 26 3 v l.length (l.flatMap vtC)) (hbase : base ≤ w.heap.size) (hx : w.heap[vb]? = some (.cells #[.int .i64 x.fr, .int .i64 x.vw, .int .i64 x.tm] 26 (0, 0))) (h64 : l.length ≤ 64) :
    Calls Tryd.prog 46 #[v, .int .i64 (l.length : Int), .slice (some ⟨vb, 0, none⟩) 1 1] w (InsT w base v (l ++ [x])) := by
  obtain ⟨i0, hi, hz0, hz1, hz2⟩ := info_parts vote_info
  obtain ⟨Z, hZ⟩ : ∃ Z, Z = InsT w base v (l ++ [x]) := ⟨_, rfl⟩
  rw [← hZ]
  have HZ := Lib.hid hZ
  have HC : ∀ j u, (vtC x)[j]? = some u → w.cell? ((⟨vb, 0, none⟩ : Addr).add j) = some u := fun j u hj => by
    rw [Addr.add_lit, Nat.zero_add, block_cell hx j]; simpa [vtC] using hj
  have HC := Lib.hid HC
  have HO := Lib.hid hown
  have hv := hown.2
  clear hZ hown hx
  rcases hv with ⟨rfl, hn⟩ | ⟨g, cap, cur, rfl, hbg, hg, hnc, hcm, hcs, htake⟩
  · obtain rfl : l = [] := List.eq_nil_of_length_eq_zero hn
    go_enter Tryd.func46, Tryd.ntmps46
    go_wp2_with (at_builtin; refine wpList_append_own_at _ rfl (.tmp 23) (.tmp 24) 22 rfl base 26 i0 (.agg #[.int .i64 0, .int .i64 0, .int .i64 0]) 3 24 Tryd.underlying22 hi hz0 hz1 hz2 rfl (by decide) _ _ _ rfl HO.out ⟨vb, 0, none⟩ 1 1 (vtC x) rfl rfl HC.out (vtC_one x) (by unfold maxLen; simp) (by simp) hbase ?_; intro v' w' o1 o2 o3 o4; clear o3 o4)
    show Z (.returned _) _
    rw [HZ.out]
    exact ⟨_, rfl, by simpa using o1, o2⟩
  · unfold maxLen at hcm
    have e1 : (((l.length : Nat) : Int) == ((l.length : Nat) : Int)) = true := by simp
    clear hg htake
    go_enter Tryd.func46, Tryd.ntmps46
    go_wp2_with (at_builtin; refine wpList_append_own_at _ rfl (.tmp 23) (.tmp 24) 22 rfl base 26 i0 (.agg #[.int .i64 0, .int .i64 0, .int .i64 0]) 3 24 Tryd.underlying22 hi hz0 hz1 hz2 rfl (by decide) _ _ _ rfl HO.out ⟨vb, 0, none⟩ 1 1 (vtC x) rfl rfl HC.out (vtC_one x) (by unfold maxLen; omega) (by omega) hbase ?_; intro v' w' o1 o2 o3 o4; clear o3 o4)
    all_goals
      show Z (.returned _) _
      rw [HZ.out]
      exact ⟨_, rfl, by rw [List.flatMap_append, List.length_append]; simpa using o1, o2⟩
set_option maxHeartbeats 4000000 in
/-- There is room: in place. -/
theorem insert_room (base g cap i : Nat) (l : List Vt) (x : Vt) (w : World) (vb : Nat) (hown : w.ownsRow base 26 3 (.slice (some ⟨g, 0, none⟩) l.length cap) l.length (l.flatMap vtC)) (hbase : base ≤ w.heap.size) (hvb : vb ≠ g)
    (hx : w.heap[vb]? = some (.cells #[.int .i64 x.fr, .int .i64 x.vw, .int .i64 x.tm] 26 (0, 0))) (h64 : l.length ≤ 64) (hi : i < l.length) (hroom : l.length + 1 ≤ cap) :
    Calls Tryd.prog 46 #[.slice (some ⟨g, 0, none⟩) l.length cap, .int .i64 (i : Int), .slice (some ⟨vb, 0, none⟩) 1 1] w (InsT w base (.slice (some ⟨g, 0, none⟩) l.length cap) (l.take i ++ x :: l.drop i)) := by
  obtain ⟨i0, hi0, hz0, hz1, hz2⟩ := info_parts vote_info
  rcases hown.2 with ⟨h1, _⟩ | ⟨g', cap', cur, he, hbg, hg, hnc, hcm, hcs, htake⟩
  · cases h1
  cases he
  unfold maxLen at hcm
  have hcl : (l.flatMap vtC).length = l.length * 3 := flat_len vtC_len l
  obtain ⟨CS, hCS⟩ : ∃ CS, CS = l.flatMap vtC := ⟨_, rfl⟩
  obtain ⟨CUR, hCUR⟩ : ∃ CUR : List Value, CUR = cur.toList := ⟨_, rfl⟩
  have hg' : w.heap[g]? = some (.cells CUR.toArray 26 (0, 0)) := by rw [hCUR]; exact hg
  have hsC : CUR.length = cap * 3 := by rw [hCUR, Array.length_toList]; exact hcs
  rw [← hCS] at hcl htake
  rw [← hCUR] at htake
  have h1c : ∀ v ∈ CS.drop (i * 3), v.oneCell' = true := fun v hv => by
    have := List.mem_of_mem_drop hv
    rw [hCS] at this
    obtain ⟨y, _, hy⟩ := List.mem_flatMap.1 this
    exact vtC_one y v hy
  have hdl : (CS.drop (i * 3)).length = (l.length - i) * 3 := by rw [List.length_drop, hcl, Nat.sub_mul]
  have hz0' : ¬ ((i : Int) = (l.length : Int)) := by omega
  have hov0 : ∀ lb cb, (callFunc 57 #[.slice (some ⟨vb, 0, none⟩) 1 1, .slice (some ⟨g, 0 + (i + 1) * 3, none⟩) lb cb]).run Tryd.prog w = .ok (.value (.bool false)) w := fun lb cb => by
    rw [run_callFunc_extern Tryd.func57 (by kernel_rfl) (by kernel_rfl) (by kernel_rfl) (e := Extern.SlicesOverlaps.overlaps #[22, 22] #[4]) (by kernel_rfl),
      Lib.run_overlaps_apart w 22 4 26 Tryd.underlying22 3 vote_size ⟨vb, 0, none⟩ ⟨g, 0 + (i + 1) * 3, none⟩ 1 1 lb cb hvb 26 26 3 (cap * 3) (by simp [World.shape?, hx]) (by simp [World.shape?, hg', hsC]) (by omega) (by simp [World.frozen?, hx]) (by simp [World.frozen?, hx])]
    rfl
  have hov1 : ∀ lb cb, (callFunc 57 #[.slice (some ⟨vb, 0, none⟩) 1 1, .slice (some ⟨g, (i + 1) * 3, none⟩) lb cb]).run Tryd.prog w = .ok (.value (.bool false)) w := fun lb cb => by simpa only [Nat.zero_add] using hov0 lb cb
  have hov := Lib.hid hov1
  clear hov0 hov1
  have hfit1 : (i + 1) * 3 + (CS.drop (i * 3)).length ≤ CUR.length := by rw [hdl, hsC]; omega
  have hl1 : (splice CUR ((i + 1) * 3) (CS.drop (i * 3))).length = CUR.length := length_splice' _ _ _ hfit1
  obtain ⟨R1, hR1⟩ : ∃ R1, R1 = splice CUR ((i + 1) * 3) (CS.drop (i * 3)) := ⟨_, rfl⟩
  obtain ⟨R2, hR2⟩ : ∃ R2, R2 = splice R1 (i * 3) (vtC x) := ⟨_, rfl⟩
  have hcell : ∀ j u, (CS.drop (i * 3))[j]? = some u → w.drew.cell? ((⟨g, i * 3, none⟩ : Addr).add j) = some u := fun j u hj => by
    have hjl := (List.getElem?_eq_some_iff.1 hj).1
    rw [Addr.add_lit]
    rw [List.getElem?_drop] at hj
    show w.cell? _ = _
    rw [block_cell hg', ← hj, ← htake, List.getElem?_toArray, List.getElem?_take, if_pos (by rw [hdl] at hjl; omega)]
  have hcp1 : ∀ ty dc sc, (Builtin.copy_ #[22, 22] ty #[.slice (some ⟨g, (i + 1) * 3, none⟩) (l.length - i) dc, .slice (some ⟨g, i * 3, none⟩) (l.length + 1 - i) sc]).run Tryd.prog w.drew = .ok (goInt (l.length - i : Nat)) (w.drew.setRow g R1.toArray) := fun ty dc sc => by
    rw [hR1]
    exact run_copy_rowk w.drew _ _ ty 26 3 g ((i + 1) * 3) _ dc ⟨g, i * 3, none⟩ _ sc (l.length - i) CUR 26 (CS.drop (i * 3)) Tryd.underlying22 (by rw [hi0]; simp [hz1]) hg' (by simp only [Nat.min_def]; split <;> omega) hdl hcell hfit1 h1c
  obtain ⟨W1, hW1⟩ : ∃ W1, W1 = w.drew.setRow g R1.toArray := ⟨_, rfl⟩
  rw [← hW1] at hcp1
  have hg1 : W1.heap[g]? = some (.cells R1.toArray 26 (0, 0)) := by rw [hW1]; exact setRow_heap w.drew g _ _ _ _ hg'
  have hx1 : W1.heap[vb]? = some (.cells #[.int .i64 x.fr, .int .i64 x.vw, .int .i64 x.tm] 26 (0, 0)) := by rw [hW1]; exact (setRow_other w.drew g vb _ hvb).trans hx
  have hcp2 : ∀ ty dc, (Builtin.copy_ #[22, 22] ty #[.slice (some ⟨g, i * 3, none⟩) (l.length + 1 - i) dc, .slice (some ⟨vb, 0, none⟩) 1 1]).run Tryd.prog W1 = .ok (goInt (1 : Nat)) (W1.setRow g R2.toArray) := fun ty dc => by
    rw [hR2]
    refine run_copy_rowk W1 _ _ ty 26 3 g (i * 3) _ dc ⟨vb, 0, none⟩ 1 1 1 R1 26 (vtC x) Tryd.underlying22 (by rw [hi0]; simp [hz1]) hg1 (by simp only [Nat.min_def]; split <;> omega) rfl ?_ ?_ (vtC_one x)
    · intro j u hj
      rw [Addr.add_lit, Nat.zero_add, block_cell hx1 j]; simpa [vtC] using hj
    · rw [hR1, hl1, hsC]
      show i * 3 + 3 ≤ _
      omega
  have FIN : InsT w base (.slice (some ⟨g, 0, none⟩) l.length cap) (l.take i ++ x :: l.drop i) (.returned (.slice (some ⟨g, 0, none⟩) (l.length + 1) cap)) (W1.setRow g R2.toArray) := by
    refine ⟨_, rfl, ?_, ?_⟩
    · rw [ins_len (by omega)]
      refine ⟨by rw [flat_len vtC_len, ins_len (by omega)], .inr ⟨g, cap, R2.toArray, rfl, hbg, setRow_heap W1 g _ _ _ _ hg1, hroom, by unfold maxLen; omega, ?_, ?_⟩⟩
      · rw [List.size_toArray, hR2, length_splice' _ _ _ (by rw [hR1, hl1, hsC]; show i * 3 + 3 ≤ _; omega), hR1, hl1, hsC]
      · rw [insC, hR2, hR1, ← hCS]
        have := splice_in CUR CS (vtC x) (l.length * 3) (i * 3) 3 htake hcl (by omega) rfl (by rw [hsC]; omega)
        rw [show l.length * 3 + 3 = (l.length + 1) * 3 by omega, show i * 3 + 3 = (i + 1) * 3 by omega] at this
        simpa using this
    · rw [hW1]
      refine ⟨rfl, rfl, rfl, by simp [World.setRow], fun k _ hk => ?_⟩
      have hne : k ≠ g := fun e => hk (by simp [Value.ownBlock, e])
      exact (setRow_other _ g k _ hne).trans (setRow_other _ g k _ hne)
  have HF := Lib.hid FIN
  have HC1 := Lib.hid hcp1
  have HC2 := Lib.hid hcp2
  obtain ⟨Z, hZ⟩ : ∃ Z, Z = InsT w base (.slice (some ⟨g, 0, none⟩) l.length cap) (l.take i ++ x :: l.drop i) := ⟨_, rfl⟩
  rw [← hZ] at HF ⊢
  obtain ⟨n, hn⟩ : ∃ n, n = l.length := ⟨_, rfl⟩
  rw [← hn] at HF HC1 HC2 hi hroom hnc h64 ⊢
  have hw1 : IntKind.i64.wrap ((i : Int) + 1) = (i : Int) + 1 := by rw [IntKind.wrap_i64]; omega
  have hw2 : IntKind.i64.wrap ((n : Int) + 1) = (n : Int) + 1 := by rw [IntKind.wrap_i64]; omega
  have hin : i ≤ n := by omega
  have hb2 : ¬ (cap = i + 1) := by omega
  have hb4 : ¬ (cap = i) := by omega
  have hne : ((i : Int) == (n : Int)) = false := by simp; omega
  have htn : ((i : Int) + 1).toNat = i + 1 := by omega
  have htn2 : ((n : Int) + 1).toNat = n + 1 := by omega
  have hb3 : (i : Int) ≤ (n : Int) + 1 := by omega
  have hb1 : (0 : Int) ≤ (i : Int) + 1 := by omega
  have hb5 : (0 : Int) ≤ (n : Int) + 1 := by omega
  have mixed : Tryd.prog.follows .mixedOrders = true := by kernel_rfl
  clear hown hx hg hcs htake hg' hsC hcl h1c hdl hz0' FIN hcell hcp1 hcp2 hx1 hg1 hW1 hR1 hR2 hl1 hfit1 hCS hCUR hZ hn hz0 hz1 hz2 hi0
  go_enter Tryd.func46, Tryd.ntmps46
  go_wp2_with (simp only [hov.out])
  go_region_law_o (refine step_copy_runI rfl _ _ 22 22 rfl (.slice (some ⟨g, (i + 1) * 3, none⟩) (n - i) (cap - (i + 1))) (.slice (some ⟨g, i * 3, none⟩) (n + 1 - i) (cap - i)) (by simp [Act.eval, Act.put]) (by simp [Act.eval, Act.put]) (HC1.out 3 (cap - (i + 1)) (cap - i)) ?_)
  go_wp2_with (simp only [HC2.out])
  show Z (.returned _) _
  exact HF.out
set_option maxHeartbeats 4000000 in
/-- There is no room: a new row. -/
theorem insert_grow (base g cap i : Nat) (l : List Vt) (x : Vt) (w : World) (vb : Nat) (hown : w.ownsRow base 26 3 (.slice (some ⟨g, 0, none⟩) l.length cap) l.length (l.flatMap vtC)) (hbase : base ≤ w.heap.size)
    (hx : w.heap[vb]? = some (.cells #[.int .i64 x.fr, .int .i64 x.vw, .int .i64 x.tm] 26 (0, 0))) (h64 : l.length ≤ 64) (hi : i < l.length) (hroom : cap < l.length + 1) :
    Calls Tryd.prog 46 #[.slice (some ⟨g, 0, none⟩) l.length cap, .int .i64 (i : Int), .slice (some ⟨vb, 0, none⟩) 1 1] w (InsT w base (.slice (some ⟨g, 0, none⟩) l.length cap) (l.take i ++ x :: l.drop i)) := by
  obtain ⟨i0, hi0, hz0, hz1, hz2⟩ := info_parts vote_info
  rcases hown.2 with ⟨h1, _⟩ | ⟨g', cap', cur, he, hbg, hg, hnc, hcm, hcs, htake⟩
  · cases h1
  cases he
  unfold maxLen at hcm
  have hcl : (l.flatMap vtC).length = l.length * 3 := flat_len vtC_len l
  obtain ⟨CS, hCS⟩ : ∃ CS, CS = l.flatMap vtC := ⟨_, rfl⟩
  obtain ⟨CUR, hCUR⟩ : ∃ CUR : List Value, CUR = cur.toList := ⟨_, rfl⟩
  have hg' : w.heap[g]? = some (.cells CUR.toArray 26 (0, 0)) := by rw [hCUR]; exact hg
  have hsC : CUR.length = cap * 3 := by rw [hCUR, Array.length_toList]; exact hcs
  rw [← hCS] at hcl htake
  rw [← hCUR] at htake
  have hgw : g < w.heap.size := lt_of_block hg'
  have hvw : vb < w.heap.size := lt_of_block hx
  have h1c : ∀ v ∈ CS.drop (i * 3), v.oneCell' = true := fun v hv => by
    have := List.mem_of_mem_drop hv
    rw [hCS] at this
    obtain ⟨y, _, hy⟩ := List.mem_flatMap.1 this
    exact vtC_one y v hy
  have hdl : (CS.drop (i * 3)).length = (l.length - i) * 3 := by rw [List.length_drop, hcl, Nat.sub_mul]
  have hCc : ∀ j u, CS[j]? = some u → w.cell? ⟨g, j, none⟩ = some u := fun j u hj => by
    have hjl := (List.getElem?_eq_some_iff.1 hj).1
    rw [block_cell hg', ← hj, ← htake, List.getElem?_toArray, List.getElem?_take, if_pos (by omega)]
  have hold : (Builtin.firstCells i0.size i (.slice (some ⟨g, 0, none⟩) i cap)).run Tryd.prog w.drew = .ok (CS.take (i * 3)).toArray w.drew := by
    rw [hz1]
    exact run_firstCells_some w.drew 3 i ⟨g, 0, none⟩ i cap (CS.take (i * 3)) (by rw [List.length_take]; omega) (fun j u hj => by
      rw [Addr.add_lit, Nat.zero_add]
      rw [List.getElem?_take] at hj
      split at hj
      · exact hCc j u hj
      · cases hj)
  obtain ⟨G, hG⟩ : ∃ G, G = grownCap w (l.length + 1) cap 26 := ⟨_, rfl⟩
  have hGn : l.length + 1 ≤ G := by rw [hG]; exact grownCap_ge w _ _ _
  have hG63 : G ≤ 9223372036854775807 := by
    have := grownCap_le_maxLen w (l.length + 1) cap 26 (by unfold maxLen; omega)
    rw [← hG] at this
    unfold maxLen at this
    omega
  obtain ⟨ROW, hROW⟩ : ∃ ROW : List Value, ROW = CS.take (i * 3) ++ (Builtin.zeroCells (Value.cells (.agg #[.int .i64 0, .int .i64 0, .int .i64 0])) (l.length + 1 - i)).toList ++ (Builtin.zeroCells (Value.cells (.agg #[.int .i64 0, .int .i64 0, .int .i64 0])) (G - (l.length + 1))).toList := ⟨_, rfl⟩
  have hRl : ROW.length = G * 3 := by
    rw [hROW]
    simp [Builtin.zeroCells, Value.cells]
    omega
  have hRt : ROW.take (i * 3) = CS.take (i * 3) := by
    have hl : (CS.take (i * 3)).length = i * 3 := by rw [List.length_take]; omega
    rw [hROW, List.append_assoc, List.take_append, hl, Nat.sub_self, List.take_zero, List.append_nil, List.take_of_length_le (by omega)]
  have hrz : ∀ ty, (Builtin.append_ #[22, 3] ty #[.slice (some ⟨g, 0, none⟩) i cap, .int .i64 ((l.length : Int) + 1 - (i : Int))]).run Tryd.prog w =
      .ok (.slice (some ⟨w.heap.size, 0, none⟩) (l.length + 1) G) (w.drew.alloc (.cells ROW.toArray 26)) := fun ty => by
    have hik : i + (l.length + 1 - i) = l.length + 1 := by omega
    have h := Lib.run_append_grow_zeros w 22 3 ty 26 i0 _ .i64 .i64 Tryd.underlying22 Tryd.underlying3 hi0 hz0 (some ⟨g, 0, none⟩) i cap (CS.take (i * 3)) hold (l.length + 1 - i) (by omega) (by omega) (by omega) (by omega) (by rw [hz2]; omega) (by rw [hz2, hik]; exact growslice_fits hroom (by omega))
    rw [hik, ← hG] at h
    have hRA : ROW.toArray = (CS.take (i * 3)).toArray ++ Builtin.zeroCells (Value.cells (.agg #[.int .i64 0, .int .i64 0, .int .i64 0])) (l.length + 1 - i) ++ Builtin.zeroCells (Value.cells (.agg #[.int .i64 0, .int .i64 0, .int .i64 0])) (G - (l.length + 1)) := by
      rw [hROW]; apply Array.ext'; simp
    rw [show (l.length : Int) + 1 - (i : Int) = ((l.length + 1 - i : Nat) : Int) by omega, h, hRA]
  obtain ⟨N, hN⟩ : ∃ N, N = w.heap.size := ⟨_, rfl⟩
  obtain ⟨W1, hW1⟩ : ∃ W1, W1 = w.drew.alloc (.cells ROW.toArray 26) := ⟨_, rfl⟩
  rw [← hW1, ← hN] at hrz
  have hg1 : W1.heap[N]? = some (.cells ROW.toArray 26 (0, 0)) := by rw [hW1, hN]; exact heap_alloc_new w.drew _
  have hx1 : W1.heap[vb]? = some (.cells #[.int .i64 x.fr, .int .i64 x.vw, .int .i64 x.tm] 26 (0, 0)) := by rw [hW1]; exact (heap_alloc_old w.drew _ hvw).trans hx
  have hs1 : ∀ k, k < w.heap.size → W1.heap[k]? = w.heap[k]? := fun k hk => by rw [hW1]; exact heap_alloc_old w.drew _ hk
  have hz1' : W1.heap.size = w.heap.size + 1 := by rw [hW1]; simp
  have ho1 : W1.os = w.os ∧ W1.tape = w.tape ∧ W1.output = w.output := by rw [hW1]; exact ⟨rfl, rfl, rfl⟩
  obtain ⟨R1, hR1⟩ : ∃ R1, R1 = splice ROW (i * 3) (vtC x) := ⟨_, rfl⟩
  have hfit1 : i * 3 + (vtC x).length ≤ ROW.length := by rw [hRl]; show i * 3 + 3 ≤ _; omega
  have hl1 : R1.length = ROW.length := by rw [hR1]; exact length_splice' _ _ _ hfit1
  obtain ⟨R2, hR2⟩ : ∃ R2, R2 = splice R1 ((i + 1) * 3) (CS.drop (i * 3)) := ⟨_, rfl⟩
  have hfit2 : (i + 1) * 3 + (CS.drop (i * 3)).length ≤ R1.length := by rw [hl1, hdl, hRl]; omega
  have hl2 : R2.length = R1.length := by rw [hR2]; exact length_splice' _ _ _ hfit2
  have hcpA : ∀ ty dc, (Builtin.copy_ #[22, 22] ty #[.slice (some ⟨N, i * 3, none⟩) (l.length + 1 - i) dc, .slice (some ⟨vb, 0, none⟩) 1 1]).run Tryd.prog W1 = .ok (goInt (1 : Nat)) (W1.setRow N R1.toArray) := fun ty dc => by
    rw [hR1]
    refine run_copy_rowk W1 _ _ ty 26 3 N (i * 3) _ dc ⟨vb, 0, none⟩ 1 1 1 ROW 26 (vtC x) Tryd.underlying22 (by rw [hi0]; simp [hz1]) hg1 (by simp only [Nat.min_def]; split <;> omega) rfl ?_ hfit1 (vtC_one x)
    intro j u hj
    rw [Addr.add_lit, Nat.zero_add, block_cell hx1 j]; simpa [vtC] using hj
  obtain ⟨W2, hW2⟩ : ∃ W2, W2 = W1.setRow N R1.toArray := ⟨_, rfl⟩
  rw [← hW2] at hcpA
  have hg2 : W2.heap[N]? = some (.cells R1.toArray 26 (0, 0)) := by rw [hW2]; exact setRow_heap W1 N _ _ _ _ hg1
  have hs2 : ∀ k, k < w.heap.size → W2.heap[k]? = w.heap[k]? := fun k hk => by rw [hW2]; exact (setRow_other W1 N k _ (by omega)).trans (hs1 k hk)
  have hcpB : ∀ ty dc sc, (Builtin.copy_ #[22, 22] ty #[.slice (some ⟨N, (i + 1) * 3, none⟩) (l.length - i) dc, .slice (some ⟨g, i * 3, none⟩) (l.length - i) sc]).run Tryd.prog W2.drew = .ok (goInt (l.length - i : Nat)) (W2.drew.setRow N R2.toArray) := fun ty dc sc => by
    rw [hR2]
    refine run_copy_rowk W2.drew _ _ ty 26 3 N ((i + 1) * 3) _ dc ⟨g, i * 3, none⟩ _ sc (l.length - i) R1 26 (CS.drop (i * 3)) Tryd.underlying22 (by rw [hi0]; simp [hz1]) hg2 (by simp only [Nat.min_def]; split <;> omega) hdl ?_ hfit2 h1c
    intro j u hj
    rw [Addr.add_lit]
    rw [List.getElem?_drop] at hj
    have h3 := hCc _ u hj
    show W2.cell? _ = _
    rw [← h3]
    exact World.cell?_of_block (hs2 g hgw)
  have FIN : InsT w base (.slice (some ⟨g, 0, none⟩) l.length cap) (l.take i ++ x :: l.drop i) (.returned (.slice (some ⟨N, 0, none⟩) (l.length + 1) G)) (W2.drew.setRow N R2.toArray) := by
    refine ⟨_, rfl, ?_, ?_⟩
    · rw [ins_len (by omega)]
      refine ⟨by rw [flat_len vtC_len, ins_len (by omega)], .inr ⟨N, G, R2.toArray, rfl, by omega, setRow_heap W2.drew N _ _ _ _ hg2, hGn, by unfold maxLen; omega, ?_, ?_⟩⟩
      · rw [List.size_toArray, hl2, hl1, hRl]
      · rw [insC, hR2, hR1, ← hCS]
        have := splice_new ROW CS (vtC x) (l.length * 3) (i * 3) 3 hRt hcl (by omega) rfl (by rw [hRl]; omega)
        rw [show l.length * 3 + 3 = (l.length + 1) * 3 by omega, show i * 3 + 3 = (i + 1) * 3 by omega] at this
        simpa using this
    · have hsz2 : W2.heap.size = w.heap.size + 1 := by rw [hW2]; simp [World.setRow, hz1']
      refine ⟨by rw [hW2]; exact ho1.1, by rw [hW2]; exact ho1.2.1, by rw [hW2]; exact ho1.2.2, ?_, fun k hk _ => ?_⟩
      · simp [World.setRow]
        show _ ≤ W2.heap.size
        omega
      · exact (setRow_other _ N k _ (by omega)).trans (hs2 k hk)
  have HF := Lib.hid FIN
  have HRZ := Lib.hid hrz
  have HCA := Lib.hid hcpA
  have HCB := Lib.hid hcpB
  obtain ⟨Z, hZ⟩ : ∃ Z, Z = InsT w base (.slice (some ⟨g, 0, none⟩) l.length cap) (l.take i ++ x :: l.drop i) := ⟨_, rfl⟩
  rw [← hZ] at HF ⊢
  obtain ⟨n, hn⟩ : ∃ n, n = l.length := ⟨_, rfl⟩
  rw [← hn] at HF HRZ HCA HCB hi hroom hnc h64 hGn ⊢
  have hw1 : IntKind.i64.wrap ((i : Int) + 1) = (i : Int) + 1 := by rw [IntKind.wrap_i64]; omega
  have hw2 : IntKind.i64.wrap ((n : Int) + 1) = (n : Int) + 1 := by rw [IntKind.wrap_i64]; omega
  have hw3 : IntKind.i64.wrap ((n : Int) + 1 - (i : Int)) = (n : Int) + 1 - (i : Int) := by rw [IntKind.wrap_i64]; omega
  have hz3 : (cap : Int) < (n : Int) + 1 := by omega
  have hin : i ≤ n := by omega
  have hic : i ≤ cap := by omega
  have hb2 : ¬ (G = i + 1) := by omega
  have hb4 : ¬ (G = i) := by omega
  have hb6 : ¬ (cap = i) := by omega
  have hne : ((i : Int) == (n : Int)) = false := by simp; omega
  have htn : ((i : Int) + 1).toNat = i + 1 := by omega
  have hb3 : (i : Int) ≤ (n : Int) := by omega
  have hb1 : (0 : Int) ≤ (i : Int) + 1 := by omega
  have mixed : Tryd.prog.follows .mixedOrders = true := by kernel_rfl
  clear hown hx hg hcs htake hg' hsC hcl h1c hdl FIN hcpA hcpB hrz hx1 hg1 hW1 hR1 hR2 hl1 hfit1 hCS hCUR hZ hn hz0 hz1 hz2 hi0 hgw hvw hCc hold hG hRl hRt hROW hN hs1 hz1' ho1 hfit2 hl2 hW2 hg2 hs2
  go_enter Tryd.func46, Tryd.ntmps46
  go_wp2_with (first | (at_builtin; refine Lib.wpList_append_run _ rfl _ _ _ _ rfl _ _ rfl rfl _ _ (HRZ.out _) ?_) | simp only [HCA.out])
  go_region_law_o (refine step_copy_runI rfl _ _ 22 22 rfl (.slice (some ⟨N, (i + 1) * 3, none⟩) (n - i) (G - (i + 1))) (.slice (some ⟨g, i * 3, none⟩) (n - i) (cap - i)) (by simp [Act.eval, Act.put]) (by simp [Act.eval, Act.put]) (HCB.out 3 (G - (i + 1)) (cap - i)) ?_)
  go_wp2_with fail
  show Z (.returned _) _
  exact HF.out
/-- slices.Insert of a vote. -/
theorem insert_any (base : Nat) (v : Value) (i : Nat) (l : List Vt) (x : Vt) (w : World) (vb : Nat) (hown : w.ownsRow base 26 3 v l.length (l.flatMap vtC)) (hbase : base ≤ w.heap.size) (hvb : v.ownBlock ≠ some vb)
    (hx : w.heap[vb]? = some (.cells #[.int .i64 x.fr, .int .i64 x.vw, .int .i64 x.tm] 26 (0, 0))) (h64 : l.length ≤ 64) (hi : i ≤ l.length) :
    Calls Tryd.prog 46 #[v, .int .i64 (i : Int), .slice (some ⟨vb, 0, none⟩) 1 1] w (InsT w base v (l.take i ++ x :: l.drop i)) := by
  by_cases he : i = l.length
  · subst he
    rw [List.take_length, List.drop_length]
    exact insert_end base v l x w vb hown hbase hx h64
  · rcases hown.2 with ⟨h1, h2⟩ | ⟨g, cap, cur, rfl, _, _, _, hcm, _⟩
    · omega
    · have hne : vb ≠ g := fun e => hvb (by simp [Value.ownBlock, e])
      by_cases hr : l.length + 1 ≤ cap
      · exact insert_room base g cap i l x w vb hown hbase hne hx h64 (by omega) hr
      · exact insert_grow base g cap i l x w vb hown hbase hx h64 (by omega) (by omega)
end Go.Proofs.YtgmblgpfgdfnaaaDoor
