/- Span: strings.Cut at a slash, as at stage 8; slices.Sort and slices.Compact at strings of the call's own. Written by wip/tools/gen11j.py. -/
/- Span: Names. Written by wip/tools/gen11z.py. -/
import Derived.Test.YtbdfcgffkonbiaaGreatDoorQSSC10
import Derived.Test.YtbdfcgffkonbiaaGreatDoorQSSC18
import Derived.Test.YtbdfcgffkonbiaaGreatDoorQSSC7
import Derived.Lib.IndexBytes
import Derived.Test.YtbdfcgffkonbiaaGreatDoorQSSC37
namespace Go.Proofs.YtbdfcgffkonbiaaGreatDoor
open Go Go.RowKit
set_option linter.unusedVariables false
set_option linter.unusedSimpArgs false
set_option linter.unnecessarySimpa false
theorem byte_split : ∀ l : List UInt8, ((47 : UInt8) ∉ l ∧ Lib.indexByte l 47 = -1) ∨ ∃ a b, l = a ++ 47 :: b ∧ (47 : UInt8) ∉ a ∧ Lib.indexByte l 47 = (a.length : Int)
  | [] => .inl ⟨by simp, rfl⟩
  | c :: r => by
    by_cases hc : c = 47
    · subst hc
      exact .inr ⟨[], r, rfl, by simp, by simp [Lib.indexByte]⟩
    · have hb : (c == 47) = false := by simpa using hc
      rcases byte_split r with ⟨h1, h2⟩ | ⟨a, b, h1, h2, h3⟩
      · refine .inl ⟨?_, by simp [Lib.indexByte, hb, h2]⟩
        intro hm
        rcases List.mem_cons.1 hm with e | e
        · exact hc e.symm
        · exact h1 e
      · refine .inr ⟨c :: a, b, by rw [h1]; rfl, ?_, ?_⟩
        · intro hm
          rcases List.mem_cons.1 hm with e | e
          · exact hc e.symm
          · exact h2 e
        · have : ¬ ((a.length : Int) == -1) = true := by simp
          simp only [Lib.indexByte, hb, h3, this]
          simp
theorem index_any (l : List UInt8) (w : World) : Calls Tryz.prog 75 #[.string (str l), .string (ByteArray.mk #[47])] w fun e w' => e = .returned (.int .i64 (Lib.indexByte l 47)) ∧ w = w' := by
  have := Tryz.stringslite_Index_one (str l) 47 w
  rw [str_toList] at this
  exact this.mono fun e w' h => ⟨h.1, h.2.symm⟩
theorem ret_cut {a a' b b' : ByteArray} {c c' : Bool} (h1 : a = a') (h2 : b = b') (h3 : c = c') : Ending.returned (.tuple #[.string a, .string b, .bool c]) = Ending.returned (.tuple #[.string a', .string b', .bool c']) := by rw [h1, h2, h3]
set_option maxRecDepth 100000 in
theorem cut0_yes (l a b : List UInt8) (hl : l.length ≤ maxLen) (n : Nat) (hn : n = a.length) (e : l = a ++ 47 :: b) (hi : Lib.indexByte l 47 = (n : Int)) (w : World) :
    Calls Tryz.prog 61 #[.string (str l), .string (ByteArray.mk #[47])] w fun e w' => e = .returned (.tuple #[.string (str a), .string (str b), .bool true]) ∧ ∃ k, w' = w.drewN k := by
  have hz := str_size l
  have hlen : l.length = n + 1 + b.length := by rw [e, hn]; simp; omega
  have x1 : (str l).extract 0 n = str a := by rw [k8str_extract, e, hn]; simp
  have x2 : (str l).extract (n + 1) l.length = str b := by
    rw [k8str_extract, e, hn]
    simp
    rw [List.take_of_length_le (by omega)]
  have IX := fun w => index_any l w
  rw [hi] at IX
  unfold maxLen at hl
  have e20 : IntKind.i64.wrap ((n : Int) + 1) = (n : Int) + 1 := by rw [IntKind.wrap_i64]; omega
  have e21 : ((n : Int) + 1).toNat = n + 1 := by omega
  have l1 : n ≤ l.length := by omega
  have l2 : (n : Int) + 1 ≤ l.length := by omega
  have l3 : 0 ≤ (n : Int) + 1 := by omega
  have s1 : (ByteArray.mk #[47]).size = 1 := rfl
  clear e hn hi hlen
  go_enter Tryz.func61, Tryz.ntmps61
  go_wp2_with (go_at_call 75; refine (IX _).mono ?_; rintro e w' ⟨rfl, rfl⟩)
  go_quiet (fail)
  go_wp2_with fail
  go_ret3
  exact ⟨rfl, _, rfl⟩
set_option maxRecDepth 100000 in
theorem cut0_no (l : List UInt8) (hi : Lib.indexByte l 47 = -1) (w : World) :
    Calls Tryz.prog 61 #[.string (str l), .string (ByteArray.mk #[47])] w fun e w' => e = .returned (.tuple #[.string (str l), .string (str []), .bool false]) ∧ ∃ k, w' = w.drewN k := by
  have IX := fun w => index_any l w
  rw [hi] at IX
  clear hi
  go_enter Tryz.func61, Tryz.ntmps61
  go_wp2_with (go_at_call 75; refine (IX _).mono ?_; rintro e w' ⟨rfl, rfl⟩)
  go_ret3
  exact ⟨rfl, 0, rfl⟩
theorem cut_any (l a b : List UInt8) (f : Bool) (w : World) (H : ∀ w, Calls Tryz.prog 61 #[.string (str l), .string (ByteArray.mk #[47])] w fun e w' => e = .returned (.tuple #[.string (str a), .string (str b), .bool f]) ∧ ∃ k, w' = w.drewN k) :
    Calls Tryz.prog 40 #[.string (str l), .string (ByteArray.mk #[47])] w fun e w' => e = .returned (.tuple #[.string (str a), .string (str b), .bool f]) ∧ ∃ k, w' = w.drewN k := by
  go_enter Tryz.func40, Tryz.ntmps40
  go_wp2_with (go_at_call 61; refine (H _).mono ?_; rintro e w' ⟨rfl, k, rfl⟩)
  go_ret3
  exact ⟨rfl, _, rfl⟩

open Go.Sort
def svS (x : List UInt8) : List Value := [.string (str x)]
theorem svS_len (x : List UInt8) : (svS x).length = 1 := rfl
theorem svS_one (x : List UInt8) : ∀ u ∈ svS x, u.oneCell' = true := by intro u hu; rw [List.mem_singleton.1 hu]; rfl
theorem flat_map (l : List (List UInt8)) : l.flatMap svS = l.map (fun x => Value.string (str x)) := by
  induction l with
  | nil => rfl
  | cons x l ih => rw [List.flatMap_cons, ih]; rfl
theorem enc_sv (x : List UInt8) : encStr x = .string (str x) := rfl
theorem holds_ownS {w : World} {base g cap : Nat} {l : List (List UInt8)} (h : w.ownsRow base 9 1 (.slice (some ⟨g, 0, none⟩) l.length cap) l.length (l.flatMap svS)) : Holds encStr w g 0 l.toArray := by
  intro j hj
  have hj' : j < l.length := by simpa using hj
  refine ⟨?_, h.frozenAt _⟩
  rw [Nat.zero_add, h.cellAt j (by rw [Nat.mul_one]; exact hj'), flat_map, List.getElem?_map, List.getElem?_eq_getElem hj']
  rw [getElem!_pos l.toArray j hj]
  rfl
theorem heap_rowS {w : World} {g n : Nat} {cur : Array Value} {e : TypeId} {fr : Nat × Nat} (F : Array (List UInt8)) (hb : w.heap[g]? = some (.cells cur e fr)) :
    (putRow encStr (Sort.ahead w n) g 0 F).heap[g]? = some (.cells (putCells encStr 0 F cur) e fr) := by
  simp [putRow, mapBlock, Sort.ahead, Array.getElem?_modify, hb, onCells]
theorem grown_rowS {w : World} {g n : Nat} (F : Array (List UInt8)) : w.grownBy (putRow encStr (Sort.ahead w n) g 0 F) (some g) := by
  refine ⟨rfl, rfl, rfl, by simp [putRow, mapBlock, Sort.ahead], fun k hk hne => ?_⟩
  have : g ≠ k := fun e => hne (by rw [e])
  simp [putRow, mapBlock, Sort.ahead, Array.getElem?_modify, this]
theorem take_putS (cur : Array Value) (F : Array (List UInt8)) (m : Nat) (hm : m ≤ F.size) (h : F.size ≤ cur.size) : (putCells encStr 0 F cur).toList.take m = (F.toList.take m).map (fun x => Value.string (str x)) := by
  apply List.ext_getElem?
  intro j
  by_cases hj : j < m
  · have h1 : j < F.size := by omega
    rw [List.getElem?_take_of_lt hj, Array.getElem?_toList, List.getElem?_map, List.getElem?_take_of_lt hj, Array.getElem?_toList, Array.getElem?_eq_getElem h1]
    simp [putCells, h1, show j < cur.size by omega]
    rfl
  · rw [List.getElem?_take_eq_none (by omega), List.getElem?_eq_none (by simp; omega)]
/-- A row of texts that a call has written anew, cut to its first m. -/
theorem own_rowS {w : World} {base g cap n m : Nat} {l : List (List UInt8)} (F : Array (List UInt8)) (h : w.ownsRow base 9 1 (.slice (some ⟨g, 0, none⟩) l.length cap) l.length (l.flatMap svS)) (hF : F.size = l.length) (hm : m ≤ l.length) :
    (putRow encStr (Sort.ahead w n) g 0 F).ownsRow base 9 1 (.slice (some ⟨g, 0, none⟩) m cap) m ((F.toList.take m).flatMap svS) := by
  obtain ⟨h1, h2⟩ := h
  refine ⟨by rw [flat_map]; simp; omega, ?_⟩
  rcases h2 with ⟨h2, _⟩ | ⟨g', cap', cur, h2, h3, h4, h5, h6, h7, h8⟩
  · simp at h2
  · simp only [Value.slice.injEq, Option.some.injEq, Addr.mk.injEq, and_true, true_and] at h2
    obtain ⟨rfl, rfl⟩ := h2
    refine .inr ⟨g, cap, putCells encStr 0 F cur, rfl, h3, heap_rowS F h4, by omega, h6, by simp [putCells, h7], ?_⟩
    rw [Nat.mul_one, take_putS cur F m (by omega) (by omega), flat_map]
theorem own_growS {w : World} {base : Nat} {e : TypeId} {size : Nat} {v : Value} {n : Nat} {xs : List Value} (h : w.ownsRow base e size v n xs) (os : Array Obj) : (grow w os).ownsRow base e size v n xs := by
  refine ⟨h.1, ?_⟩
  rcases h.2 with h1 | ⟨g, cap, cur, h1, h2, h3, r⟩
  · exact .inl h1
  · exact .inr ⟨g, cap, cur, h1, h2, (heap_grow_old _ _ (lt_of_block h3)).trans h3, r⟩
theorem sortS_any (base : Nat) (l : List (List UInt8)) (v : Value) (w : World) (hown : w.ownsRow base 9 1 v l.length (l.flatMap svS)) (hl : l.length ≤ 3000) :
    Calls Tryz.prog 41 #[v] w fun e w' => e = .returned (.tuple #[]) ∧ w'.ownsRow base 9 1 v l.length ((l.mergeSort fun x y => decide (x ≤ y)).flatMap svS) ∧ w.grownBy w' v.ownBlock := by
  rcases hown.2 with ⟨rfl, h0⟩ | ⟨g, cap, cur, rfl, -, hq, -⟩
  · obtain rfl : l = [] := List.eq_nil_of_length_eq_zero h0
    refine (Tryz.slices_Sort_string_none none 0 w).mono ?_
    rintro e w' ⟨rfl, rfl⟩
    exact ⟨rfl, by simpa using hown, ⟨rfl, rfl, rfl, Nat.le_refl _, fun _ _ _ => rfl⟩⟩
  · refine (Tryz.slices_Sort_string g 0 cap l w (holds_ownS hown) (lt_of_block hq) (by omega)).mono ?_
    rintro e w' ⟨rfl, n, os, rfl⟩
    have hs : (l.mergeSort fun x y => decide (x ≤ y)).length = l.length := List.length_mergeSort _
    have h1 := own_rowS (n := n) (m := l.length) (l.mergeSort fun x y => decide (x ≤ y)).toArray hown (by simpa using hs) (Nat.le_refl _)
    rw [show ((l.mergeSort fun x y => decide (x ≤ y)).toArray.toList.take l.length) = l.mergeSort fun x y => decide (x ≤ y) by rw [List.take_of_length_le (by simp)]] at h1
    refine ⟨rfl, own_growS h1 os, ?_⟩
    have g1 := grown_rowS (w := w) (g := g) (n := n) (l.mergeSort fun x y => decide (x ≤ y)).toArray
    exact ⟨g1.os, g1.tape, g1.output, Nat.le_trans g1.size (by simp), fun k hk hne => (heap_grow_old _ _ (Nat.lt_of_lt_of_le hk g1.size)).trans (g1.block k hk hne)⟩
theorem compact_len (l : List (List UInt8)) : (Lib.compact l).length ≤ l.length := by
  unfold Lib.compact Lib.compactUpTo
  rw [List.length_map]
  exact Nat.le_trans (List.length_filter_le _ _) (by simp)
theorem compactS_any (base : Nat) (l : List (List UInt8)) (v : Value) (w : World) (hown : w.ownsRow base 9 1 v l.length (l.flatMap svS)) (hl : l.length ≤ 3000) :
    Calls Tryz.prog 42 #[v] w fun e w' => ∃ u, e = .returned u ∧ w'.ownsRow base 9 1 u (Lib.compact l).length ((Lib.compact l).flatMap svS) ∧ w.grownBy w' v.ownBlock := by
  rcases hown.2 with ⟨rfl, h0⟩ | ⟨g, cap, cur, rfl, -, hq, hnc, hcm, -⟩
  · obtain rfl : l = [] := List.eq_nil_of_length_eq_zero h0
    refine (Tryz.slices_Compact_string_empty none 0 w).mono ?_
    rintro e w' ⟨rfl, rfl⟩
    exact ⟨_, rfl, by simpa [Lib.compact, Lib.compactUpTo] using hown, ⟨rfl, rfl, rfl, Nat.le_refl _, fun _ _ _ => rfl⟩⟩
  · refine (Tryz.slices_Compact_string g 0 cap l w (holds_ownS hown) (by omega) hnc).mono ?_
    rintro e w' ⟨rfl, q, rfl⟩
    have hc := compact_len l
    have h1 := own_rowS (n := q) (m := (Lib.compact l).length) (Lib.compact l ++ List.replicate (l.length - (Lib.compact l).length) []).toArray hown (by simp; omega) hc
    have e9 : ((Lib.compact l ++ List.replicate (l.length - (Lib.compact l).length) ([] : List UInt8)).toArray.toList.take (Lib.compact l).length) = Lib.compact l := by simp
    rw [e9] at h1
    exact ⟨_, rfl, h1, grown_rowS _⟩
end Go.Proofs.YtbdfcgffkonbiaaGreatDoor
namespace Go.Proofs.YtbdfcgffkonbiaaGreatDoor
open Go Go.RowKit
set_option linter.unusedVariables false
set_option linter.unusedSimpArgs false
set_option maxRecDepth 100000
theorem strinfo11 : (Tryz.prog.info? 9).map (fun i => (i.zero, i.size, i.bytes)) = some (some (.string ⟨#[]⟩), 1, 16) := by kernel_rfl
def nmL (s : List UInt8) : List UInt8 := s.takeWhile (fun c => c != 47)
theorem nm_no {s : List UInt8} (h : (47 : UInt8) ∉ s) : nmL s = s := by
  unfold nmL
  induction s with
  | nil => rfl
  | cons c s ih =>
    have h1 : c ≠ 47 := fun e => h (by rw [e]; simp)
    rw [List.takeWhile_cons_of_pos (by simpa using h1), ih (fun h2 => h (List.mem_cons_of_mem _ h2))]
theorem nm_yes {a b : List UInt8} (h : (47 : UInt8) ∉ a) : nmL (a ++ 47 :: b) = a := by
  unfold nmL
  induction a with
  | nil => simp
  | cons c a ih =>
    have h1 : c ≠ 47 := fun e => h (by rw [e]; simp)
    rw [List.cons_append, List.takeWhile_cons_of_pos (by simpa using h1), ih (fun h2 => h (List.mem_cons_of_mem _ h2))]
theorem cut_ex (s : List UInt8) (hs : s.length ≤ maxLen) : ∃ tl fl, ∀ w, Calls Tryz.prog 61 #[.string (str s), .string (ByteArray.mk #[47])] w fun e w' => e = .returned (.tuple #[.string (str (nmL s)), .string (str tl), .bool fl]) ∧ ∃ k, w' = w.drewN k := by
  rcases byte_split s with ⟨hno, hi⟩ | ⟨a, b, e, ha, hi⟩
  · exact ⟨[], false, fun w => by rw [nm_no hno]; exact cut0_no s hi w⟩
  · refine ⟨b, true, fun w => ?_⟩
    have := cut0_yes s a b hs a.length rfl e hi w
    rw [show nmL s = a by rw [e]; exact nm_yes ha]
    exact this
theorem own_drew11 {w : World} {b : Nat} {e : TypeId} {size : Nat} {v : Value} {n : Nat} {xs : List Value} (h : w.ownsRow b e size v n xs) (k : Nat) : (w.drewN k).ownsRow b e size v n xs := own_keep h (below_drewN (Below.refl _ _))
/-- What Names comes to, ahead of its sorting. -/
def nmsU (lv : Nat → List It) (vs : Nat → Int) (p : List UInt8) : List (List UInt8) := (unL lv vs p).map (fun x => nmL (x.key.drop p.length))
def nmsL (lv : Nat → List It) (vs : Nat → Int) (p : List UInt8) : List (List UInt8) := Lib.compact ((nmsU lv vs p).mergeSort fun x y => decide (x ≤ y))
theorem un_pre {lv : Nat → List It} {vs : Nat → Int} {p : List UInt8} {x : It} (hx : x ∈ unL lv vs p) : p.length ≤ x.key.length := by
  unfold unL at hx
  split at hx
  · rename_i hc
    have hm : mayTs lv vs 16 = true := by
      cases hm : mayTs lv vs 16 with
      | true => rfl
      | false => rw [ck_no hm] at hc; cases hc
    have hpp : patB p = true := by
      cases hpp : patB p with
      | true => rfl
      | false => rw [ck_form hm (by simp [hpp])] at hc; cases hc
    rw [rng_under hm hpp] at hx
    have := (List.mem_filter.1 hx).2
    rw [List.isPrefixOf_iff_prefix] at this
    exact this.length_le
  · cases hx
theorem un_len {lv : Nat → List It} {vs : Nat → Int} {p : List UInt8} : (unL lv vs p).length ≤ 1024 := by
  unfold unL
  split
  · rename_i hc
    have hm : mayTs lv vs 16 = true := by
      cases hm : mayTs lv vs 16 with
      | true => rfl
      | false => rw [ck_no hm] at hc; cases hc
    exact rng_len hm p (endL p)
  · simp
theorem un_sz {lv : Nat → List It} {vs : Nat → Int} {p : List UInt8} (hsz : SzT lv) : SzI (unL lv vs p) := fun x hx => by
  unfold unL at hx
  split at hx
  · exact allS_sz hsz x (List.mem_filter.1 hx).1
  · cases hx
set_option maxHeartbeats 1000000 in
theorem names_any (cs : Array Value) (lv : Nat → List It) (vs : Nat → Int) (p : List UInt8) (w : World) (tab : TabAt w) (h : RdT w cs lv vs) (hsz : SzT lv) (hp : p.length ≤ maxLen) :
    Calls Tryz.prog 22 #[.agg cs, .string (str p)] w fun e w' => ∃ v, e = .returned (.tuple #[v, .int .i64 (ckE lv vs [p] : Int)]) ∧ w'.ownsRow w.heap.size 9 1 v (nmsL lv vs p).length ((nmsL lv vs p).flatMap svS) ∧ Below w.heap.size w w' := by
  have hsT := infoTc h.size
  obtain ⟨j0, hj, hy0, hy1, hy2⟩ := info_parts strinfo11
  have q1 := heap_alloc_new w (.cells cs 26)
  have bel := (Below.refl w.heap.size w).alloc (Nat.le_refl _) (.cells cs 26)
  have UN0 := under11_any cs lv vs p _ (tab.below bel) (h.below bel (Nat.le_refl _)) hsz hp
  obtain ⟨Z, hZ⟩ : ∃ Z : Ending → World → Prop, Z = fun e w' => ∃ v, e = .returned (.tuple #[v, .int .i64 (ckE lv vs [p] : Int)]) ∧ w'.ownsRow w.heap.size 9 1 v (nmsL lv vs p).length ((nmsL lv vs p).flatMap svS) ∧ Below w.heap.size w w' := ⟨_, rfl⟩
  rw [← hZ]
  have hpre := fun x (hx : x ∈ unL lv vs p) => un_pre hx
  have hlen := un_len (lv := lv) (vs := vs) (p := p)
  have hsz2 := un_sz (vs := vs) (p := p) hsz
  unfold nmsL nmsU at hZ
  obtain ⟨L, hL⟩ : ∃ L, L = unL lv vs p := ⟨_, rfl⟩
  obtain ⟨E, hE⟩ : ∃ E, E = ckE lv vs [p] := ⟨_, rfl⟩
  rw [← hL] at UN0 hZ hpre hlen hsz2
  rw [← hE] at UN0 hZ
  have UN := Lib.hid UN0
  have HZ := Lib.hid hZ
  have HP := Lib.hid hpre
  have HS := Lib.hid hsz2
  have hpz := str_size p
  have hpz2 : (str p).size ≤ maxLen := by rw [hpz]; exact hp
  unfold maxLen at hpz2
  clear h hsz tab UN0 hZ hpre hsz2 hL hE
  go_enter Tryz.func22, Tryz.ntmps22
  go_wp2_with ((with_reducible refine wpList_load_row (o := ⟨some 15, _, _, _, _, _⟩) rfl 26 (.tmp 2) rfl _ rfl _ cs (0, 0) _ q1 Tryz.underlying26 rfl hsT ?_))
  refine UN.out.mono ?_
  rintro e w2 ⟨v, rfl, own, g⟩
  have bel2 := chain bel g
  obtain ⟨al, cl, rfl, hcl, hcm, RD1⟩ := RdK.open (OwnI.rd (w := w2) own)
  have RDL := Lib.hid (show RdI w2 (.slice al L.length cl) L from RD1)
  have BEL := Lib.hid bel2
  clear own g q1 RD1 bel bel2 UN
  go_wp2_with fail
  go_loopw [8, 22] (fun o i wr => ∃ (j : Nat) (acc : List (List UInt8)), j ≤ L.length ∧ i = .int .i64 (j : Int) ∧ acc.length ≤ j ∧ Hid (acc = (L.take j).map (fun x => nmL (x.key.drop p.length))) ∧ wr.ownsRow w2.heap.size 9 1 o acc.length (acc.flatMap svS) ∧ Below w2.heap.size w2 wr) (fun _ i _ => 3000 - (intOf i).toNat)
  case atStart => exact ⟨0, [], Nat.zero_le _, rfl, Nat.le_refl _, Lib.hid rfl, World.ownsRow_nil _ _ _ _, Below.refl _ _⟩
  case round =>
    obtain ⟨j, acc, hjl, rfl, hacc, HA, hown, bel⟩ := hrel
    by_cases hlt : j < L.length
    · have R1 := RDL.out.below bel (Nat.le_refl _)
      obtain ⟨b, off, rfl, hb, c0, c1, c2, c3, c4⟩ := rdi_cells R1 j hlt
      obtain ⟨x, hx⟩ : ∃ x, x = L[j]'hlt := ⟨_, rfl⟩
      rw [← hx] at c0 c1 c2 c3 c4
      have hxm : x ∈ L := by rw [hx]; exact List.getElem_mem _
      have hpx := HP.out x hxm
      have hsx := (HS.out x hxm).1
      have HN := Lib.hid (show acc ++ [nmL (x.key.drop p.length)] = (L.take (j + 1)).map (fun x => nmL (x.key.drop p.length)) by rw [take_snoc11 hlt, List.map_append, ← HA.out, ← hx]; rfl)
      obtain ⟨tl, fl, HCUT⟩ := cut_ex (x.key.drop p.length) (by rw [List.length_drop]; omega)
      have hkz := str_size x.key
      have hkz2 : (str x.key).size ≤ maxLen := by rw [hkz]; exact hsx
      unfold maxLen at hkz2
      have ex := k8str_extract x.key p.length x.key.length
      rw [List.take_of_length_le (by simp)] at ex
      obtain ⟨rest, hrest⟩ : ∃ r, r = x.key.drop p.length := ⟨_, rfl⟩
      rw [← hrest] at HN HCUT ex
      obtain ⟨nmv, hnmv⟩ : ∃ r, r = nmL rest := ⟨_, rfl⟩
      rw [← hnmv] at HN HCUT
      have HOW := Lib.hid (own_keep hown ((Below.refl wr.heap.size wr).alloc (Nat.le_refl _) (.cells #[.string (str x.key), .int .i64 x.v.k, .int .i64 x.v.i, .string (str x.v.s), .int .i64 x.ver] 48)))
      have BL1 := Lib.hid (bel.alloc bel.size (.cells #[.string (str x.key), .int .i64 x.v.k, .int .i64 x.v.i, .string (str x.v.s), .int .i64 x.ver] 48))
      have nx := heap_alloc_new wr (.cells #[.string (str x.key), .int .i64 x.v.k, .int .i64 x.v.i, .string (str x.v.s), .int .i64 x.ver] 48)
      obtain ⟨y0, y1, y2, y3, y4, yf⟩ := block_cells5 nx
      clear hx R1 hxm hrest hnmv hown bel nx hsx
      have CUT := Lib.hid (fun w => cut_any rest nmv tl fl w HCUT)
      clear HCUT
      go_wp2_with (first | (refine (CUT.out _).mono ?_; rintro e w5 ⟨rfl, kk, hw5⟩; (have own5 := own_drew11 HOW.out kk); (have bel5 := below_drewN (k := kk) BL1.out); rw [← hw5] at own5 bel5; clear hw5) | (at_builtin; refine wpList_app1k svS_len (by decide) w2 rfl (.tmp 36) (.tmp 38) 57 rfl w2.heap.size 9 j0 (.string ⟨#[]⟩) 16 Tryz.underlying57 hj hy0 hy1 hy2 rfl _ _ rfl own5 _ nmv _ rfl rfl svS_one (by unfold maxLen; omega) (by omega) (Nat.le_refl _) bel5 ?_; intro v' w1 hown2 hb2 hq2; clear hq2))
      exact ⟨⟨j + 1, acc ++ [nmv], by omega, by push_cast; rfl, by simp; omega, HN, hown2, hb2⟩, by simp [intOf]; omega⟩

    · obtain rfl : j = L.length := by omega
      have HA2 := Lib.hid (show acc = L.map (fun x => nmL (x.key.drop p.length)) by rw [HA.out, List.take_length])
      have SO := Lib.hid (sortS_any w2.heap.size acc _ wr hown (by omega))
      have HOWN := Lib.hid hown
      clear HA
      obtain ⟨oa, on, oc, rfl⟩ := own_slice hown
      have bZ := chain BEL.out bel
      have hbz := BEL.out.size
      clear hown bel
      go_wp2_with (first | ((refine SO.out.mono ?_); rintro e w5 ⟨rfl, own5, g5⟩; (have bel5 := grown_below bZ (Nat.le_refl _) (own_base (b' := w.heap.size) HOWN.out hbz) g5); (have hsl : (acc.mergeSort fun x y => decide (x ≤ y)).length = acc.length := List.length_mergeSort _); (have own6 : w5.ownsRow w2.heap.size 9 1 (.slice oa on oc) (acc.mergeSort fun x y => decide (x ≤ y)).length ((acc.mergeSort fun x y => decide (x ≤ y)).flatMap svS) := by rw [hsl]; exact own5); (have CP := Lib.hid (compactS_any w2.heap.size _ _ w5 own6 (by rw [hsl]; omega))); (have OW6 := Lib.hid own6); clear own5 own6 g5 hsl) | ((refine CP.out.mono ?_); rintro e w6 ⟨u6, rfl, own7, g6⟩; (have bel6 := grown_below bel5 (Nat.le_refl _) (own_base (b' := w.heap.size) OW6.out hbz) g6)))
      show Z (.returned _) _
      rw [HZ.out, ← HA2.out]
      exact ⟨u6, rfl, own_base own7 hbz, bel6⟩
end Go.Proofs.YtbdfcgffkonbiaaGreatDoor
