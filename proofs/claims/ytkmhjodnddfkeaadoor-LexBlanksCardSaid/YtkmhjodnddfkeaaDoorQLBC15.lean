/- Lex: a builder's byte, a builder's text. -/
import Derived.Test.YtkmhjodnddfkeaaDoorQLBC10
import Derived.Test.YtkmhjodnddfkeaaDoorQLBC12
import Derived.Test.YtkmhjodnddfkeaaDoorQLBC14
namespace Go.Proofs.YtkmhjodnddfkeaaDoor
open Go Go.RowKit
set_option linter.unusedVariables false
set_option linter.unusedSimpArgs false
set_option maxRecDepth 100000
/-- 'out = append(out, x)', out the call's own, x an element of k cells; what it leaves alone. -/
theorem wpList_app1g16 {α : Type} {enc : α → List Value} {k : Nat} {P : Program} {ops : Array Oper} {rest : List Oper} {o : Oper} {a : Act} {Q : Exit → Act → World → Prop} {w : World} (hk : ∀ x, (enc x).length = k) (hk0 : 0 < k) (w0 : World) (hgd : o.guard = none) (s x : Operand) (t : TypeId)
    (ho : o.op = .call { callee := .builtin .append, args := #[s, x], argTypes := #[t, t] })
    (base : Nat) (e : TypeId) (i : TypeInfo) (z : Value) (bytes : Nat) (ht : P.underlying t = some (.slice e)) (hi : P.info? e = some i) (hz : i.zero = some z)
    (hsize : i.size = k) (hby : i.bytes = bytes) (hzs : z.cells.size = k)
    (v : Value) (xs : List α) (hs : a.eval s = v) (hown : w.ownsRow base e k v xs.length (xs.flatMap enc)) (e' : TypeId) (y : α) (cs : List Value) (hcs : cs = enc y)
    (hx : a.eval x = .slice (some ⟨w.heap.size, 0, none⟩) 1 1) (hone : ∀ y : α, ∀ u ∈ enc y, u.oneCell' = true)
    (h63 : xs.length + 1 ≤ maxLen) (hbytes : (xs.length + 1) * bytes ≤ 140737488355328) (hbase : base ≤ w0.heap.size) (hb : Below base w0 w)
    (hK : ∀ v' w', w'.ownsRow base e k v' (xs ++ [y]).length ((xs ++ [y]).flatMap enc) → Below base w0 w' → w.grownBy w' v.ownBlock → wpList P ops Q rest (a.put o.dst v') w') :
    wpList P ops Q (o :: rest) a (w.alloc (.cells cs.toArray e')) := by
  subst hcs
  have hb1 : base ≤ w.heap.size := Nat.le_trans hbase hb.size
  refine wpList_append_own_at _ hgd s x t ho base e i z k bytes ht hi hz hsize hby hzs hk0 v xs.length _ hs (hown.alloc _) ⟨w.heap.size, 0, none⟩ 1 1 (enc y) hx (by rw [hk, Nat.one_mul]) ?_ ?_ h63 hbytes (by simp; omega) ?_
  · intro j u hj
    have e : Addr.add ⟨w.heap.size, 0, none⟩ j = ⟨w.heap.size, j, none⟩ := by rw [Addr.add_lit, Nat.zero_add]
    rw [e, block_cell (heap_alloc_new w _) j]
    simpa using hj
  · exact hone y
  · intro v' w' h1 h2 h3 h9
    exact hK v' w' (by rw [List.length_append, List.flatMap_append]; simpa using h1) (grown_below (hb.alloc hb1 _) hbase (hown.alloc _) h2) (grown_transB (grown_none ((Below.refl w.heap.size w).alloc (Nat.le_refl _) _)) h2)
theorem u8_info : (Tryd.prog.info? 5).map (fun i => (i.zero, i.size, i.bytes)) = some (some (.int .u8 0), 1, 1) := by kernel_rfl
def one1 (c : UInt8) : List Value := [.int .u8 (c.toNat : Int)]
theorem one1_flat (l : List UInt8) : l.flatMap one1 = Lib.byteCells l := by
  induction l with
  | nil => rfl
  | cons c r ih => rw [List.flatMap_cons, ih]; rfl
theorem sizeB : (Tryd.prog.info? 38).map (·.size) = some 2 := by kernel_rfl
theorem liesB : liesAt Tryd.prog Tryd.prog.depth 38 (2 / Tryd.prog.cellsOf 38) 0 38 1 = true := by kernel_rfl
set_option maxHeartbeats 1000000 in
theorem copyCheck_none (b : Nat) (v : Value) (w : World) (h : w.heap[b]? = some (.cells #[.pointer none, v] 38 (0, 0))) :
    Calls Tryd.prog 18 #[.pointer (some ⟨b, 0, none⟩)] w fun e w' => e = .returned (.tuple #[]) ∧ w' = w.setCell ⟨b, 0, none⟩ (.pointer (some ⟨b, 0, none⟩)) := by
  obtain ⟨c0, c1, cf⟩ := block_cells2 h
  obtain ⟨j, hj, hjs⟩ := Option.map_eq_some_iff.1 sizeB
  have hsh : w.shape? b = some (38, 2) := by simp [World.shape?, h]
  go_enter Tryd.func18, Tryd.ntmps18
  go_wp2
  rw [Lib.run_to_unsafe w ⟨b, 0, none⟩ Tryd.underlying35 Tryd.underlying55 hj (by rw [hjs]; decide) hsh (Nat.zero_lt_succ 1)]
  simp only [Result.andThen]
  rw [Oper.upon_value]
  go_wp2
  rw [run_callFunc_extern Tryd.func27 (by kernel_rfl) (by kernel_rfl) (by kernel_rfl) (e := Extern.AbiNoEscape.same) (by kernel_rfl)]
  rw [Lib.run_noEscape]
  simp only [Result.andThen]
  rw [Oper.upon_value]
  go_wp2
  rw [Lib.run_from_unsafe w ⟨b, 0, none⟩ Tryd.underlying55 Tryd.underlying35 hj hsh liesB]
  simp only [Result.andThen]
  rw [Oper.upon_value]
  go_wp2
  go_end0
  exact ⟨rfl, rfl⟩
theorem copyCheck_some (b : Nat) (v : Value) (w : World) (h : w.heap[b]? = some (.cells #[.pointer (some ⟨b, 0, none⟩), v] 38 (0, 0))) :
    Calls Tryd.prog 18 #[.pointer (some ⟨b, 0, none⟩)] w fun e w' => e = .returned (.tuple #[]) ∧ w' = w := by
  obtain ⟨c0, c1, cf⟩ := block_cells2 h
  obtain ⟨j, hj, hjs⟩ := Option.map_eq_some_iff.1 sizeB
  go_enter Tryd.func18, Tryd.ntmps18
  go_wp2
  rw [Lib.run_neq_ptr_same w _ Tryd.underlying35 hj]
  go_wp2
  go_end0
  exact ⟨rfl, rfl⟩
/-- A builder in memory, from B on, behind a write at least, or fresh. -/
def Bld (B b : Nat) (l : List UInt8) (w : World) : Prop := Lib.IsBuilder 38 5 B b (Lib.byteCells l) w
theorem check_any (B b : Nat) (l : List UInt8) (w : World) (h : Bld B b l w) :
    Calls Tryd.prog 18 #[.pointer (some ⟨b, 0, none⟩)] w fun e w' => e = .returned (.tuple #[]) ∧ Lib.BuilderAt 38 5 B b (.pointer (some ⟨b, 0, none⟩)) (Lib.byteCells l) w' ∧ Below B w w' := by
  rcases h with ⟨hB, v, hb, hown, hne⟩ | ⟨hB, v, hb, hown, hne⟩
  · refine (copyCheck_none b v w hb).mono ?_
    rintro e w' ⟨rfl, rfl⟩
    refine ⟨rfl, ⟨hB, v, by simpa using set_at (i := 0) (u := .pointer (some ⟨b, 0, none⟩)) hb, hown.kept (grown_setB grown_reflB) (.inr hne), hne⟩, (Below.refl _ _).setCell (p := ⟨b, 0, none⟩) hB _⟩
  · refine (copyCheck_some b v w hb).mono ?_
    rintro e w' ⟨rfl, rfl⟩
    exact ⟨rfl, ⟨hB, v, hb, hown, hne⟩, Below.refl _ _⟩
theorem own_val {w : World} {base : Nat} {e : TypeId} {s : Nat} {v : Value} {n : Nat} {xs : List Value} (h : w.ownsRow base e s v n xs) : ∃ a c, v = Value.slice a n c := by
  rcases h.2 with ⟨h1, h2⟩ | ⟨g, cap, cur, h1, _⟩
  · exact ⟨_, _, by rw [h1, h2]⟩
  · exact ⟨_, _, h1⟩
set_option maxHeartbeats 1000000 in
theorem writeByte_any (B b : Nat) (l : List UInt8) (c : UInt8) (w : World) (h : Bld B b l w) (hB : B ≤ w.heap.size) (hl : l.length ≤ 100000) :
    Calls Tryd.prog 13 #[.pointer (some ⟨b, 0, none⟩), .int .u8 (c.toNat : Int)] w fun e w' => e = .returned .nilIface ∧ Bld B b (l ++ [c]) w' ∧ Below B w w' := by
  obtain ⟨i0, hi, hz0, hz1, hz2⟩ := info_parts u8_info
  have CC := Lib.hid (check_any B b l w h)
  have hll : (Lib.byteCells l).length = l.length := Lib.byteCells_length l
  clear h
  go_enter Tryd.func13, Tryd.ntmps13
  go_wp2_with fail
  refine CC.out.mono ?_
  rintro e w1 ⟨rfl, ⟨hbB, v, hb, hown, hne⟩, g1⟩
  rw [hll] at hown
  obtain ⟨va, vc, rfl⟩ := own_val hown
  obtain ⟨c0, c1, cf⟩ := block_cells2 hb
  have hblt := lt_of_block hb
  have HOW := Lib.hid hown
  have HB := Lib.hid hb
  obtain ⟨n, hn⟩ : ∃ n, n = l.length := ⟨_, rfl⟩
  have hl2 := hl
  rw [← hn] at c1 hne HOW HB hl
  have HN := Lib.hid hn
  clear hll hn hown hb CC
  have b1 : (w1.alloc (.cells #[.int .u8 (c.toNat : Int)] 5)).heap[b]? = some (.cells #[.pointer (some ⟨b, 0, none⟩), .slice va n vc] 38 (0, 0)) := (heap_alloc_old _ _ hblt).trans HB.out
  have B1 := Lib.hid b1
  have hBw1 : B ≤ w1.heap.size := Nat.le_trans hB g1.size
  have OW2 := Lib.hid (show w1.ownsRow B 5 1 (.slice va n vc) l.length (l.flatMap one1) by rw [one1_flat, ← HN.out]; exact HOW.out)
  have HONE := Lib.hid (show ∀ y : UInt8, ∀ u ∈ one1 y, u.oneCell' = true from fun y u hu => by simp only [one1, List.mem_cons, List.not_mem_nil, or_false] at hu; subst hu; rfl)
  clear b1
  go_wp2_with (at_builtin; refine wpList_app1g16 (enc := one1) (fun _ => rfl) (by decide) w1 rfl (.tmp 11) (.tmp 13) 36 rfl B 5 i0 (.int .u8 0) 1 Tryd.underlying36 hi hz0 hz1 hz2 rfl _ l rfl OW2.out _ c _ rfl rfl HONE.out (by unfold maxLen; omega) (by omega) hBw1 (Below.refl _ _) ?_; intro v2 w2 own2 bel2 gr2; obtain ⟨va2, vc2, rfl⟩ := own_val own2; have hb2 := (gr2.block b hblt (fun e => hne e.symm)).trans HB.out; obtain ⟨d0, d1, df⟩ := block_cells2 hb2)
  have hll3 : (l ++ [c]).length = l.length + 1 := by simp
  rw [hll3] at own2
  have hne2 : (Value.slice va2 (l.length + 1) vc2).ownBlock ≠ some b := by
    intro e
    rcases own2.2 with ⟨e2, _⟩ | ⟨g, cap', cur, e2, _, hgb, _⟩
    · rw [e2] at e; cases e
    · rw [e2] at e
      have e9 : g = b := by simpa [Value.ownBlock] using e
      rw [e9, hb2] at hgb
      cases hgb
  have own3 : w2.ownsRow B 5 1 (.slice va2 (l.length + 1) vc2) (Lib.byteCells (l ++ [c])).length (Lib.byteCells (l ++ [c])) := by
    rw [Lib.byteCells_length, ← one1_flat, hll3]
    exact own2
  go_ret
  refine ⟨rfl, .inr ⟨hbB, .slice va2 (l.length + 1) vc2, by simpa using set_at (i := 1) (u := .slice va2 (l.length + 1) vc2) hb2, own3.kept (grown_setB grown_reflB) (.inr hne2), hne2⟩, ?_⟩
  exact (g1.trans bel2).setCell (p := ⟨b, 1, none⟩) hbB _
end Go.Proofs.YtkmhjodnddfkeaaDoor
