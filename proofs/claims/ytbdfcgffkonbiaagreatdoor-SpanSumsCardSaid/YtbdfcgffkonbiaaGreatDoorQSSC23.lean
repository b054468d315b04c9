/- Trunks: what a change hands back, whatever comes behind it; the document's Bucket and Get. Written by wip/tools/gen10k.py. -/
import Derived.Test.YtbdfcgffkonbiaaGreatDoorQSSC22
namespace Go.Proofs.YtbdfcgffkonbiaaGreatDoor
open Go Go.RowKit
set_option linter.unusedVariables false
set_option linter.unusedSimpArgs false
theorem RdI.keep {w w' : World} {v : Value} {l : List It} (h : RdI w v l) (hs : w.heap.size ≤ w'.heap.size) (hh : ∀ g, g < w.heap.size → w'.heap[g]? = w.heap[g]?) : RdI w' v l := by
  obtain ⟨ao, cap, h1, h2, h3, h4, h5⟩ := h
  refine ⟨ao, cap, h1, h2, h3, h4, fun hl => ?_⟩
  obtain ⟨b, off, h6, h7, h8⟩ := h5 hl
  refine ⟨b, off, h6, Nat.lt_of_lt_of_le h7 hs, fun i hi => ?_⟩
  rw [← h8 i hi]
  simp only [World.cell?, hh b h7]
theorem RdT.keep {w w' : World} {cs : Array Value} {lv : Nat → List It} {vs : Nat → Int} (h : RdT w cs lv vs) (hs : w.heap.size ≤ w'.heap.size) (hh : ∀ g, g < w.heap.size → w'.heap[g]? = w.heap[g]?) : RdT w' cs lv vs :=
  ⟨h.size, fun b hb => (h.leaf b hb).imp fun u x => ⟨x.1, x.2.keep hs hh⟩, h.ver⟩
/-- What a change hands back, read in any later world in which nothing below a, or of the call's own, has changed. -/
def TrA (a : Nat) (w : World) (lv : Nat → List It) (vs : Nat → Int) (c : Nat) (e : Ending) (w' : World) : Prop := ∃ cs, e = .returned (.tuple #[.agg cs, .int .i64 (c : Int)]) ∧ cs.size = 32 ∧ cs.all (·.oneCell') = true ∧
  Hid (∀ w'', w'.heap.size ≤ w''.heap.size → (∀ g, g < w'.heap.size → (g < a ∨ w.heap.size ≤ g) → w''.heap[g]? = w'.heap[g]?) → RdT w'' cs lv vs) ∧ Below w.heap.size w w'
theorem trZ_TrA {a : Nat} {w w' : World} {c : Nat} {e : Ending} (h : TrZ w c e w') : TrA a w (fun _ => []) (fun _ => 0) c e w' := ⟨zT, h.1, zT_size, zT_one, Lib.hid (fun _ _ _ => rdt_zero _), h.2⟩
theorem trO_TrA {w0 w w' : World} {cs : Array Value} {lv : Nat → List It} {vs : Nat → Int} {b : Nat} {l : List It} {ver : Int} {e : Ending} (HT : RdT w0 cs lv vs) (hb : Below w0.heap.size w0 w) (h16 : b < 16) (h : TrO w cs b l ver e w') : TrA w0.heap.size w (upd lv b l) (upd vs b ver) 0 e w' := by
  obtain ⟨u, he, own, g⟩ := h
  have hsz := hb.size
  have key : ∀ w'', w'.heap.size ≤ w''.heap.size → (∀ g, g < w'.heap.size → (g < w0.heap.size ∨ w.heap.size ≤ g) → w''.heap[g]? = w'.heap[g]?) → RdT w'' ((cs.setIfInBounds b u).setIfInBounds (16 + b) (.int .i64 ver)) (upd lv b l) (upd vs b ver) := fun w'' h1 h2 => by
    have r1 : RdT w'' cs lv vs := HT.keep (Nat.le_trans hsz (Nat.le_trans g.size h1)) (fun k hk => by
      rw [h2 k (Nat.lt_of_lt_of_le hk (Nat.le_trans hsz g.size)) (.inl hk), g.block k (Nat.lt_of_lt_of_le hk hsz), hb.block k hk])
    exact r1.put h16 (own_rdk itC_len (own_moved2 own (fun k hk hk2 => h2 k hk2 (.inr hk))))
  have r0 := key w' (Nat.le_refl _) (fun _ _ _ => rfl)
  exact ⟨_, he, r0.size, r0.one, Lib.hid key, g⟩
def pLv (lv : Nat → List It) (vs : Nat → Int) (x : It) : Nat → List It := if putTE lv vs x = 0 then upd lv (bkN x.key) (withL (lv (bkN x.key)) x) else fun _ => []
def pVs (lv : Nat → List It) (vs : Nat → Int) (x : It) : Nat → Int := if putTE lv vs x = 0 then upd vs (bkN x.key) x.ver else fun _ => 0
def dLv (lv : Nat → List It) (vs : Nat → Int) (k : List UInt8) (ver : Int) : Nat → List It := if delTE lv vs k ver = 0 then upd lv (bkN k) (withoutL (lv (bkN k)) k) else fun _ => []
def dVs (lv : Nat → List It) (vs : Nat → Int) (k : List UInt8) (ver : Int) : Nat → Int := if delTE lv vs k ver = 0 then upd vs (bkN k) ver else fun _ => 0
theorem put_TrA {w0 w w' : World} {cs : Array Value} {lv : Nat → List It} {vs : Nat → Int} {x : It} {e : Ending} (HT : RdT w0 cs lv vs) (hb : Below w0.heap.size w0 w) (h : PutP w cs lv vs x e w') : TrA w0.heap.size w (pLv lv vs x) (pVs lv vs x) (putTE lv vs x) e w' := by
  unfold PutP at h
  unfold pLv pVs
  by_cases hc : putTE lv vs x = 0
  · rw [if_pos hc] at h ⊢; rw [if_pos hc, hc]; exact trO_TrA HT hb (bkN_lt _) h
  · rw [if_neg hc] at h ⊢; rw [if_neg hc]; exact trZ_TrA h
theorem del_TrA {w0 w w' : World} {cs : Array Value} {lv : Nat → List It} {vs : Nat → Int} {k : List UInt8} {ver : Int} {e : Ending} (HT : RdT w0 cs lv vs) (hb : Below w0.heap.size w0 w) (h : DelP w cs lv vs k ver e w') : TrA w0.heap.size w (dLv lv vs k ver) (dVs lv vs k ver) (delTE lv vs k ver) e w' := by
  unfold DelP at h
  unfold dLv dVs
  by_cases hc : delTE lv vs k ver = 0
  · rw [if_pos hc] at h ⊢; rw [if_pos hc, hc]; exact trO_TrA HT hb (bkN_lt _) h
  · rw [if_neg hc] at h ⊢; rw [if_neg hc]; exact trZ_TrA h
theorem oneI_idem (x : It) : oneI (oneI x) = oneI x := by
  unfold oneI; simp [List.take_take]
theorem fewL_idem (l : List It) : fewL (fewL l) = fewL l := by
  unfold fewL
  rw [← List.map_take, List.take_take, Nat.min_self, List.map_map]
  congr 1
  funext x; exact oneI_idem x
theorem fewL_len (l : List It) : (fewL l).length ≤ 66 := by unfold fewL; rw [List.length_map]; exact List.length_take_le _ _
theorem fewL_sz (l : List It) : SzI (fewL l) := by
  intro x hx
  unfold fewL at hx
  obtain ⟨y, _, rfl⟩ := List.mem_map.1 hx
  unfold oneI
  exact ⟨Nat.le_trans (List.length_take_le _ _) (by decide), Nat.le_trans (List.length_take_le _ _) (by decide)⟩
theorem fewT_sz (lv : Nat → List It) : SzT (fun b => fewL (lv b)) := fun b _ => fewL_sz _
theorem fewT_len (lv : Nat → List It) : ∀ b, b < 16 → (fewL (lv b)).length ≤ 100 := fun b _ => Nat.le_trans (fewL_len _) (by decide)
/-- A sixteenth: the document's Bucket. -/
theorem refBucket_any (k : List UInt8) (hk : k.length ≤ maxLen) (h0 : 0 < k.length) (w : World) : Calls Tryz.prog 58 #[.string (str k)] w fun e w' => e = .returned (.int .i64 (bkN k : Int)) ∧ w = w' := by
  have hz := str_size k
  have hcc : ∀ h : 0 < (str k).size, ((str k)[0]'h).toNat = (k.getD 0 0).toNat := fun h => by rw [k8str_byte]
  have h256 := (k.getD 0 0).toNat_lt
  unfold maxLen at hk
  obtain ⟨R, hR⟩ : ∃ R, R = bkN k := ⟨_, rfl⟩
  rw [← hR]
  have HR := Lib.hid (show R = (k.getD 0 0).toNat % 16 by rw [hR]; rfl)
  clear hR
  generalize (k.getD 0 0).toNat = m at *
  go_enter Tryz.func58, Tryz.ntmps58
  go_wp2_with fail
  go_ret
  exact ⟨by rw [HR.out]; push_cast; rfl, rfl⟩
theorem at_bk {lv : Nat → List It} {vs : Nat → Int} (h : mayTs lv vs 16 = true) {b : Nat} (hb : b < 16) {x : It} (hx : x ∈ lv b) : isB x.key = true ∧ bkN x.key = b := by
  have h1 := isL_may (isT h hb) x hx
  have hB : isB x.key = true := by unfold mayI at h1; simp only [Bool.and_eq_true] at h1; exact h1.1
  have h2 := (mayT_mem (mayTs_at h hb) hx).1
  rw [bk_is hB] at h2
  exact ⟨hB, by omega⟩
theorem gT_found {lv : Nat → List It} {vs : Nat → Int} (h : mayTs lv vs 16 = true) {b : Nat} (hb : b < 16) {x : It} (hx : x ∈ lv b) : gTI lv x.key = x ∧ gTB lv x.key = true := by
  obtain ⟨h1, h2⟩ := at_bk h hb hx
  have hl := isT h hb
  have ha : atL (lv b) x.key = some x := (at_mem (isL_sorted hl)).2 ⟨hx, rfl⟩
  unfold gTI gTB gI gB
  rw [h1, h2, hl, ha]; simp
theorem gT_none {lv : Nat → List It} {vs : Nat → Int} (h : mayTs lv vs 16 = true) {k : List UInt8} (hk : ∀ b, b < 16 → ∀ x ∈ lv b, x.key ≠ k) : gTI lv k = zI ∧ gTB lv k = false := by
  unfold gTI gTB gI gB
  cases hB : isB k with
  | false => simp
  | true =>
    have hl := isT h (bkN_lt k)
    have ha : atL (lv (bkN k)) k = none := by
      cases e : atL (lv (bkN k)) k with
      | none => rfl
      | some x => exact absurd ((at_mem (isL_sorted hl)).1 e).2 (hk _ (bkN_lt k) x ((at_mem (isL_sorted hl)).1 e).1)
    rw [hl, ha]; simp
set_option maxRecDepth 100000 in
set_option maxHeartbeats 2000000 in
theorem refGet10_any (cs : Array Value) (lv : Nat → List It) (vs : Nat → Int) (k : List UInt8) (w : World) (h : RdT w cs lv vs) (hm : mayTs lv vs 16 = true) :
    Calls Tryz.prog 59 #[.agg cs, .string (str k)] w fun e w' => e = .returned (.tuple #[itV (gTI lv k), .bool (gTB lv k)]) ∧ Below w.heap.size w w' := by
  have HT := Lib.hid h
  have HM := Lib.hid hm
  obtain ⟨X, hX⟩ : ∃ X, X = gTI lv k := ⟨_, rfl⟩
  obtain ⟨Y, hY⟩ : ∃ Y, Y = gTB lv k := ⟨_, rfl⟩
  rw [← hX, ← hY]
  have HX := Lib.hid hX
  have HY := Lib.hid hY
  obtain ⟨q2, q4, -, -⟩ := two_allocs w (.cells cs 26) (.cells #[.string (str []), .int .i64 0, .int .i64 0, .string (str []), .int .i64 0] 48 )
  have bel : Below w.heap.size w ((w.alloc (.cells cs 26)).alloc (.cells #[.string (str []), .int .i64 0, .int .i64 0, .string (str []), .int .i64 0] 48 )) := ((Below.refl _ w).alloc (Nat.le_refl _) _).alloc (by simp) _
  clear h hm hX hY
  go_enter Tryz.func59, Tryz.ntmps59
  go_wp2_with fail
  have hl2 := lt_of_block q2
  obtain ⟨W0, hW0⟩ : ∃ W0, W0 = (w.alloc (.cells cs 26)).alloc (.cells #[.string (ByteArray.mk #[]), .int .i64 0, .int .i64 0, .string (ByteArray.mk #[]), .int .i64 0] 48 ) := ⟨_, rfl⟩
  change W0 = (w.alloc (.cells cs 26)).alloc (.cells #[.string (str []), .int .i64 0, .int .i64 0, .string (str []), .int .i64 0] 48 ) at hW0
  rw [← hW0] at q2 q4 bel hl2
  change W0 = (w.alloc (.cells cs 26)).alloc (.cells #[.string (ByteArray.mk #[]), .int .i64 0, .int .i64 0, .string (ByteArray.mk #[]), .int .i64 0] 48 ) at hW0
  rw [← hW0]
  clear hW0
  go_loop [6] (fun i => ∃ b : Nat, b ≤ 16 ∧ i = .int .i64 (b : Int) ∧ Hid (∀ c, c < b → ∀ x ∈ lv c, x.key ≠ k)) (fun i => 20 - (intOf i).toNat)
  case atStart => exact ⟨0, by omega, rfl, Lib.hid (fun c hc => absurd hc (by omega))⟩
  case round =>
    obtain ⟨b, hb, rfl, HN⟩ := hrel
    by_cases hlt : b < 16
    · have hlti : (b : Int) < 16 := by omega
      obtain ⟨u, hu, hru⟩ := HT.out.leaf b hlt
      have c1 := (block_cell q2 b).trans hu
      obtain ⟨ao, cap, rfl, hc, hmm, hr⟩ := RdK.open hru
      have hru' := hru.below bel (Nat.le_refl _)
      have AT := Lib.hid (refAt_any (.slice ao (lv b).length cap) (lv b) k W0 hru')
      have HRU := Lib.hid (show RdI W0 (.slice ao (lv b).length cap) (lv b) from hru')
      clear hr hu hru hru'
      go_wp2_with fail
      refine AT.out.mono ?_
      rintro e w' ⟨rfl, i, rfl, hi⟩
      rcases hi with ⟨rfl, hnone⟩ | ⟨j, hj, rfl, hjk⟩
      · have HN2 := Lib.hid (show ∀ c, c < b + 1 → ∀ x ∈ lv c, x.key ≠ k from fun c hc => by
          by_cases e : c = b
          · subst e; exact hnone
          · exact HN.out c (by omega))
        clear hnone
        go_wp2_with fail
        exact ⟨⟨b + 1, by omega, by push_cast; rfl, HN2⟩, by simp [intOf]; omega⟩
      · have HF := gT_found HM.out hlt (List.getElem_mem hj)
        rw [hjk, ← HX.out, ← HY.out] at HF
        obtain ⟨bb, off, rfl, hbb, d0, d1, d2, d3, d4⟩ := rdi_cells HRU.out j hj
        obtain ⟨z, hz⟩ : ∃ z, z = (lv b)[j] := ⟨_, rfl⟩
        rw [← hz] at d0 d1 d2 d3 d4 HF
        have HF1 := Lib.hid HF.1
        have HF2 := Lib.hid HF.2
        obtain ⟨e0, e1, e2, e3, e4, ez⟩ := block_cells5 q4
        clear hz HF hjk
        go_wp2_with fail
        obtain ⟨r0, r1, r2, r3, r4, bel9⟩ := set5 (.string (str z.key)) (.int .i64 z.v.k) (.int .i64 z.v.i) (.string (str z.v.s)) (.int .i64 z.ver) q4 bel (by omega)
        refine bodyPost_ret (v := .tuple #[.agg #[.string (str z.key), .int .i64 z.v.k, .int .i64 z.v.i, .string (str z.v.s), .int .i64 z.ver], .bool true]) (by simp [results, Tryz.results59, go_sem, r0, r1, r2, r3, r4]) rfl ⟨by rw [HF1.out, HF2.out]; rfl, bel9⟩
    · obtain rfl : b = 16 := by omega
      have HF := gT_none HM.out HN.out
      rw [← HX.out, ← HY.out] at HF
      have HF1 := Lib.hid HF.1
      have HF2 := Lib.hid HF.2
      obtain ⟨e0, e1, e2, e3, e4, ez⟩ := block_cells5 q4
      clear HF
      go_wp2_with fail
      obtain ⟨r0, r1, r2, r3, r4, bel9⟩ := set5 (.string (str [])) (.int .i64 0) (.int .i64 0) (.string (str [])) (.int .i64 0) q4 bel (by omega)
      refine bodyPost_ret (v := .tuple #[.agg #[.string (str []), .int .i64 0, .int .i64 0, .string (str []), .int .i64 0], .bool false]) (by simp [results, Tryz.results59, go_sem, r0, r1, r2, r3, r4, str_e]) rfl ⟨by rw [HF1.out, HF2.out]; rfl, bel9⟩
end Go.Proofs.YtbdfcgffkonbiaaGreatDoor
