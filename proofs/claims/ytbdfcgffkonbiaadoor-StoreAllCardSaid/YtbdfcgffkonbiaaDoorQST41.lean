/- Stores: all; what Undo wants. Written by wip/tools/gen13u.py. -/
import Derived.Test.YtbdfcgffkonbiaaDoorQST40
namespace Go.Proofs.YtbdfcgffkonbiaaDoor
open Go Go.RowKit
set_option linter.unusedVariables false
set_option linter.unusedSimpArgs false
def vB (x y : V7.V) : Bool := decide (x.k = y.k) && decide (x.i = y.i) && decide (x.s = y.s)
theorem vB_iff {x y : V7.V} : vB x y = true ↔ x = y := by
  obtain ⟨a, b, c⟩ := x
  obtain ⟨d, e, f⟩ := y
  simp [vB, and_assoc]
/-- What is not there. -/
def eV0 : V7.V := ⟨0, 0, []⟩
def undoM : List It → List It → List Ed
  | [], [] => []
  | x :: a, [] => ⟨x.key, x.v⟩ :: undoM a []
  | [], y :: b => ⟨y.key, eV0⟩ :: undoM [] b
  | x :: a, y :: b =>
    if ltB x.key y.key = true then ⟨x.key, x.v⟩ :: undoM a (y :: b)
    else if ltB y.key x.key = true then ⟨y.key, eV0⟩ :: undoM (x :: a) b
    else if vB x.v y.v = true then undoM a b else ⟨x.key, x.v⟩ :: undoM a b
termination_by a b => a.length + b.length
theorem um_nil : undoM [] [] = [] := by rw [undoM]
theorem um_a0 (x : It) (a : List It) : undoM (x :: a) [] = ⟨x.key, x.v⟩ :: undoM a [] := by rw [undoM]
theorem um_b0 (y : It) (b : List It) : undoM [] (y :: b) = ⟨y.key, eV0⟩ :: undoM [] b := by rw [undoM]
theorem um_a {x y : It} {a b : List It} (h : ltB x.key y.key = true) : undoM (x :: a) (y :: b) = ⟨x.key, x.v⟩ :: undoM a (y :: b) := by rw [undoM, if_pos h]
theorem um_b {x y : It} {a b : List It} (h : ltB x.key y.key = false) (h2 : ltB y.key x.key = true) : undoM (x :: a) (y :: b) = ⟨y.key, eV0⟩ :: undoM (x :: a) b := by rw [undoM, if_neg (by rw [h]; decide), if_pos h2]
theorem um_eq {x y : It} {a b : List It} (h : ltB x.key y.key = false) (h2 : ltB y.key x.key = false) (h3 : vB x.v y.v = true) : undoM (x :: a) (y :: b) = undoM a b := by rw [undoM, if_neg (by rw [h]; decide), if_neg (by rw [h2]; decide), if_pos h3]
theorem um_ne {x y : It} {a b : List It} (h : ltB x.key y.key = false) (h2 : ltB y.key x.key = false) (h3 : vB x.v y.v = false) : undoM (x :: a) (y :: b) = ⟨x.key, x.v⟩ :: undoM a b := by rw [undoM, if_neg (by rw [h]; decide), if_neg (by rw [h2]; decide), if_neg (by rw [h3]; decide)]
/-- A reading that lives through whatever becomes of the blocks of some types. -/
def LiveT (t : TypeId → Prop) (w : World) (v : Value) (A : List It) : Prop := ∀ W : World, (∀ k, k < w.heap.size → (∀ C ty fr, w.heap[k]? = some (.cells C ty fr) → ¬ t ty) → W.heap[k]? = w.heap[k]?) → w.heap.size ≤ W.heap.size → RdI W v A
theorem LiveT.rd {t : TypeId → Prop} {w : World} {v : Value} {A : List It} (h : LiveT t w v A) : RdI w v A := h w (fun _ _ _ => rfl) (Nat.le_refl _)
theorem LiveT.later {t : TypeId → Prop} {w w' : World} {v : Value} {A : List It} (h : LiveT t w v A) (hs : w.heap.size ≤ w'.heap.size) (hk : ∀ k, k < w.heap.size → (∀ C ty fr, w.heap[k]? = some (.cells C ty fr) → ¬ t ty) → w'.heap[k]? = w.heap[k]?) : LiveT t w' v A :=
  fun W hW hs2 => h W (fun k h1 h2 => (hW k (by omega) (fun C ty fr e => h2 C ty fr (by rw [← hk k h1 h2]; exact e))).trans (hk k h1 h2)) (by omega)
theorem LiveT.below {t : TypeId → Prop} {w w' : World} {v : Value} {A : List It} (h : LiveT t w v A) (g : Below w.heap.size w w') : LiveT t w' v A := h.later g.size fun k hk _ => g.block k hk
theorem LiveT.drew {t : TypeId → Prop} {w : World} {v : Value} {A : List It} (h : LiveT t w v A) : LiveT t w.drew v A := h.later (Nat.le_refl _) fun _ _ _ => rfl
theorem own_live {w : World} {base : Nat} {v : Value} {A : List It} (h : w.ownsRow base 53 5 v A.length (A.flatMap itC)) {t : TypeId → Prop} (ht : ¬ t 53) : LiveT t w v A :=
  fun W hW hs => by
    refine own_rdk itC_len (base := base) (e := 53) ⟨h.1, ?_⟩
    rcases h.2 with h | ⟨q, cap, cur, hv, hb, hq, h3, h4, h5, h6⟩
    · exact .inl h
    · exact .inr ⟨q, cap, cur, hv, hb, (hW q (lt_of_block hq) fun C ty fr e => by rw [hq] at e; injection e with e; injection e with _ e _; rw [← e]; exact ht).trans hq, h3, h4, h5, h6⟩
/-- Growth of a row of such a type leaves the reading. -/
theorem LiveT.grown {t : TypeId → Prop} {e : TypeId} {w w' : World} {v : Value} {A : List It} (h : LiveT t w v A) {b k n : Nat} {u : Value} {xs : List Value} (ho : w.ownsRow b e k u n xs) (he : t e) (g : w.grownBy w' u.ownBlock) : LiveT t w' v A :=
  h.later g.size fun j hj hn => g.block j hj (by
    rcases ho.2 with h1 | ⟨q, cap, cur, hv, _, hq, _⟩
    · rw [h1.1]; simp [Value.ownBlock]
    · rw [hv]
      intro e
      simp [Value.ownBlock] at e
      subst e
      exact hn _ _ _ hq he)
theorem LiveT.cell {t : TypeId → Prop} {w : World} {v u : Value} {A : List It} {B i : Nat} {ty : TypeId} {C : Array Value} (h : LiveT t w v A) (q : w.heap[B]? = some (.cells C ty (0, 0))) (ht : t ty) : LiveT t (w.setCell ⟨B, i, none⟩ u) v A :=
  h.later (by simp) fun k hk hn => set_old (fun e => by subst e; exact hn _ _ _ q ht)
/-- The rest of a slice. -/
def slT (ao : Option Addr) (cap : Nat) : Option Addr := if cap = 1 then ao else ao.map (·.add (1 * 5))
theorem LiveT.tail {t : TypeId → Prop} {w : World} {ao : Option Addr} {n cap : Nat} {x : It} {A : List It} (hn : (x :: A).length = n) (h : LiveT t w (.slice ao n cap) (x :: A)) : LiveT t w (.slice (slT ao cap) (n - 1) (cap - 1)) A :=
  fun W hW hs => by
    have h1 := RdK.sliced itC_len (h W hW hs) 1 n (by simp at hn; omega) (Nat.le_refl _)
    have e : ((x :: A).drop 1).take (n - 1) = A := by rw [List.drop_one, List.tail_cons]; exact List.take_of_length_le (by simp at hn; omega)
    rw [e] at h1
    exact h1
theorem sliceI_op {op : Oper} {a : Act} {w : World} (s x : Operand) (ho : op.op = .slice 22 s (some x) none none) (ti : TypeInfo) (hi : Tryd.prog.info? 53 = some ti) (hz : ti.size = 5)
    (ao : Option Addr) (n cap : Nat) (hs : a.eval s = .slice ao n cap) (X : Int) (hx : a.eval x = .int .i64 X) (i : Nat) (h0 : X = (i : Int)) (h2 : i ≤ n) (hnc : n ≤ cap) :
    (execOp a.eval op).run Tryd.prog w = .ok (.value (.slice (if cap = i then ao else ao.map (·.add (i * 5))) (n - i) (cap - i))) w := by
  have h0' : 0 ≤ X := by omega
  have e1 : X.toNat = i := by omega
  subst h0
  simp [execOp, ho, hs, hx, Instr.sliceAt, Instr.slice, run_underlying Tryd.underlying22, Instr.sliceBounds, Instr.sliceBound, asIntOf, h0', (by omega : (i : Int) ≤ (n : Int)), (by omega : (n : Int) ≤ cap), (by omega : (i : Int) ≤ max (n : Int) 0), sizeOf, typeInfo, hi, hz, h2, Result.andThen]
theorem slice1_op {op : Oper} {a : Act} {w : World} (s x : Operand) (ho : op.op = .slice 22 s (some x) none none) (ao : Option Addr) (n cap : Nat) (hs : a.eval s = .slice ao n cap) (hx : a.eval x = .int .i64 1) (h1 : 1 ≤ n) (hnc : n ≤ cap) :
    (execOp a.eval op).run Tryd.prog w = .ok (.value (.slice (slT ao cap) (n - 1) (cap - 1))) w := by
  obtain ⟨i0, hi, hz0, hz1, hz2⟩ := info_parts item_info
  exact sliceI_op s x ho i0 hi hz1 ao n cap hs 1 hx 1 rfl h1 hnc
theorem it_head {w : World} {ao : Option Addr} {n cap : Nat} {x : It} {A : List It} (h : RdI w (.slice ao n cap) (x :: A)) :
    ∃ b off, ao = some ⟨b, off, none⟩ ∧ b < w.heap.size ∧ w.cell? ⟨b, off, none⟩ = some (.string (str x.key)) ∧ w.cell? ⟨b, off + 1, none⟩ = some (.int .i64 x.v.k) ∧ w.cell? ⟨b, off + 2, none⟩ = some (.int .i64 x.v.i) ∧ w.cell? ⟨b, off + 3, none⟩ = some (.string (str x.v.s)) ∧ n = (x :: A).length ∧ n ≤ cap ∧ cap ≤ maxLen := by
  obtain ⟨b, off, h1, h2, h3⟩ := RdK.cell itC_len h 0 (by simp)
  obtain ⟨ao', cap', e, e1, e2, -⟩ := h
  cases e
  exact ⟨b, off, h1, h2, by simpa [itC] using h3 0 (by omega), by simpa [itC] using h3 1 (by omega), by simpa [itC] using h3 2 (by omega), by simpa [itC] using h3 3 (by omega), rfl, e1, e2⟩
def lenV : Value → Nat
  | .slice _ n _ => n
  | _ => 0
/-- All items of a store that may be. -/
theorem scL_all {s : St} (h : mayS s = true) : scL s.lv s.vs [] [] 1024 = allS s.lv := by
  have hm := mayS_t h
  unfold scL
  rw [ck_ok hm (by decide), if_pos rfl, rng_all hm]
  exact List.take_of_length_le (allS_len hm)
def AllZ (w : World) (s : St) (e : Ending) (w' : World) : Prop := if mayS s = true then ∃ v, e = .returned v ∧ w'.ownsRow w.heap.size 53 5 v (allS s.lv).length ((allS s.lv).flatMap itC) ∧ Below w.heap.size w w' else e = .panicked (faultC 1 0) ∧ Below w.heap.size w w'
set_option maxRecDepth 100000 in
set_option maxHeartbeats 1000000 in
theorem all13_any (cs : Array Value) (s : St) (w : World) (tab : TabAt w) (h : RdS w cs s) (hsz : SzT s.lv) (hwf : WfT s.lv) (h100 : ∀ b, b < 16 → (s.lv b).length ≤ 100) :
    Calls Tryd.prog 80 #[.agg cs] w (AllZ w s) := by
  have hs := h.size
  have hi := infoS h.size
  have q1 := heap_alloc_new w (.cells cs 28)
  have bel := (Below.refl w.heap.size w).alloc (Nat.le_refl _) (.cells cs 28)
  obtain ⟨W1, hW1⟩ : ∃ W1, W1 = w.alloc (.cells cs 28) := ⟨_, rfl⟩
  rw [← hW1] at q1 bel
  have MY0 := may13_any cs s W1 (tab.below bel) (h.below bel (Nat.le_refl _)) hsz hwf h100
  obtain ⟨Z, hZ⟩ : ∃ Z, Z = AllZ w s := ⟨_, rfl⟩
  rw [← hZ]
  have HZ := Lib.hid hZ
  clear hZ
  cases hm : mayS s with
  | false =>
    rw [hm] at MY0
    have MY := Lib.hid MY0
    have HM := Lib.hid hm
    have BW := Lib.hid bel
    clear MY0 hm bel h hsz hwf h100 tab
    subst hW1
    go_enter Tryd.func80, Tryd.ntmps80
    go_wp2_with ((with_reducible refine wpList_load_row (o := ⟨some 5, _, _, _, _, _⟩) rfl 28 (.tmp 1) rfl _ rfl _ cs (0, 0) _ q1 Tryd.underlying28 rfl hi ?_))
    refine MY.out.mono ?_
    rintro e w1 ⟨rfl, g⟩
    have BF := Lib.hid (chain BW.out g)
    clear g
    go_wp2_with (first | ((with_reducible refine (must_yes _ _ _).mono ?_); rintro e wm ⟨rfl, rfl⟩) | ((with_reducible refine (must_no _ _ _).mono ?_); rintro e wm ⟨rfl, rfl⟩))
    refine ⟨rfl, ?_⟩
    rw [HZ.out]
    unfold AllZ
    rw [HM.out, if_neg (by decide)]
    exact ⟨rfl, BF.out⟩
  | true =>
    rw [hm] at MY0
    have MY := Lib.hid MY0
    have HM := Lib.hid hm
    have HC := Lib.hid (show ckE s.lv s.vs [[], []] = 0 from ck_ok (mayS_t hm) (by decide))
    have HS := Lib.hid (scL_all hm)
    have SC := Lib.hid (fun W (g : Below W1.heap.size W1 W) => scan_any (tC cs) s.lv s.vs [] [] 1024 W (tab.below (chain bel g)) (h.tr.below (chain bel g) (Nat.le_refl _)) hsz (by simp [maxLen]) (by simp [maxLen]))
    have BW := Lib.hid bel
    clear MY0 hm bel h hsz hwf h100 tab
    subst hW1
    go_enter Tryd.func80, Tryd.ntmps80
    go_wp2_with ((with_reducible refine wpList_load_row (o := ⟨some 5, _, _, _, _, _⟩) rfl 28 (.tmp 1) rfl _ rfl _ cs (0, 0) _ q1 Tryd.underlying28 rfl hi ?_))
    refine MY.out.mono ?_
    rintro e w1 ⟨rfl, g⟩
    have q1 := (g.block _ (lt_of_block q1)).trans q1
    have SC := Lib.hid (SC.out w1 g)
    have BF := Lib.hid (chain BW.out g)
    clear g
    go_wp2_with (first | ((with_reducible refine wpList_load_part (o := ⟨some 10, _, _, _, _, _⟩) rfl 26 (.tmp 9) rfl _ 0 rfl (tC cs) _ (tC_range q1) Tryd.underlying26 rfl (tC_infoA hs) ?_)) | ((with_reducible refine (must_yes _ _ _).mono ?_); rintro e wm ⟨rfl, rfl⟩) | ((with_reducible refine (must_no _ _ _).mono ?_); rintro e wm ⟨rfl, rfl⟩))
    refine SC.out.mono ?_
    rintro e w2 ⟨v, rfl, own, g⟩
    rw [HC.out]
    rw [HS.out] at own
    have OW := Lib.hid (own_base own BF.out.size)
    have BG := Lib.hid (chain BF.out g)
    clear g own
    go_wp2_with (first | ((with_reducible refine (must_yes _ _ _).mono ?_); rintro e wm ⟨rfl, rfl⟩) | ((with_reducible refine (must_no _ _ _).mono ?_); rintro e wm ⟨rfl, rfl⟩))
    show Z _ _
    rw [HZ.out]
    unfold AllZ
    rw [HM.out, if_pos rfl]
    exact ⟨_, rfl, OW.out, BG.out⟩
end Go.Proofs.YtbdfcgffkonbiaaDoor
