/- Stores: Get. Written by wip/tools/gen13h.py. -/
import Derived.Test.YtbdfcgffkonbiaaDoorQST37
namespace Go.Proofs.YtbdfcgffkonbiaaDoor
open Go Go.RowKit
set_option linter.unusedVariables false
set_option linter.unusedSimpArgs false
theorem results_c3 {P : Program} {fn : Func} {p q r : Tmp} {t1 t2 t3 : TypeId} (h : fn.results = #[.cell p t1, .cell q t2, .cell r t3]) (tmps : Array Value) (w : World) (g1 g2 g3 : Nat) (u v x : Value)
    (hp : tmps.getD p undef = .pointer (some ⟨g1, 0, none⟩)) (hq : tmps.getD q undef = .pointer (some ⟨g2, 0, none⟩)) (hr : tmps.getD r undef = .pointer (some ⟨g3, 0, none⟩))
    (l1 : (loadVar t1 ⟨g1, 0, none⟩).run P w = .ok u w) (l2 : (loadVar t2 ⟨g2, 0, none⟩).run P w = .ok v w) (l3 : (loadVar t3 ⟨g3, 0, none⟩).run P w = .ok x w) :
    (results fn tmps).run P w = .ok (.tuple #[u, v, x]) w := by
  have hp' : tmps[p]?.getD undef = .pointer (some ⟨g1, 0, none⟩) := by simpa using hp
  have hq' : tmps[q]?.getD undef = .pointer (some ⟨g2, 0, none⟩) := by simpa using hq
  have hr' : tmps[r]?.getD undef = .pointer (some ⟨g3, 0, none⟩) := by simpa using hr
  simp [results, h, hp', hq', hr', asAddr, l1, l2, l3]
theorem results_c2 {P : Program} {fn : Func} {p q : Tmp} {t1 t2 : TypeId} (h : fn.results = #[.cell p t1, .cell q t2]) (tmps : Array Value) (w : World) (g1 g2 : Nat) (u v : Value)
    (hp : tmps.getD p undef = .pointer (some ⟨g1, 0, none⟩)) (hq : tmps.getD q undef = .pointer (some ⟨g2, 0, none⟩))
    (l1 : (loadVar t1 ⟨g1, 0, none⟩).run P w = .ok u w) (l2 : (loadVar t2 ⟨g2, 0, none⟩).run P w = .ok v w) :
    (results fn tmps).run P w = .ok (.tuple #[u, v]) w := by
  have hp' : tmps[p]?.getD undef = .pointer (some ⟨g1, 0, none⟩) := by simpa using hp
  have hq' : tmps[q]?.getD undef = .pointer (some ⟨g2, 0, none⟩) := by simpa using hq
  simp [results, h, hp', hq', asAddr, l1, l2]
theorem lv_int {w : World} {g : Nat} {v : Value} {t : TypeId} (h : w.heap[g]? = some (.cells #[v] t (0, 0))) : (loadVar 3 ⟨g, 0, none⟩).run Tryd.prog w = .ok v w := by
  have c := block_cell h 0
  simp at c
  simp [loadVar, go_sem, c]
theorem lv_errno {w : World} {g : Nat} {v : Value} {t : TypeId} (h : w.heap[g]? = some (.cells #[v] t (0, 0))) : (loadVar 30 ⟨g, 0, none⟩).run Tryd.prog w = .ok v w := by
  have c := block_cell h 0
  simp at c
  simp [loadVar, go_sem, c]
theorem lv_val {w : World} {g : Nat} {a b c : Value} {t : TypeId} (h : w.heap[g]? = some (.cells #[a, b, c] t (0, 0))) : (loadVar 43 ⟨g, 0, none⟩).run Tryd.prog w = .ok (.agg #[a, b, c]) w :=
  run_loadVar_row w g t 43 _ (0, 0) _ h Tryd.underlying43 rfl (by kernel_rfl)
theorem lv_edits {w : World} {g : Nat} {v : Value} {t : TypeId} (h : w.heap[g]? = some (.cells #[v] t (0, 0))) : (loadVar 57 ⟨g, 0, none⟩).run Tryd.prog w = .ok v w := by
  have c := block_cell h 0
  simp at c
  simp [loadVar, go_sem, c]
theorem get_door (n : Nat) (e a k i : Int) (s : List UInt8) (x y : Int) (W : World) (tmps : Array Value) (h4 : tmps.getD 4 undef = .pointer (some ⟨n, 0, none⟩)) (h5 : tmps.getD 5 undef = .pointer (some ⟨n + 1, 0, none⟩)) (h6 : tmps.getD 6 undef = .pointer (some ⟨n + 2, 0, none⟩))
    (q0 : W.heap[n]? = some (.cells #[.int .i64 k, .int .i64 i, .string (str s)] 43 (0, 0))) (q1 : W.heap[n + 1]? = some (.cells #[.int .i64 x] 3 (0, 0))) (q2 : W.heap[n + 2]? = some (.cells #[.int .i64 y] 30 (0, 0))) (R : Ending → World → Prop)
    (hR : ∀ W', Below n W W' → R (.returned (.tuple #[.agg #[.int .i64 0, .int .i64 0, .string (str [])], .int .i64 0, .int .i64 e])) W') :
    Leaves Tryd.prog Tryd.f25 tmps R [{ target := .fn (.func 63) #[.pointer (some ⟨n, 0, none⟩), .pointer (some ⟨n + 1, 0, none⟩), .pointer (some ⟨n + 2, 0, none⟩)], args := #[] }] (.panicking (faultC e a)) W := by
  refine leaves_cons (f := 63) (args := #[.pointer (some ⟨n, 0, none⟩), .pointer (some ⟨n + 1, 0, none⟩), .pointer (some ⟨n + 2, 0, none⟩)]) (by simp) (by simp [go_sem]) ?_
  refine (get1_catch n e a k i s x y W q0 q1 q2).mono ?_
  rintro en u' w'' ⟨rfl, rfl, r0, r1, r2, g⟩
  show Leaves _ _ _ _ [] .returning _
  exact ⟨_, results_c3 rfl _ _ n (n + 1) (n + 2) _ _ _ h4 h5 h6 (lv_val r0) (lv_int r1) (lv_errno r2), hR _ g⟩
theorem get_back (n : Nat) (v x : Value) (W : World) (tmps : Array Value) (h4 : tmps.getD 4 undef = .pointer (some ⟨n, 0, none⟩)) (h5 : tmps.getD 5 undef = .pointer (some ⟨n + 1, 0, none⟩)) (h6 : tmps.getD 6 undef = .pointer (some ⟨n + 2, 0, none⟩))
    (a b c : Value) (q0 : W.heap[n]? = some (.cells #[a, b, c] 43 (0, 0))) (q1 : W.heap[n + 1]? = some (.cells #[v] 3 (0, 0))) (q2 : W.heap[n + 2]? = some (.cells #[x] 30 (0, 0))) (R : Ending → World → Prop)
    (hR : ∀ W', Below W.heap.size W W' → R (.returned (.tuple #[.agg #[a, b, c], v, x])) W') :
    Leaves Tryd.prog Tryd.f25 tmps R [{ target := .fn (.func 63) #[.pointer (some ⟨n, 0, none⟩), .pointer (some ⟨n + 1, 0, none⟩), .pointer (some ⟨n + 2, 0, none⟩)], args := #[] }] .returning W := by
  refine leaves_cons (f := 63) (args := #[.pointer (some ⟨n, 0, none⟩), .pointer (some ⟨n + 1, 0, none⟩), .pointer (some ⟨n + 2, 0, none⟩)]) (by simp) (by simp [go_sem]) ?_
  refine (get1_idle ⟨n, 0, none⟩ ⟨n + 1, 0, none⟩ ⟨n + 2, 0, none⟩ W).mono ?_
  rintro en u' w'' ⟨rfl, rfl, g⟩
  show Leaves _ _ _ _ [] .returning _
  exact ⟨_, results_c3 rfl _ _ n (n + 1) (n + 2) _ _ _ h4 h5 h6 (lv_val ((g.block _ (lt_of_block q0)).trans q0)) (lv_int ((g.block _ (lt_of_block q1)).trans q1)) (lv_errno ((g.block _ (lt_of_block q2)).trans q2)), hR _ g⟩
def getE (s : St) (k : List UInt8) : Nat := if mayS s = false then 1 else if isB k = false then 3 else if gTB s.lv k = false then 6 else 0
def getI (s : St) (k : List UInt8) : It := if getE s k = 0 then gTI s.lv k else zI
def GetZ (w : World) (s : St) (k : List UInt8) (e : Ending) (w' : World) : Prop := e = .returned (.tuple #[.agg #[.int .i64 (getI s k).v.k, .int .i64 (getI s k).v.i, .string (str (getI s k).v.s)], .int .i64 (getI s k).ver, .int .i64 (getE s k : Int)]) ∧ Below w.heap.size w w'
theorem GetZ.no {w W : World} {s : St} {k : List UInt8} {c : Nat} (hc : getE s k = c) (h0 : c ≠ 0) (g : Below w.heap.size w W) : GetZ w s k (.returned (.tuple #[.agg #[.int .i64 0, .int .i64 0, .string (str [])], .int .i64 0, .int .i64 (c : Int)])) W := by
  unfold GetZ getI
  rw [hc, if_neg h0]
  exact ⟨rfl, g⟩
theorem GetZ.yes {w W : World} {s : St} {k : List UInt8} {x : It} (hx : gTI s.lv k = x) (hc : getE s k = 0) (g : Below w.heap.size w W) : GetZ w s k (.returned (.tuple #[.agg #[.int .i64 x.v.k, .int .i64 x.v.i, .string (str x.v.s)], .int .i64 x.ver, .int .i64 0])) W := by
  unfold GetZ getI
  rw [hc, if_pos rfl, hx]
  exact ⟨rfl, g⟩
set_option maxRecDepth 100000 in
set_option maxHeartbeats 2000000 in
theorem get13_any (cs : Array Value) (s : St) (k : List UInt8) (w : World) (tab : TabAt w) (h : RdS w cs s) (hsz : SzT s.lv) (hwf : WfT s.lv) (h100 : ∀ b, b < 16 → (s.lv b).length ≤ 100) (hk : k.length ≤ maxLen) :
    Calls Tryd.prog 25 #[.agg cs, .string (str k)] w (GetZ w s k) := by
  have hmf : ∀ (fn : Fn) (first cap : Array Value) (w : World), (Instr.makeFunc fn first cap).run Tryd.prog w = .ok (.func fn first cap) w := fun _ _ _ _ => rfl
  have hs := h.size
  have hi := infoS h.size
  obtain ⟨q1, q2, q3, q4, z4⟩ := allocs4 w (.cells cs 28) (.cells #[.int .i64 0, .int .i64 0, .string (str [])] 43) (.cells #[.int .i64 0] 3) (.cells #[.int .i64 0] 30)
  have bel : Below w.heap.size w ((((w.alloc (.cells cs 28)).alloc (.cells #[.int .i64 0, .int .i64 0, .string (str [])] 43)).alloc (.cells #[.int .i64 0] 3)).alloc (.cells #[.int .i64 0] 30)) := ((((Below.refl _ w).alloc (Nat.le_refl _) _).alloc (by simp) _).alloc (by simp; omega) _).alloc (by simp; omega) _
  have T0 := tab.below bel
  have MY0 := fun W (g : Below w.heap.size w W) => may13_any cs s W (tab.below g) (h.below g (Nat.le_refl _)) hsz hwf h100
  have TG0 := Lib.hid (fun W (g : Below w.heap.size w W) => tget_any (tC cs) s.lv s.vs k W (tab.below g) (h.tr.below g (Nat.le_refl _)) hsz hk)
  have KI0 := is_any k hk
  obtain ⟨Z, hZ⟩ : ∃ Z, Z = GetZ w s k := ⟨_, rfl⟩
  rw [← hZ]
  have HZ := Lib.hid hZ
  clear hZ z4 h hsz hwf h100 tab hk
  cases hm : mayS s with
  | false =>
    rw [hm] at MY0
    have MY := Lib.hid MY0
    have HE := Lib.hid (show getE s k = 1 by unfold getE; rw [hm]; rfl)
    clear MY0 hm TG0 KI0
    go_enter_defers Tryd.func25, Tryd.ntmps25
    go_wp2_with ((with_reducible refine wpList_load_row (o := ⟨some 10, _, _, _, _, _⟩) rfl 28 (.tmp 2) rfl _ rfl _ cs (0, 0) _ q1 Tryd.underlying28 rfl hi ?_))
    refine (MY.out _ bel).mono ?_
    rintro e w1 ⟨rfl, g⟩
    replace q1 := (g.block _ (lt_of_block q1)).trans q1
    replace q2 := (g.block _ (lt_of_block q2)).trans q2
    replace q3 := (g.block _ (lt_of_block q3)).trans q3
    replace q4 := (g.block _ (lt_of_block q4)).trans q4
    replace T0 := T0.below g
    replace bel := chain bel g
    clear g
    go_wp2_with (first | ((with_reducible refine (must_yes _ _ _).mono ?_); rintro e wm ⟨rfl, rfl⟩) | ((with_reducible refine (must_no _ _ _).mono ?_); rintro e wm ⟨rfl, rfl⟩))
    refine get_door (w.heap.size + 1) 1 0 0 0 [] 0 0 _ _ rfl rfl rfl q2 q3 q4 _ fun W' g' => ?_
    rw [HZ.out]
    exact GetZ.no (c := 1) HE.out (by decide) (bel.trans (g'.mono (by omega)))
  | true =>
    rw [hm] at MY0
    have MY := Lib.hid MY0
    have HM := Lib.hid hm
    have HMT := Lib.hid (mayS_t hm)
    clear MY0 hm
    cases hk : isB k with
    | false =>
      rw [hk] at KI0
      have KI := Lib.hid KI0
      have HE := Lib.hid (show getE s k = 3 by unfold getE; rw [HM.out, hk]; rfl)
      clear KI0 hk TG0
      go_enter_defers Tryd.func25, Tryd.ntmps25
      go_wp2_with ((with_reducible refine wpList_load_row (o := ⟨some 10, _, _, _, _, _⟩) rfl 28 (.tmp 2) rfl _ rfl _ cs (0, 0) _ q1 Tryd.underlying28 rfl hi ?_))
      refine (MY.out _ bel).mono ?_
      rintro e w1 ⟨rfl, g⟩
      replace q1 := (g.block _ (lt_of_block q1)).trans q1
      replace q2 := (g.block _ (lt_of_block q2)).trans q2
      replace q3 := (g.block _ (lt_of_block q3)).trans q3
      replace q4 := (g.block _ (lt_of_block q4)).trans q4
      replace T0 := T0.below g
      replace bel := chain bel g
      clear g
      go_wp2_with (first | ((with_reducible refine (must_yes _ _ _).mono ?_); rintro e wm ⟨rfl, rfl⟩) | ((with_reducible refine (must_no _ _ _).mono ?_); rintro e wm ⟨rfl, rfl⟩))
      refine (KI.out _ T0).mono ?_
      rintro e wk ⟨rfl, rfl⟩
      go_wp2_with (first | ((with_reducible refine (must_yes _ _ _).mono ?_); rintro e wm ⟨rfl, rfl⟩) | ((with_reducible refine (must_no _ _ _).mono ?_); rintro e wm ⟨rfl, rfl⟩))
      refine get_door (w.heap.size + 1) 3 0 0 0 [] 0 0 _ _ rfl rfl rfl q2 q3 q4 _ fun W' g' => ?_
      rw [HZ.out]
      exact GetZ.no (c := 3) HE.out (by decide) (bel.trans (g'.mono (by omega)))
    | true =>
      rw [hk] at KI0
      have KI := Lib.hid KI0
      have HG := Lib.hid (show tGet s.lv s.vs k = .tuple #[itV (gTI s.lv k), .bool (gTB s.lv k)] by unfold tGet tI tB; rw [HMT.out]; rfl)
      have HEF := Lib.hid (show gTB s.lv k = false → getE s k = 6 from fun h => by unfold getE; rw [HM.out, hk, h]; rfl)
      have HET := Lib.hid (show gTB s.lv k = true → getE s k = 0 from fun h => by unfold getE; rw [HM.out, hk, h]; rfl)
      obtain ⟨x, hx⟩ : ∃ x, x = gTI s.lv k := ⟨_, rfl⟩
      have HX := Lib.hid hx.symm
      rw [← hx] at HG
      clear KI0 hk hx
      cases hf : gTB s.lv k with
      | false =>
        rw [hf] at HG
        have HE := Lib.hid (HEF.out hf)
        clear HEF HET hf
        go_enter_defers Tryd.func25, Tryd.ntmps25
        go_wp2_with ((with_reducible refine wpList_load_row (o := ⟨some 10, _, _, _, _, _⟩) rfl 28 (.tmp 2) rfl _ rfl _ cs (0, 0) _ q1 Tryd.underlying28 rfl hi ?_))
        refine (MY.out _ bel).mono ?_
        rintro e w1 ⟨rfl, g⟩
        replace q1 := (g.block _ (lt_of_block q1)).trans q1
        replace q2 := (g.block _ (lt_of_block q2)).trans q2
        replace q3 := (g.block _ (lt_of_block q3)).trans q3
        replace q4 := (g.block _ (lt_of_block q4)).trans q4
        replace T0 := T0.below g
        replace bel := chain bel g
        clear g
        go_wp2_with (first | ((with_reducible refine (must_yes _ _ _).mono ?_); rintro e wm ⟨rfl, rfl⟩) | ((with_reducible refine (must_no _ _ _).mono ?_); rintro e wm ⟨rfl, rfl⟩))
        refine (KI.out _ T0).mono ?_
        rintro e wk ⟨rfl, rfl⟩
        go_wp2_with (first | ((with_reducible refine (must_yes _ _ _).mono ?_); rintro e wm ⟨rfl, rfl⟩) | ((with_reducible refine (must_no _ _ _).mono ?_); rintro e wm ⟨rfl, rfl⟩) | ((with_reducible refine wpList_load_part (o := ⟨some 18, _, _, _, _, _⟩) rfl 26 (.tmp 17) rfl _ 0 rfl (tC cs) _ (tC_range q1) Tryd.underlying26 rfl (tC_infoA hs) ?_)))
        refine (TG0.out _ bel).mono ?_
        rintro e w2 ⟨rfl, g⟩
        rw [HG.out]
        unfold itV
        replace q2 := (g.block _ (lt_of_block q2)).trans q2
        replace q3 := (g.block _ (lt_of_block q3)).trans q3
        replace q4 := (g.block _ (lt_of_block q4)).trans q4
        replace bel := chain bel g
        clear g
        have bA := (Below.refl w2.heap.size w2).alloc (Nat.le_refl _) (.cells #[.string (str x.key), .int .i64 x.v.k, .int .i64 x.v.i, .string (str x.v.s), .int .i64 x.ver] 53)
        obtain ⟨W7, hW7⟩ : ∃ W, W = w2.alloc (.cells #[.string (str x.key), .int .i64 x.v.k, .int .i64 x.v.i, .string (str x.v.s), .int .i64 x.ver] 53) := ⟨_, rfl⟩
        have g := bA
        rw [← hW7] at g
        replace q2 := (g.block _ (lt_of_block q2)).trans q2
        replace q3 := (g.block _ (lt_of_block q3)).trans q3
        replace q4 := (g.block _ (lt_of_block q4)).trans q4
        replace bel := chain bel g
        clear g bA
        go_wp2_with (first | ((with_reducible refine (must_yes _ _ _).mono ?_); rintro e wm ⟨rfl, rfl⟩) | ((with_reducible refine (must_no _ _ _).mono ?_); rintro e wm ⟨rfl, rfl⟩))
        rw [← hW7]
        clear hW7
        refine get_door (w.heap.size + 1) 6 0 0 0 [] 0 0 _ _ rfl rfl rfl q2 q3 q4 _ fun W' g' => ?_
        rw [HZ.out]
        exact GetZ.no (c := 6) HE.out (by decide) (bel.trans (g'.mono (by omega)))
      | true =>
        rw [hf] at HG
        have HE := Lib.hid (HET.out hf)
        clear HEF HET hf
        go_enter_defers Tryd.func25, Tryd.ntmps25
        go_wp2_with ((with_reducible refine wpList_load_row (o := ⟨some 10, _, _, _, _, _⟩) rfl 28 (.tmp 2) rfl _ rfl _ cs (0, 0) _ q1 Tryd.underlying28 rfl hi ?_))
        refine (MY.out _ bel).mono ?_
        rintro e w1 ⟨rfl, g⟩
        replace q1 := (g.block _ (lt_of_block q1)).trans q1
        replace q2 := (g.block _ (lt_of_block q2)).trans q2
        replace q3 := (g.block _ (lt_of_block q3)).trans q3
        replace q4 := (g.block _ (lt_of_block q4)).trans q4
        replace T0 := T0.below g
        replace bel := chain bel g
        clear g
        go_wp2_with (first | ((with_reducible refine (must_yes _ _ _).mono ?_); rintro e wm ⟨rfl, rfl⟩) | ((with_reducible refine (must_no _ _ _).mono ?_); rintro e wm ⟨rfl, rfl⟩))
        refine (KI.out _ T0).mono ?_
        rintro e wk ⟨rfl, rfl⟩
        go_wp2_with (first | ((with_reducible refine (must_yes _ _ _).mono ?_); rintro e wm ⟨rfl, rfl⟩) | ((with_reducible refine (must_no _ _ _).mono ?_); rintro e wm ⟨rfl, rfl⟩) | ((with_reducible refine wpList_load_part (o := ⟨some 18, _, _, _, _, _⟩) rfl 26 (.tmp 17) rfl _ 0 rfl (tC cs) _ (tC_range q1) Tryd.underlying26 rfl (tC_infoA hs) ?_)))
        refine (TG0.out _ bel).mono ?_
        rintro e w2 ⟨rfl, g⟩
        rw [HG.out]
        unfold itV
        replace q2 := (g.block _ (lt_of_block q2)).trans q2
        replace q3 := (g.block _ (lt_of_block q3)).trans q3
        replace q4 := (g.block _ (lt_of_block q4)).trans q4
        replace bel := chain bel g
        clear g
        have bA := (Below.refl w2.heap.size w2).alloc (Nat.le_refl _) (.cells #[.string (str x.key), .int .i64 x.v.k, .int .i64 x.v.i, .string (str x.v.s), .int .i64 x.ver] 53)
        have hS := heap_alloc_new w2 (.cells #[.string (str x.key), .int .i64 x.v.k, .int .i64 x.v.i, .string (str x.v.s), .int .i64 x.ver] 53)
        obtain ⟨B7, hB7⟩ : ∃ B, B = w2.heap.size := ⟨_, rfl⟩
        have hb7 : w.heap.size + 3 < B7 := by rw [hB7]; exact lt_of_block q4
        obtain ⟨W7, hW7⟩ : ∃ W, W = w2.alloc (.cells #[.string (str x.key), .int .i64 x.v.k, .int .i64 x.v.i, .string (str x.v.s), .int .i64 x.ver] 53) := ⟨_, rfl⟩
        have g := bA
        rw [← hW7] at g hS
        replace q2 := (g.block _ (lt_of_block q2)).trans q2
        replace q3 := (g.block _ (lt_of_block q3)).trans q3
        replace q4 := (g.block _ (lt_of_block q4)).trans q4
        replace bel := chain bel g
        clear g bA
        go_wp2_with (first | ((with_reducible refine (must_yes _ _ _).mono ?_); rintro e wm ⟨rfl, rfl⟩) | ((with_reducible refine (must_no _ _ _).mono ?_); rintro e wm ⟨rfl, rfl⟩))
        rw [← hW7]
        rw [← hB7] at hS ⊢
        clear hW7 hB7
        refine wp_noP ?_
        replace hS : W7.drew.heap[B7]? = some (.cells #[.string (str x.key), .int .i64 x.v.k, .int .i64 x.v.i, .string (str x.v.s), .int .i64 x.ver] 53 (0, 0)) := hS
        refine gs_start (S := fun W => W.heap[B7]? = some (.cells #[.string (str x.key), .int .i64 x.v.k, .int .i64 x.v.i, .string (str x.v.s), .int .i64 x.ver] 53 (0, 0))) (by kernel_rfl) ?_
        refine gs_take (i := 0) (d := (some 25)) (v := ?_) rfl rfl (by kernel_rfl) (fun _ _ _ h => h) (by rfl) hS (fun w' hb' => ?_) ?_
        rotate_left
        · (try go_simp); (try with_reducible rfl)
        try simp only [Act.put, List.setIfInBounds_toArray, List.set_cons_zero, List.set_cons_succ]
        refine gs_take (i := 1) (d := (some 26)) (v := ?_) rfl rfl (by kernel_rfl) (fun _ _ _ h => h) (by rfl) hS (fun w' hb' => ?_) ?_
        rotate_left
        · have z0 := block_cell hb' 1; have z1 := block_cell hb' 2; have z2 := block_cell hb' 3; (try go_simp); (try with_reducible rfl)
        try simp only [Act.put, List.setIfInBounds_toArray, List.set_cons_zero, List.set_cons_succ]
        refine gs_take (i := 2) (d := (some 27)) (v := ?_) rfl rfl (by kernel_rfl) (fun _ _ _ h => h) (by rfl) hS (fun w' hb' => ?_) ?_
        rotate_left
        · (try go_simp); (try with_reducible rfl)
        try simp only [Act.put, List.setIfInBounds_toArray, List.set_cons_zero, List.set_cons_succ]
        refine gs_take (i := 3) (d := (some 28)) (v := ?_) rfl rfl (by kernel_rfl) (fun _ _ _ h => h) (by rfl) hS (fun w' hb' => ?_) ?_
        rotate_left
        · have z0 := block_cell hb' 4; (try go_simp); (try with_reducible rfl)
        try simp only [Act.put, List.setIfInBounds_toArray, List.set_cons_zero, List.set_cons_succ]
        refine gs_run (i := 4) rfl (by kernel_rfl) (by rfl) (fun K hK => ?_)
        have c_q2_0 := block_cell q2 0
        have c_q2_1 := block_cell q2 1
        have c_q2_2 := block_cell q2 2
        have cf_q2 := fun i => block_frozen q2 i
        go_simp
        refine hK _ _ (and_keep ?_ fun hS2 => ?_)
        · exact (set_old (by omega)).trans ((set_old (by omega)).trans ((set_old (by omega)).trans (hS)))
        clear hK K hS
        have hS := hS2
        clear hS2
        try simp only [Act.put, List.setIfInBounds_toArray, List.set_cons_zero, List.set_cons_succ]
        refine gs_run (i := 5) rfl (by kernel_rfl) (by rfl) (fun K hK => ?_)
        have c_q3_0 := block_cell q3 0
        have cf_q3 := fun i => block_frozen q3 i
        go_simp
        refine hK _ _ (and_keep ?_ fun hS2 => ?_)
        · exact (set_old (by omega)).trans (hS)
        clear hK K hS
        have hS := hS2
        clear hS2
        try simp only [Act.put, List.setIfInBounds_toArray, List.set_cons_zero, List.set_cons_succ]
        refine gs_run (i := 6) rfl (by kernel_rfl) (by rfl) (fun K hK => ?_)
        have c_q4_0 := block_cell q4 0
        have cf_q4 := fun i => block_frozen q4 i
        go_simp
        refine hK _ _ (and_keep ?_ fun hS2 => ?_)
        · exact (set_old (by omega)).trans (hS)
        clear hK K hS
        have hS := hS2
        clear hS2
        try simp only [Act.put, List.setIfInBounds_toArray, List.set_cons_zero, List.set_cons_succ]
        refine gs_done (by kernel_rfl) ?_

        clear hS c_q2_0 c_q2_1 c_q2_2 c_q3_0 c_q4_0 cf_q2 cf_q3 cf_q4
        obtain ⟨WX, hWX⟩ : ∃ W, W = (((((W7.setCell ⟨w.heap.size + 1, 0, none⟩ (.int .i64 x.v.k)).setCell ⟨w.heap.size + 1, 1, none⟩ (.int .i64 x.v.i)).setCell ⟨w.heap.size + 1, 2, none⟩ (.string (str x.v.s))).setCell ⟨w.heap.size + 1 + 1, 0, none⟩ (.int .i64 x.ver)).setCell ⟨w.heap.size + 1 + 1 + 1, 0, none⟩ (.int .i64 0)).drew := ⟨_, rfl⟩
        have r0 : WX.heap[w.heap.size + 1]? = some (.cells #[.int .i64 x.v.k, .int .i64 x.v.i, .string (str x.v.s)] 43 (0, 0)) := by rw [hWX, drew_heapE]; exact (set_old (by omega)).trans ((set_old (by omega)).trans (set_at (i := 2) (u := .string (str x.v.s)) (set_at (i := 1) (u := .int .i64 x.v.i) (set_at (i := 0) (u := .int .i64 x.v.k) q2))))
        have r1 : WX.heap[w.heap.size + 2]? = some (.cells #[.int .i64 x.ver] 3 (0, 0)) := by rw [hWX, drew_heapE]; exact (set_old (by omega)).trans (set_at (i := 0) (u := .int .i64 x.ver) ((set_old (by omega)).trans ((set_old (by omega)).trans ((set_old (by omega)).trans q3))))
        have r2 : WX.heap[w.heap.size + 3]? = some (.cells #[.int .i64 0] 30 (0, 0)) := by rw [hWX, drew_heapE]; exact set_at (i := 0) (u := .int .i64 0) ((set_old (by omega)).trans ((set_old (by omega)).trans ((set_old (by omega)).trans ((set_old (by omega)).trans q4))))
        have bX : Below w.heap.size w WX := by rw [hWX]; exact (((((bel.setCell (p := ⟨w.heap.size + 1, 0, none⟩) (by show w.heap.size ≤ w.heap.size + 1; omega) _).setCell (p := ⟨w.heap.size + 1, 1, none⟩) (by show w.heap.size ≤ w.heap.size + 1; omega) _).setCell (p := ⟨w.heap.size + 1, 2, none⟩) (by show w.heap.size ≤ w.heap.size + 1; omega) _).setCell (p := ⟨w.heap.size + 1 + 1, 0, none⟩) (by show w.heap.size ≤ w.heap.size + 1 + 1; omega) _).setCell (p := ⟨w.heap.size + 1 + 1 + 1, 0, none⟩) (by show w.heap.size ≤ w.heap.size + 1 + 1 + 1; omega) _).drew
        rw [← hWX]
        clear hWX q2 q3 q4 bel
        show Exit.then _ (bodyPostD Tryd.prog Tryd.f25 Z) Exit.normal _ _
        go_wp2_with fail
        refine get_back (w.heap.size + 1) _ _ _ _ rfl rfl rfl _ _ _ r0 r1 r2 _ fun W' g' => ?_
        rw [HZ.out]
        exact GetZ.yes HX.out HE.out (chain bX g')
end Go.Proofs.YtbdfcgffkonbiaaDoor
