/- A region whose order is open and that ends in a chain of stores: behind operation number n nothing is asked of the world. -/
/- Trunks: the law TrunkDoes. Written by wip/tools/gen10n.py. -/
/- Values: their bytes, by the document. -/
/- Trunks: Weight; the document's All. Written by wip/tools/gen10t.py. -/
/- Stores: what is read of one, and whether one may be: mathematics. -/
import Derived.Test.YtbdfcgffkonbiaaDoorQSN26
import Derived.Test.YtbdfcgffkonbiaaDoorQSN28
import Derived.Test.YtbdfcgffkonbiaaDoorQSN11
import Derived.Test.YtbdfcgffkonbiaaDoorQSN7
import Derived.Test.YtbdfcgffkonbiaaDoorQSN24
namespace Go.Proofs.YtbdfcgffkonbiaaDoor
open Go.RowKit
set_option linter.unusedVariables false
section
variable {P : Program} {ops : Array Oper} {Q : Exit → Act → World → Prop} {n : Nat}
/-- What is left of the region, whatever was asked of the world ahead. -/
def wpO (P : Program) (ops : Array Oper) (n : Nat) (Q : Exit → Act → World → Prop) (f : Nat) (l : Array Bool) (a : Act) (w : World) : Prop :=
  ∀ S : World → Prop, orders P .any ops n Q S f l a w
theorem t_tail {i : Nat} {oi : Oper} {f : Nat} {l : Array Bool} {a : Act} {w : World} (hi : ops[i]? = some oi) (hr : Region.ready .any ops l = [i]) (hin : decide (n ≤ i) = true) (hw : Region.wanted oi (yielded ops a.tmps) = true)
    (h : ∀ K : Act → World → Prop, (∀ a' w', wpO P ops n Q f (l.setIfInBounds i true) a' w' → K a' w') → oi.wp P a w K Q) : wpO P ops n Q (f + 1) l a w := by
  intro S
  refine ⟨fun e => (by rw [hr] at e; cases e), ?_⟩
  intro j hj
  rw [hr, List.mem_singleton] at hj
  subst hj
  unfold wpOp
  simp only [hi, hw, if_true]
  exact .inl (h _ fun a' w' k => ⟨fun hlt => absurd hlt (Nat.not_lt_of_le (of_decide_eq_true hin)), k S⟩)
theorem t_into {f : Nat} {l : Array Bool} {a : Act} {w : World} (h : wpO P ops n Q f l a w) : wpT P ops n Q f l a w := fun _ => h _
theorem t_over {f : Nat} {l : Array Bool} {a : Act} {w : World} (hr : Region.ready .any ops l = []) (h : Q .normal a w) : wpO P ops n Q f l a w := by
  intro S
  cases f with
  | zero => exact ⟨hr, h⟩
  | succ f => exact ⟨fun _ => h, by rw [hr]; simp⟩
end
end Go.Proofs.YtbdfcgffkonbiaaDoor
namespace Go.Proofs.YtbdfcgffkonbiaaDoor
open Go Go.RowKit
set_option linter.unusedVariables false
set_option linter.unusedSimpArgs false
theorem infoI {a b c d e : Value} : (Tryd.prog.info? 53).map (·.size) = some (#[a, b, c, d, e] : Array Value).size := by kernel_rfl
theorem itc_one (x : It) : ((#[.string (str x.key), .int .i64 x.v.k, .int .i64 x.v.i, .string (str x.v.s), .int .i64 x.ver] : Array Value)).all (·.oneCell') = true := by simp [Value.oneCell']
theorem TrA.mk {w0 w w' : World} {cs : Array Value} {lv : Nat → List It} {vs : Nat → Int} {c : Nat} {e : Ending} (h : TrA w0.heap.size w lv vs c e w') : ∃ cs, e = .returned (.tuple #[.agg cs, .int .i64 (c : Int)]) ∧ cs.size = 32 ∧ cs.all (·.oneCell') = true ∧ Hid (∀ w'', w'.heap.size ≤ w''.heap.size → (∀ g, g < w'.heap.size → (g < w0.heap.size ∨ w.heap.size ≤ g) → w''.heap[g]? = w'.heap[g]?) → RdT w'' cs lv vs) ∧ Below w.heap.size w w' := h
end Go.Proofs.YtbdfcgffkonbiaaDoor
namespace Go.Proofs.YtbdfcgffkonbiaaDoor.V7
open Go Go.RowKit
set_option linter.unusedVariables false
set_option linter.unusedSimpArgs false
theorem ret_str {a b : ByteArray} (h : a = b) : Ending.returned (.string a) = Ending.returned (.string b) := by rw [h]
theorem one_str (c : UInt8) (l : List UInt8) : (ByteArray.mk #[c]) ++ str l = str (c :: l) := by
  rw [show ByteArray.mk #[c] = str [c] from rfl, str_append]; rfl
theorem rd_block {w : World} {g : Nat} {l : List UInt8} {t : TypeId} (h : w.heap[g]? = some (.cells (l.map bv).toArray t (0, 0))) (hm : l.length ≤ maxLen) : Rd w (.slice (some ⟨g, 0, none⟩) l.length l.length) l := by
  refine ⟨some ⟨g, 0, none⟩, l.length, rfl, Nat.le_refl _, hm, by simp, ?_⟩
  intro _
  refine ⟨g, 0, rfl, lt_of_block h, ?_⟩
  intro i hi
  rw [Nat.zero_add, block_cell h]
  simp [hi]
theorem conv_one (w : World) (i : Int) (c : UInt8) (n : Int) (hn : n = (c.toNat : Int)) : (convert 126 9 (.slice (some ⟨w.heap.size + 1, 0, none⟩) 1 1)).run Tryd.prog ((w.alloc (.cells #[.int .i64 1, .int .i64 i, .string (str [])] 43)).alloc (.cells #[.int .u8 n] 5)) = .ok (.string (str [c])) ((w.alloc (.cells #[.int .i64 1, .int .i64 i, .string (str [])] 43)).alloc (.cells #[.int .u8 n] 5)) := by
  subst hn
  have q := (two_allocs w (.cells #[.int .i64 1, .int .i64 i, .string (str [])] 43) (.cells #[.int .u8 (c.toNat : Int)] 5)).2.1
  exact conv_rd (P := Tryd.prog) (rd_block (l := [c]) q (by simp [maxLen])) 126 5 9 Tryd.underlying126 Tryd.underlying5 Tryd.underlying9
set_option maxRecDepth 100000 in
theorem refEncode_any (k i : Int) (s : List UInt8) (w : World) (hs : s.length ≤ maxLen) (hI : I64 i) (hm : mayB ⟨k, i, s⟩ = true) :
    Calls Tryd.prog 62 #[.agg #[.int .i64 k, .int .i64 i, .string (str s)]] w fun e w' => e = .returned (.string (str (encL ⟨k, i, s⟩))) ∧ Below w.heap.size w w' := by
  have hc := hm
  simp only [mayB, decide_eq_true_eq] at hc
  rcases hc with ⟨rfl, rfl, rfl⟩ | ⟨rfl, h2, rfl⟩ | ⟨rfl, rfl⟩ | ⟨rfl, rfl, h3⟩
  · have e : encL ⟨0, 0, []⟩ = [0] := by decide
    rw [e]
    clear e hm hs hI
    go_enter Tryd.func62, Tryd.ntmps62
    go_wp2_with fail
    go_ret
    exact ⟨ret_str rfl, (Below.refl _ _).alloc (Nat.le_refl _) _⟩
  · rcases h2 with rfl | rfl
    · have e : encL ⟨1, 0, []⟩ = [1, 0] := by decide
      rw [e]
      clear e hm hs hI
      have k1 := conv_one w 0 0 0 rfl
      go_enter Tryd.func62, Tryd.ntmps62
      go_wp2_with fail
      go_ret
      exact ⟨ret_str rfl, ((Below.refl _ _).alloc (Nat.le_refl _) _).alloc (by simp) _⟩
    · have e : encL ⟨1, 1, []⟩ = [1, 1] := by decide
      rw [e]
      clear e hm hs hI
      have k1 := conv_one w 1 1 1 rfl
      go_enter Tryd.func62, Tryd.ntmps62
      go_wp2_with fail
      go_ret
      exact ⟨ret_str rfl, ((Below.refl _ _).alloc (Nat.le_refl _) _).alloc (by simp) _⟩
  · have e : encL ⟨2, i, []⟩ = 2 :: putL (zigN i) := by unfold encL; rw [if_neg (by rw [hm]; simp)]; rfl
    rw [e]
    have ZI := fun w => zig_any i hI w
    have PU := fun w => refPut_any (zigN i : Int) (zigN i) rfl (zigN_u64 hI) w
    have hsz : (str (putL (zigN i))).size ≤ 10 := by rw [str_size]; exact (putL_len _).2
    generalize putL (zigN i) = l at PU hsz
    generalize zigN i = z at ZI PU
    clear e hm hs hI
    have bel : ∀ o, Below w.heap.size w (w.alloc o) := fun o => (Below.refl _ _).alloc (Nat.le_refl _) o
    go_enter Tryd.func62, Tryd.ntmps62
    go_wp2_with fail
    refine (ZI _).mono ?_
    rintro e w1 ⟨rfl, rfl⟩
    go_wp2_with fail
    refine (PU _).mono ?_
    rintro e w1 ⟨rfl, g⟩
    go_wp2_with fail
    go_ret
    exact ⟨ret_str (one_str 2 l), (bel _).trans (g.mono (bel _).size)⟩
  · have e : encL ⟨3, 0, s⟩ = 3 :: (putL s.length ++ s) := by unfold encL; rw [if_neg (by rw [hm]; simp)]; simp [textL]; omega
    rw [e]
    have TX := fun w => refText_at s (by omega) w
    have hsz : (str (putL s.length ++ s)).size ≤ 74 := by rw [str_size, List.length_append]; have := (putL_len s.length).2; omega
    generalize putL s.length ++ s = l at TX hsz
    clear e hm hs hI
    have bel : ∀ o, Below w.heap.size w (w.alloc o) := fun o => (Below.refl _ _).alloc (Nat.le_refl _) o
    go_enter Tryd.func62, Tryd.ntmps62
    go_wp2_with fail
    refine (TX _).mono ?_
    rintro e w1 ⟨rfl, g⟩
    go_wp2_with fail
    go_ret
    exact ⟨ret_str (one_str 3 l), (bel _).trans (g.mono (bel _).size)⟩
end Go.Proofs.YtbdfcgffkonbiaaDoor.V7
namespace Go.Proofs.YtbdfcgffkonbiaaDoor
open Go Go.RowKit
set_option linter.unusedVariables false
set_option linter.unusedSimpArgs false
def allN (lv : Nat → List It) (n : Nat) : List It := (List.range n).flatMap lv
theorem allN_succ (lv : Nat → List It) (n : Nat) : allN lv (n + 1) = allN lv n ++ lv n := by
  unfold allN; rw [List.range_succ, List.flatMap_append]; simp
theorem allN_len {lv : Nat → List It} (n : Nat) (h : ∀ b, b < n → (lv b).length ≤ 100) : (allN lv n).length ≤ n * 100 := by
  induction n with
  | zero => simp [allN]
  | succ n ih => rw [allN_succ, List.length_append]; have := ih (fun b hb => h b (by omega)); have := h n (by omega); omega
theorem sum_len (lv : Nat → List It) (n : Nat) : sumN List.length lv n = (allN lv n).length := by
  induction n with
  | zero => rfl
  | succ n ih => rw [sumN_succ, allN_succ, List.length_append, ih]
theorem wtL_app (a b : List It) : wtL (a ++ b) = wtL a + wtL b := by unfold wtL; rw [List.map_append, List.sum_append]
theorem sum_wt {lv : Nat → List It} (n : Nat) (h : ∀ b, b < n → isL (lv b) = true) : sumN weightL lv n = wtL (allN lv n) := by
  induction n with
  | zero => rfl
  | succ n ih =>
    rw [sumN_succ, allN_succ, wtL_app, ih (fun b hb => h b (by omega))]
    congr 1
    unfold weightL; rw [if_pos (h n (by omega))]
theorem wtL_le : ∀ l : List It, (∀ x ∈ l, wtI x ≤ 99) → wtL l ≤ 99 * l.length
  | [], _ => by simp [wtL]
  | x :: r, h => by
    have h1 := h x (by simp)
    have h2 := wtL_le r (fun y hy => h y (by simp [hy]))
    have e : wtL (x :: r) = wtI x + wtL r := by simp [wtL]
    rw [e, List.length_cons]; omega
theorem wtI_le {x : It} (h : mayI x = true) : wtI x ≤ 99 := by
  have h1 := may_key h
  have h2 := encL_max x.v
  unfold wtI; omega
theorem weightL_le (l : List It) : weightL l ≤ 100000 := by
  unfold weightL
  split
  · rename_i h
    have h1 := isL_len h
    have h2 := wtL_le l (fun x hx => wtI_le (isL_may h x hx))
    omega
  · omega
theorem fewT_wf {lv : Nat → List It} (h : WfT lv) : WfT (fun b => fewL (lv b)) := by
  intro b hb x hx
  change x ∈ fewL (lv b) at hx
  unfold fewL at hx
  obtain ⟨y, hy, rfl⟩ := List.mem_map.1 hx
  exact h b hb y (List.mem_of_mem_take hy)
theorem mem_allN {lv : Nat → List It} {n : Nat} {x : It} (h : x ∈ allN lv n) : ∃ b, b < n ∧ x ∈ lv b := by
  unfold allN at h
  obtain ⟨b, hb, hx⟩ := List.mem_flatMap.1 h
  exact ⟨b, List.mem_range.1 hb, hx⟩
set_option maxRecDepth 100000 in
theorem tweight_any (cs : Array Value) (lv : Nat → List It) (vs : Nat → Int) (w : World) (tab : TabAt w) (h : RdT w cs lv vs) (hsz : SzT lv) (hwf : WfT lv) :
    Calls Tryd.prog 54 #[.agg cs] w fun e w' => e = .returned (.int .i64 (sumT weightL lv vs : Int)) ∧ Below w.heap.size w w' := by
  have hs := infoTc h.size
  have q2 := heap_alloc_new w (.cells cs 26)
  have bel := (Below.refl w.heap.size w).alloc (Nat.le_refl _) (.cells cs 26)
  have SU := Lib.hid (sum_any 89 weightL cs lv vs _ (tab.below bel) (h.below bel (Nat.le_refl _)) hsz (fun b hb W u t hr => weight_any u (lv b) W t hr (hsz b hb) (hwf b hb)) (fun b hb => weightL_le _) (fun args w => by kernel_rfl))
  obtain ⟨R, hR⟩ : ∃ R, R = sumT weightL lv vs := ⟨_, rfl⟩
  rw [← hR] at SU ⊢
  clear hR h hsz tab hwf
  go_enter Tryd.func54, Tryd.ntmps54
  go_wp2_with (with_reducible refine wpList_load_row (o := ⟨some 3, _, _, _, _, _⟩) rfl 26 (.tmp 1) rfl _ rfl _ cs (0, 0) _ q2 Tryd.underlying26 rfl hs ?_)
  refine SU.out.mono ?_
  rintro e w1 ⟨rfl, g⟩
  replace bel := chain bel g
  clear g q2
  go_wp2_with fail
  go_ret
  exact ⟨rfl, bel⟩
set_option maxRecDepth 100000 in
set_option maxHeartbeats 1000000 in
theorem all_any (cs : Array Value) (lv : Nat → List It) (vs : Nat → Int) (w : World) (h : RdT w cs lv vs) (h100 : ∀ b, b < 16 → (lv b).length ≤ 100) :
    Calls Tryd.prog 23 #[.agg cs] w (OwnI w (allN lv 16)) := by
  obtain ⟨i0, hi, hz0, hz1, hz2⟩ := info_parts item_info
  have HT := Lib.hid h
  have HL := Lib.hid h100
  obtain ⟨Z, hZ⟩ : ∃ Z, Z = OwnI w (allN lv 16) := ⟨_, rfl⟩
  rw [← hZ]
  have HZ := Lib.hid hZ
  have q1 := heap_alloc_new w (.cells cs 26)
  have bel := (Below.refl w.heap.size w).alloc (Nat.le_refl _) (.cells cs 26)
  clear h h100 hZ
  go_enter Tryd.func23, Tryd.ntmps23
  go_wp2_with fail
  obtain ⟨wl, hwl⟩ : ∃ wl, wl = w.alloc (.cells cs 26) := ⟨_, rfl⟩
  rw [← hwl] at q1 bel ⊢
  clear hwl
  have hl : w.heap.size + 1 ≤ wl.heap.size := lt_of_block q1
  have Q1 := Lib.hid q1
  have BELL := Lib.hid bel
  clear q1 bel
  go_loopw [4, 3] (fun i v wr => ∃ (b : Nat) (X : List It), b ≤ 16 ∧ i = .int .i64 (b : Int) ∧ Hid (X = allN lv b) ∧ X.length ≤ b * 100 ∧ wr.ownsRow (w.heap.size + 1) 53 5 v X.length (X.flatMap itC) ∧ Below (w.heap.size + 1) wl wr) (fun i _ _ => 20 - (intOf i).toNat)
  case atStart => exact ⟨0, [], by omega, rfl, Lib.hid rfl, Nat.le_refl _, World.ownsRow_nil _ _ _ _, Below.refl _ _⟩
  case round =>
    obtain ⟨b, X, hb, rfl, HX, hX, own, belL⟩ := hrel
    have bel := BELL.out.trans (belL.mono (Nat.le_add_right _ 1))
    have q1 := (belL.block _ (by omega)).trans Q1.out
    by_cases hlt : b < 16
    · have hlti : (b : Int) < 16 := by omega
      obtain ⟨u, hu, hru⟩ := HT.out.leaf b hlt
      have c1 := (block_cell q1 b).trans hu
      have l1 := HL.out b hlt
      have HN := Lib.hid (show X ++ lv b = allN lv (b + 1) by rw [allN_succ, ← HX.out])
      have HRD := Lib.hid (hru.below bel (Nat.le_refl _))
      clear hu hru
      go_wp2_with (at_builtin; refine wpList_app_rdk itC_len (by decide) wl rfl (.tmp 9) (.tmp 13) 22 rfl (w.heap.size + 1) 53 i0 (.agg #[.string ⟨#[]⟩, .int .i64 0, .int .i64 0, .string ⟨#[]⟩, .int .i64 0]) 56 Tryd.underlying22 hi hz0 hz1 hz2 rfl _ X rfl own u (lv b) rfl HRD.out itC_one (by unfold maxLen; omega) (by omega) hl belL ?_; intro v9 w9 own9 b9 hq9; clear hq9)
      exact ⟨⟨b + 1, X ++ lv b, by omega, by push_cast; rfl, HN, by rw [List.length_append]; omega, own9, b9⟩, by simp [intOf]; omega⟩
    · obtain rfl : b = 16 := by omega
      go_wp2_with fail
      show Z (.returned _) _
      rw [HZ.out, ← HX.out]
      exact ⟨_, rfl, own_base own (by omega), bel⟩
end Go.Proofs.YtbdfcgffkonbiaaDoor
namespace Go.Proofs.YtbdfcgffkonbiaaDoor
open Go Go.RowKit
set_option linter.unusedVariables false
set_option linter.unusedSimpArgs false
/-- A store. -/
structure St where
  lv : Nat → List It
  vs : Nat → Int
  ver : Int
  by_ : Int
  ke : Int
/-- The cells of a store's trunk. -/
def tC (cs : Array Value) : Array Value := (cs.toList.take 32).toArray
/-- The cells of a store. -/
structure RdS (w : World) (cs : Array Value) (s : St) : Prop where
  size : cs.size = 35
  tr : RdT w (tC cs) s.lv s.vs
  ver : cs[32]? = some (.int .i64 s.ver)
  by_ : cs[33]? = some (.int .i64 s.by_)
  ke : cs[34]? = some (.int .i64 s.ke)
theorem RdS.below {w w' : World} {cs : Array Value} {s : St} (h : RdS w cs s) {B : Nat} (g : Below B w w') (hB : w.heap.size ≤ B) : RdS w' cs s :=
  ⟨h.size, h.tr.below g hB, h.ver, h.by_, h.ke⟩
theorem tC_size {cs : Array Value} (h : cs.size = 35) : (tC cs).size = 32 := by
  obtain ⟨l⟩ := cs
  simp only [List.size_toArray] at h
  simp [tC, h]
theorem tC_at {cs : Array Value} {i : Nat} (hi : i < 32) : (tC cs)[i]? = cs[i]? := by
  obtain ⟨l⟩ := cs
  simp [tC, List.getElem?_take, hi]
theorem tC_range {w : World} {B : Nat} {cs : Array Value} {t : TypeId} (q : w.heap[B]? = some (.cells cs t (0, 0))) : w.rangeAt B 0 (tC cs).toList := fun j v hv => by
  have hj : j < 32 := by
    have := (List.getElem?_eq_some_iff.1 hv).1
    simp [tC] at this; omega
  rw [Nat.zero_add, block_cell q j, ← tC_at hj]
  simpa using hv
theorem tC_arr (cs : Array Value) : (tC cs).toList.toArray = tC cs := rfl
/-- Is a number from 0 to most? -/
def rngB (n m : Int) : Bool := decide (0 ≤ n) && decide (n ≤ m)
/-- Is no version of the first k buckets beyond the store's? -/
def versB (vs : Nat → Int) (ver : Int) (k : Nat) : Bool := (List.range k).all fun b => decide (vs b ≤ ver)
theorem versB_succ (vs : Nat → Int) (ver : Int) (k : Nat) : versB vs ver (k + 1) = (versB vs ver k && decide (vs k ≤ ver)) := by
  unfold versB; rw [List.range_succ, List.all_append]; simp
theorem versB_no {vs : Nat → Int} {ver : Int} {k n : Nat} (hk : k < n) (h : ¬ vs k ≤ ver) : versB vs ver n = false := by
  unfold versB; rw [List.all_eq_false]; exact ⟨k, List.mem_range.2 hk, by simp [h]⟩
/-- Are the items within the quotas? -/
def fitsB (s : St) : Bool := decide ((sumT weightL s.lv s.vs : Int) ≤ s.by_) && decide ((sumT List.length s.lv s.vs : Int) ≤ s.ke)
/-- May a store be? -/
def mayS (s : St) : Bool := rngB s.ver 2147483647 && rngB s.by_ 65536 && rngB s.ke 1024 && versB s.vs s.ver 16 && mayTs s.lv s.vs 16 && fitsB s
theorem mayS_t {s : St} (h : mayS s = true) : mayTs s.lv s.vs 16 = true := by
  unfold mayS at h; simp only [Bool.and_eq_true] at h; exact h.1.2
theorem sumT_wt {lv : Nat → List It} {vs : Nat → Int} (h : mayTs lv vs 16 = true) : sumT weightL lv vs = wtL (allN lv 16) := by
  unfold sumT; rw [if_pos h]; exact sum_wt 16 (fun b hb => isT h hb)
theorem sumT_len {lv : Nat → List It} {vs : Nat → Int} (h : mayTs lv vs 16 = true) : sumT List.length lv vs = (allN lv 16).length := by
  unfold sumT; rw [if_pos h]; exact sum_len lv 16
theorem info35 : (Tryd.prog.info? 28).map (·.size) = some 35 := by kernel_rfl
theorem infoS {cs : Array Value} (h : cs.size = 35) : (Tryd.prog.info? 28).map (·.size) = some cs.size := by rw [h]; exact info35
theorem RdS.one {w : World} {cs : Array Value} {s : St} (h : RdS w cs s) : ∀ u ∈ cs.toList, u.oneCell' = true := by
  intro u hu
  obtain ⟨i, hi, rfl⟩ := List.getElem_of_mem hu
  rw [Array.length_toList, h.size] at hi
  rw [Array.getElem_toList]
  have ht := h.tr.one
  rcases (by omega : i < 32 ∨ i = 32 ∨ i = 33 ∨ i = 34) with h1 | rfl | rfl | rfl
  · have hz := tC_size h.size
    have e : (tC cs)[i]'(by omega) = cs[i]'(by rw [h.size]; omega) := by
      have := tC_at (cs := cs) h1
      rw [Array.getElem?_eq_getElem (by omega), Array.getElem?_eq_getElem (by rw [h.size]; omega)] at this
      exact Option.some.inj this
    rw [← e]
    exact (Array.all_eq_true_iff_forall_mem.1 ht) _ (Array.getElem_mem _)
  · have := h.ver; rw [Array.getElem?_eq_getElem (by rw [h.size]; omega)] at this; rw [Option.some.inj this]; rfl
  · have := h.by_; rw [Array.getElem?_eq_getElem (by rw [h.size]; omega)] at this; rw [Option.some.inj this]; rfl
  · have := h.ke; rw [Array.getElem?_eq_getElem (by rw [h.size]; omega)] at this; rw [Option.some.inj this]; rfl
end Go.Proofs.YtbdfcgffkonbiaaDoor
