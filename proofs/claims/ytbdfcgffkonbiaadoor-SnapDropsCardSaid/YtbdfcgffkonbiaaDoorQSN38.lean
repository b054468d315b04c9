/- Snaps: Last, At. Written by wip/tools/gen14f.py. -/
import Derived.Test.YtbdfcgffkonbiaaDoorQSN36
import Derived.Test.YtbdfcgffkonbiaaDoorQSN37
import Derived.Test.YtbdfcgffkonbiaaDoorQSN29
namespace Go.Proofs.YtbdfcgffkonbiaaDoor
open Go Go.RowKit
set_option linter.unusedVariables false
set_option linter.unusedSimpArgs false
theorem results_tmp_row_tmp {P : Program} {fn : Func} {r p q : Tmp} {ty : TypeId} (h : fn.results = #[.tmp r, .cell p ty, .tmp q]) (tmps : Array Value) (w : World) (g : Nat) (t : TypeId) (cs : Array Value) (fr : Nat × Nat) (d : TypeDesc) (u v : Value)
    (hr : tmps.getD r undef = u) (hp : tmps.getD p undef = .pointer (some ⟨g, 0, none⟩)) (hq : tmps.getD q undef = v) (hg : w.heap[g]? = some (.cells cs t fr))
    (hu : P.underlying ty = some d) (hd : (match d with | .struct _ | .array _ _ => true | _ => false) = true) (hi : (P.info? ty).map (·.size) = some cs.size) :
    (results fn tmps).run P w = .ok (.tuple #[u, .agg cs, v]) w := by
  have hr' : tmps[r]?.getD undef = u := by simpa using hr
  have hp' : tmps[p]?.getD undef = .pointer (some ⟨g, 0, none⟩) := by simpa using hp
  have hq' : tmps[q]?.getD undef = v := by simpa using hq
  simp [results, h, hr', hp', hq', asAddr, run_loadVar_row w g t ty cs fr d hg hu hd hi]
theorem take_len {p : Sn → Bool} : ∀ (L : List Sn) (m : Nat), m ≤ L.length → (∀ i (h : i < L.length), i < m → p L[i] = true) → (∀ h : m < L.length, p L[m] = false) → (L.takeWhile p).length = m
  | [], m, h, _, _ => by simp at h; simp [h]
  | x :: r, 0, _, _, h2 => by
    have := h2 (by simp)
    simp at this
    simp [List.takeWhile, this]
  | x :: r, m + 1, h, h1, h2 => by
    have h0 : p x = true := h1 0 (by simp) (by omega)
    rw [List.takeWhile_cons_of_pos h0, List.length_cons]
    congr 1
    refine take_len r m (by simpa using h) (fun i hi hm => ?_) (fun hm => ?_)
    · have := h1 (i + 1) (by simpa using hi) (by omega); simpa using this
    · have := h2 (by simpa using hm); simpa using this
/-- How many are ahead of a number; how many are not behind it. -/
def ltN (L : List Sn) (q : Int) : Nat := (L.takeWhile fun x => decide (x.q < q)).length
def leN (L : List Sn) (q : Int) : Nat := (L.takeWhile fun x => decide (x.q ≤ q)).length
theorem badGo_all {L : List Sn} : ∀ (n i : Nat), (badGo L n i).1 = 0 → ∀ j, j < n → snBad L (i + j) = 0
  | 0, _, _, j, hj => absurd hj (Nat.not_lt_zero _)
  | n + 1, i, h, j, hj => by
    rw [badGo] at h
    by_cases h0 : snBad L i = 0
    · rw [if_pos h0] at h
      cases j with
      | zero => exact h0
      | succ j => rw [show i + (j + 1) = (i + 1) + j by omega]; exact badGo_all n (i + 1) h j (by omega)
    · rw [if_neg h0] at h; exact absurd h h0
theorem isSn_all {L : List Sn} (h : isSn L = true) : L.length ≤ 8 ∧ ∀ i (hi : i < L.length), snBad L i = 0 := by
  unfold isSn chk14 at h
  by_cases h8 : 8 < L.length
  · rw [if_pos h8] at h; simp at h
  · rw [if_neg h8] at h
    refine ⟨by omega, fun i hi => ?_⟩
    have := badGo_all L.length 0 (by simpa using h) i hi
    rwa [Nat.zero_add] at this
theorem snBad_ok {L : List Sn} {i : Nat} (hi : i < L.length) (h : snBad L i = 0) : 0 ≤ L[i].q ∧ mayS L[i].s = true ∧ (∀ j, i = j + 1 → ∀ hj : j < L.length, folB L[j] L[i] = true) := by
  unfold snBad at h
  rw [getD_at hi] at h
  by_cases h1 : L[i].q < 0 ∨ mayS L[i].s = false
  · rw [if_pos h1] at h; cases h
  · rw [if_neg h1] at h
    refine ⟨by omega, by cases hm : mayS L[i].s <;> simp_all, fun j hj hjl => ?_⟩
    by_cases h2 : 0 < i ∧ folB (L.getD (i - 1) sn0) L[i] = false
    · rw [if_pos h2] at h; cases h
    · subst hj
      rw [Nat.add_sub_cancel, getD_at hjl] at h2
      cases hf : folB L[j] L[j + 1] with
      | true => rfl
      | false => exact absurd ⟨by omega, hf⟩ h2
theorem isSn_srt {L : List Sn} (h : isSn L = true) : SrtQ L := by
  obtain ⟨_, ha⟩ := isSn_all h
  have step : ∀ j (hj : j + 1 < L.length), L[j].q < L[j + 1].q := fun j hj => by
    have := (snBad_ok hj (ha _ hj)).2.2 j rfl (by omega)
    unfold folB at this
    simp only [Bool.and_eq_true, decide_eq_true_eq] at this
    exact this.1.1.1
  intro i j hi hj hij
  obtain ⟨d, rfl⟩ : ∃ d, j = i + 1 + d := ⟨j - i - 1, by omega⟩
  clear hij
  induction d with
  | zero => exact step i hj
  | succ d ih => exact Int.lt_trans (ih (by omega)) (step (i + 1 + d) hj)
theorem isSn_may {L : List Sn} (h : isSn L = true) {x : Sn} (hx : x ∈ L) : mayS x.s = true ∧ 0 ≤ x.q := by
  obtain ⟨i, hi, rfl⟩ := List.getElem_of_mem hx
  have := snBad_ok hi ((isSn_all h).2 i hi)
  exact ⟨this.2.1, this.1⟩
theorem fnd_lt {L : List Sn} {q : Int} {n : Nat} {b : Bool} (h : FndP L q n b) : ltN L q = n :=
  take_len L n h.1 (fun i hi hn => decide_eq_true (h.2.1 i hi hn)) (fun hn => decide_eq_false (by have := h.2.2.1 n hn (Nat.le_refl _); omega))
theorem fnd_yes {L : List Sn} {q : Int} {n : Nat} (hs : SrtQ L) (h : FndP L q n true) : ∃ hn : n < L.length, L[n].q = q ∧ leN L q = n + 1 := by
  have h4 := h.2.2.2
  simp only [Bool.true_eq, Bool.and_eq_true, decide_eq_true_eq] at h4
  obtain ⟨hn, hq⟩ := h4
  rw [getD_at hn] at hq
  refine ⟨hn, hq, take_len L (n + 1) hn (fun i hi hin => decide_eq_true ?_) (fun hm => decide_eq_false ?_)⟩
  · rcases Nat.lt_or_eq_of_le (show i ≤ n by omega) with h5 | h5
    · have := h.2.1 i hi h5; omega
    · subst h5; omega
  · have := hs n (n + 1) hn hm (by omega); omega
theorem fnd_no {L : List Sn} {q : Int} {n : Nat} (hs : SrtQ L) (h : FndP L q n false) : leN L q = n ∧ ∀ hn : n < L.length, L[n].q ≠ q := by
  have h4 := h.2.2.2
  have hne : ∀ hn : n < L.length, L[n].q ≠ q := fun hn hq => by
    rw [decide_eq_true hn, getD_at hn, decide_eq_true hq] at h4; cases h4
  exact ⟨take_len L n h.1 (fun i hi hin => decide_eq_true (by have := h.2.1 i hi hin; omega)) (fun hn => decide_eq_false (by have := h.2.2.1 n hn (Nat.le_refl _); have := hne hn; omega)), hne⟩
/-- The last snap of at most a number: its number, its store's cells, the error. -/
def lastE (L : List Sn) (q : Int) : Nat := if isSn L = false then 1 else if leN L q = 0 then 6 else 0
def lastA (L : List Sn) (q : Int) : Int := if isSn L = true ∧ leN L q ≠ 0 then (L.getD (leN L q - 1) sn0).q else 0
def lastC (L : List Sn) (q : Int) : Array Value := if isSn L = true ∧ leN L q ≠ 0 then snA (L.getD (leN L q - 1) sn0) else zS
theorem last_at {L : List Sn} {q : Int} {k : Nat} (h : isSn L = true) (hk : k < L.length) (hm : leN L q = k + 1) : lastE L q = 0 ∧ lastA L q = L[k].q ∧ lastC L q = snA L[k] := by
  unfold lastE lastA lastC
  rw [h, hm, Nat.add_sub_cancel, getD_at hk]
  exact ⟨rfl, rfl, rfl⟩
theorem last_none {L : List Sn} {q : Int} (h : isSn L = true) (hm : leN L q = 0) : lastE L q = 6 ∧ lastA L q = 0 ∧ lastC L q = zS := by
  unfold lastE lastA lastC
  rw [h, hm]
  exact ⟨rfl, rfl, rfl⟩
theorem last_no {L : List Sn} {q : Int} (h : isSn L = false) : lastE L q = 1 ∧ lastA L q = 0 ∧ lastC L q = zS := by
  unfold lastE lastA lastC
  rw [h]
  exact ⟨rfl, rfl, rfl⟩
theorem zS_one : zS.all (·.oneCell') = true := by kernel_rfl
theorem snA_one (x : Sn) : (snA x).all (·.oneCell') = true := by
  refine Array.all_eq_true_iff_forall_mem.2 fun u hu => ?_
  have : u ∈ (List.range 35).map fun i => one1 (x.c i) := by simpa [snA, stA] using hu
  obtain ⟨i, _, rfl⟩ := List.mem_map.1 this
  exact one1_one _
theorem lastC_size (L : List Sn) (q : Int) : (lastC L q).size = 35 := by unfold lastC; split; exact snA_size _; rfl
theorem lastC_one (L : List Sn) (q : Int) : (lastC L q).all (·.oneCell') = true := by unfold lastC; split; exact snA_one _; exact zS_one
def LastP (w : World) (L : List Sn) (q : Int) (e : Ending) (w' : World) : Prop := e = .returned (.tuple #[.int .i64 (lastA L q), .agg (lastC L q), .int .i64 (lastE L q : Int)]) ∧ Below w.heap.size w w'
theorem LastP.mk {w w' : World} {L : List Sn} {q a : Int} {C : Array Value} {c : Nat} (h : lastE L q = c ∧ lastA L q = a ∧ lastC L q = C) (g : Below w.heap.size w w') : LastP w L q (.returned (.tuple #[.int .i64 a, .agg C, .int .i64 (c : Int)])) w' := by
  obtain ⟨rfl, rfl, rfl⟩ := h; exact ⟨rfl, g⟩
theorem hb_zero (w : World) : (Instr.build 28 #[]).run Tryd.prog w = .ok (.agg zS) w := run_build w _ _ _ zS_built
set_option maxRecDepth 100000 in
set_option maxHeartbeats 2000000 in
theorem last14_any (v : Value) (L : List Sn) (q : Int) (w : World) (tab : TabAt w) (h : RdK 36 snC w v L) (hrs : RdSn w L) (hsz : SzSn L) (hln : LenSn L) :
    Calls Tryd.prog 46 #[v, .int .i64 q] w (LastP w L q) := by
  have q5 := heap_alloc_new w (.cells zS 28)
  have bel := (Below.refl w.heap.size w).alloc (Nat.le_refl _) (.cells zS 28)
  obtain ⟨W1, hW1⟩ : ∃ W1, W1 = w.alloc (.cells zS 28) := ⟨_, rfl⟩
  rw [← hW1] at q5 bel
  have IS0 := is14_any v L W1 (tab.below bel) (h.below bel (Nat.le_refl _)) (hrs.below bel (Nat.le_refl _)) hsz hln
  have FD := Lib.hid (fun W (g : Below w.heap.size w W) (hi : isSn L = true) => find14_any v L q W (h.below g (Nat.le_refl _)) (by have := (isSn_all hi).1; omega) (isSn_srt hi))
  obtain ⟨ao, cap, rfl, hc, hm, hr⟩ := RdK.open h
  have HRD := Lib.hid (show RdK 36 snC w (.slice ao L.length cap) L from hr)
  obtain ⟨Z, hZ⟩ : ∃ Z, Z = LastP w L q := ⟨_, rfl⟩
  rw [← hZ]
  have HZ := Lib.hid hZ
  have z0 := zeroS_run
  have z1 := zS_ne
  have hbz := hb_zero
  subst hW1
  clear h hrs hsz hln hr hZ tab
  cases hi : isSn L with
  | false =>
    have FA := Lib.hid (last_no (q := q) hi)
    rw [hi] at IS0
    have IS := Lib.hid IS0
    clear IS0 hi FD HRD
    go_enter Tryd.func46, Tryd.ntmps46
    go_wp2_with fail
    refine IS.out.mono ?_
    rintro e w2 ⟨rfl, g⟩
    have q5 := (g.block _ (lt_of_block q5)).trans q5
    have bel := chain bel g
    clear g
    go_wp2_with ((with_reducible refine wpList_store_row (o := ⟨none, _, _, _, _, _⟩) rfl 28 (.tmp 5) (.tmp 12) rfl _ zS rfl rfl _ zS q5 (infoS rfl) rfl zS_one ?_); (obtain ⟨WS, hWS⟩ : ∃ W, W = World.setRow w2 w.heap.size zS := ⟨_, rfl⟩); rw [← hWS]; (have q9 : WS.heap[w.heap.size]? = some (.cells zS 28 (0, 0)) := by rw [hWS]; exact setRow_heap _ _ _ zS _ _ q5); (have bel9 : Below w.heap.size w WS := by rw [hWS]; exact below_row bel (Nat.le_refl _) zS); clear hWS)
    refine bodyPost_ret (v := .tuple #[.int .i64 0, .agg zS, .int .i64 1]) (results_tmp_row_tmp rfl _ _ _ _ zS (0, 0) _ _ _ rfl rfl rfl q9 Tryd.underlying28 rfl (infoS rfl)) rfl ?_
    rw [HZ.out]
    exact LastP.mk FA.out bel9
  | true =>
    have FD1 := Lib.hid (fun W (g : Below w.heap.size w W) => FD.out W g hi)
    have SQ := Lib.hid (isSn_srt hi)
    have HI := Lib.hid hi
    rw [hi] at IS0
    have IS := Lib.hid IS0
    clear IS0 hi FD
    go_enter Tryd.func46, Tryd.ntmps46
    go_wp2_with fail
    refine IS.out.mono ?_
    rintro e w2 ⟨rfl, g⟩
    have q5 := (g.block _ (lt_of_block q5)).trans q5
    have bel := chain bel g
    clear g
    go_wp2_with fail
    refine (FD1.out _ bel).mono ?_
    rintro e w3 ⟨⟨n, bb, rfl, hF⟩, g⟩
    have q5 := (g.block _ (lt_of_block q5)).trans q5
    have bel := chain bel g
    clear g
    cases bb with
    | true =>
      obtain ⟨hk, hkq, hle⟩ := fnd_yes SQ.out hF
      obtain ⟨k, hkn⟩ : ∃ k, k = n := ⟨_, rfl⟩
      subst hkn
      have f4 : (k : Int) < L.length := by omega
      clear hkq
      have HLE := Lib.hid hle
      clear hle hF
      obtain ⟨b, off, rfl, hb, hcy0⟩ := RdK.cell snC_len (HRD.out.below bel (Nat.le_refl _)) k hk
      obtain ⟨y, hy⟩ : ∃ y, y = L[k]'hk := ⟨_, rfl⟩
      rw [← hy] at hcy0
      have hcy : ∀ i, i < 36 → w3.cell? ⟨b, off + k * 36 + i, none⟩ = (snC y)[i]? := fun i hi => by rw [Nat.add_assoc]; exact hcy0 i hi
      have qk := sn_q hcy
      have FA := Lib.hid (show lastE L q = 0 ∧ lastA L q = y.q ∧ lastC L q = snA y by rw [hy]; exact last_at HI.out hk HLE.out)
      clear hcy0 hy
      go_wp2_with fail
      refine t_start 11 (by kernel_rfl) ?_
      refine t_take (i := 0) (d := (some 26)) (v := ?_) rfl rfl (by kernel_rfl) (fun _ _ _ h => h) (by rfl) (fun w' hb' => ?_) ?_
      rotate_left
      · (try go_simp); (try with_reducible rfl)
      try simp only [Act.put, List.setIfInBounds_toArray, List.set_cons_zero, List.set_cons_succ]
      refine t_take (i := 1) (d := (some 27)) (v := ?_) rfl rfl (by kernel_rfl) (fun _ _ _ h => h) (by rfl) (fun w' hb' => ?_) ?_
      rotate_left
      · (try go_simp); (try with_reducible rfl)
      try simp only [Act.put, List.setIfInBounds_toArray, List.set_cons_zero, List.set_cons_succ]
      refine t_take (i := 2) (d := (some 28)) (v := ?_) rfl rfl (by kernel_rfl) (fun _ _ _ h => h) (by rfl) (fun w' hb' => ?_) ?_
      rotate_left
      · (try go_simp); (try with_reducible rfl)
      try simp only [Act.put, List.setIfInBounds_toArray, List.set_cons_zero, List.set_cons_succ]
      refine t_take (i := 3) (d := (some 29)) (v := ?_) rfl rfl (by kernel_rfl) (fun _ _ _ h => h) (by rfl) (fun w' hb' => ?_) ?_
      rotate_left
      · (try go_simp); (try with_reducible rfl)
      try simp only [Act.put, List.setIfInBounds_toArray, List.set_cons_zero, List.set_cons_succ]
      refine t_take (i := 4) (d := (some 30)) (v := ?_) rfl rfl (by kernel_rfl) (fun _ _ _ h => h) (by rfl) (fun w' hb' => ?_) ?_
      rotate_left
      · have zz := (hb'.cell (p := ⟨b, off + k * 36, none⟩) hb).trans qk; (try go_simp); (try with_reducible rfl)
      try simp only [Act.put, List.setIfInBounds_toArray, List.set_cons_zero, List.set_cons_succ]
      refine t_take (i := 5) (d := (some 31)) (v := ?_) rfl rfl (by kernel_rfl) (fun _ _ _ h => h) (by rfl) (fun w' hb' => ?_) ?_
      rotate_left
      · (try go_simp); (try with_reducible rfl)
      try simp only [Act.put, List.setIfInBounds_toArray, List.set_cons_zero, List.set_cons_succ]
      refine t_take (i := 6) (d := (some 32)) (v := ?_) rfl rfl (by kernel_rfl) (fun _ _ _ h => h) (by rfl) (fun w' hb' => ?_) ?_
      rotate_left
      · (try go_simp); (try with_reducible rfl)
      try simp only [Act.put, List.setIfInBounds_toArray, List.set_cons_zero, List.set_cons_succ]
      refine t_take (i := 7) (d := (some 33)) (v := ?_) rfl rfl (by kernel_rfl) (fun _ _ _ h => h) (by rfl) (fun w' hb' => ?_) ?_
      rotate_left
      · (try go_simp); (try with_reducible rfl)
      try simp only [Act.put, List.setIfInBounds_toArray, List.set_cons_zero, List.set_cons_succ]
      refine t_take (i := 8) (d := (some 34)) (v := ?_) rfl rfl (by kernel_rfl) (fun _ _ _ h => h) (by rfl) (fun w' hb' => ?_) ?_
      rotate_left
      · (try go_simp); (try with_reducible rfl)
      try simp only [Act.put, List.setIfInBounds_toArray, List.set_cons_zero, List.set_cons_succ]
      refine t_take (i := 9) (d := (some 35)) (v := ?_) rfl rfl (by kernel_rfl) (fun _ _ _ h => h) (by rfl) (fun w' hb' => ?_) ?_
      rotate_left
      · (refine load_partO_op _ _ (.tmp 34) ?_ ?_ (sn_store (fun i hi => (hb'.cell (p := ⟨b, off + k * 36 + i, none⟩) hb).trans (hcy i hi))) Tryd.underlying28 ?_ (infoSA y) <;> rfl); (try go_simp); (try with_reducible rfl)
      try simp only [Act.put, List.setIfInBounds_toArray, List.set_cons_zero, List.set_cons_succ]
      refine t_take (i := 10) (d := (some 4)) (v := ?_) rfl rfl (by kernel_rfl) (fun _ _ _ h => h) (by rfl) (fun w' hb' => ?_) ?_
      rotate_left
      · (try go_simp); (try with_reducible rfl)
      try simp only [Act.put, List.setIfInBounds_toArray, List.set_cons_zero, List.set_cons_succ]
      refine t_into ?_
      refine t_tail (i := 11) rfl (by kernel_rfl) (by kernel_rfl) (by rfl) (fun K hK => ?_)
      refine wp_store_row 28 (.tmp 5) (.tmp 35) rfl _ (snA y) rfl rfl _ zS q5 (infoSA y) (by rw [snA_size]; rfl) (snA_one y) ?_
      refine hK _ _ ?_
      clear hK K
      try simp only [Act.put, List.setIfInBounds_toArray, List.set_cons_zero, List.set_cons_succ]
      refine t_tail (i := 12) rfl (by kernel_rfl) (by kernel_rfl) (by rfl) (fun K hK => ?_)
      go_simp
      refine hK _ _ ?_
      clear hK K
      try simp only [Act.put, List.setIfInBounds_toArray, List.set_cons_zero, List.set_cons_succ]
      refine t_over (by kernel_rfl) ?_
      go_wp2_with fail
      have q5d : w3.drew.heap[w.heap.size]? = some (.cells zS 28 (0, 0)) := q5
      have q9 := setRow_heap _ _ _ (snA y) _ _ q5d
      have bel9 := below_row (g := w.heap.size) (bel.drew) (Nat.le_refl _) (snA y)
      refine bodyPost_ret (v := .tuple #[.int .i64 y.q, .agg (snA y), .int .i64 0]) (results_tmp_row_tmp rfl _ _ _ _ (snA y) (0, 0) _ _ _ rfl rfl rfl q9 Tryd.underlying28 rfl (infoSA y)) rfl ?_
      rw [HZ.out]
      exact LastP.mk FA.out bel9
    | false =>
      have HLE := Lib.hid (fnd_no SQ.out hF).1
      have hnl := hF.1
      clear hF
      by_cases hn0 : n = 0
      · have f1 : IntKind.i64.wrap ((n : Int) - 1) = -1 := by rw [IntKind.wrap_i64]; omega
        have f2 : (n : Int) - 1 = -1 := by omega
        have FA := Lib.hid (last_none HI.out (HLE.out.trans hn0))
        clear hn0
        go_wp2_with ((with_reducible refine wpList_store_row (o := ⟨none, _, _, _, _, _⟩) rfl 28 (.tmp 5) (.tmp 25) rfl _ zS rfl rfl _ zS q5 (infoS rfl) rfl zS_one ?_); (obtain ⟨WS, hWS⟩ : ∃ W, W = World.setRow w3 w.heap.size zS := ⟨_, rfl⟩); rw [← hWS]; (have q9 : WS.heap[w.heap.size]? = some (.cells zS 28 (0, 0)) := by rw [hWS]; exact setRow_heap _ _ _ zS _ _ q5); (have bel9 : Below w.heap.size w WS := by rw [hWS]; exact below_row bel (Nat.le_refl _) zS); clear hWS)
        refine bodyPost_ret (v := .tuple #[.int .i64 0, .agg zS, .int .i64 6]) (results_tmp_row_tmp rfl _ _ _ _ zS (0, 0) _ _ _ rfl rfl rfl q9 Tryd.underlying28 rfl (infoS rfl)) rfl ?_
        rw [HZ.out]
        exact LastP.mk FA.out bel9
      · obtain ⟨k, hkn⟩ : ∃ k, n = k + 1 := ⟨n - 1, by omega⟩
        have f1 : IntKind.i64.wrap ((n : Int) - 1) = (k : Int) := by rw [IntKind.wrap_i64]; omega
        have f2 : (n : Int) - 1 = (k : Int) := by omega
        have f5 : IntKind.i64.wrap (k : Int) = (k : Int) := by rw [IntKind.wrap_i64]; omega
        have hk : k < L.length := by omega
        have f4 : (k : Int) < L.length := by omega
        have HLK := Lib.hid (show leN L q = k + 1 from HLE.out.trans hkn)
        clear hkn hn0
        obtain ⟨b, off, rfl, hb, hcy0⟩ := RdK.cell snC_len (HRD.out.below bel (Nat.le_refl _)) k hk
        obtain ⟨y, hy⟩ : ∃ y, y = L[k]'hk := ⟨_, rfl⟩
        rw [← hy] at hcy0
        have hcy : ∀ i, i < 36 → w3.cell? ⟨b, off + k * 36 + i, none⟩ = (snC y)[i]? := fun i hi => by rw [Nat.add_assoc]; exact hcy0 i hi
        have qk := sn_q hcy
        have FA := Lib.hid (show lastE L q = 0 ∧ lastA L q = y.q ∧ lastC L q = snA y by rw [hy]; exact last_at HI.out hk HLK.out)
        clear hcy0 hy
        go_wp2_with fail
        refine t_start 11 (by kernel_rfl) ?_
        refine t_take (i := 0) (d := (some 26)) (v := ?_) rfl rfl (by kernel_rfl) (fun _ _ _ h => h) (by rfl) (fun w' hb' => ?_) ?_
        rotate_left
        · (try go_simp); (try with_reducible rfl)
        try simp only [Act.put, List.setIfInBounds_toArray, List.set_cons_zero, List.set_cons_succ]
        refine t_take (i := 1) (d := (some 27)) (v := ?_) rfl rfl (by kernel_rfl) (fun _ _ _ h => h) (by rfl) (fun w' hb' => ?_) ?_
        rotate_left
        · (try go_simp); (try with_reducible rfl)
        try simp only [Act.put, List.setIfInBounds_toArray, List.set_cons_zero, List.set_cons_succ]
        refine t_take (i := 2) (d := (some 28)) (v := ?_) rfl rfl (by kernel_rfl) (fun _ _ _ h => h) (by rfl) (fun w' hb' => ?_) ?_
        rotate_left
        · (try go_simp); (try with_reducible rfl)
        try simp only [Act.put, List.setIfInBounds_toArray, List.set_cons_zero, List.set_cons_succ]
        refine t_take (i := 3) (d := (some 29)) (v := ?_) rfl rfl (by kernel_rfl) (fun _ _ _ h => h) (by rfl) (fun w' hb' => ?_) ?_
        rotate_left
        · (try go_simp); (try with_reducible rfl)
        try simp only [Act.put, List.setIfInBounds_toArray, List.set_cons_zero, List.set_cons_succ]
        refine t_take (i := 4) (d := (some 30)) (v := ?_) rfl rfl (by kernel_rfl) (fun _ _ _ h => h) (by rfl) (fun w' hb' => ?_) ?_
        rotate_left
        · have zz := (hb'.cell (p := ⟨b, off + k * 36, none⟩) hb).trans qk; (try go_simp); (try with_reducible rfl)
        try simp only [Act.put, List.setIfInBounds_toArray, List.set_cons_zero, List.set_cons_succ]
        refine t_take (i := 5) (d := (some 31)) (v := ?_) rfl rfl (by kernel_rfl) (fun _ _ _ h => h) (by rfl) (fun w' hb' => ?_) ?_
        rotate_left
        · (try go_simp); (try with_reducible rfl)
        try simp only [Act.put, List.setIfInBounds_toArray, List.set_cons_zero, List.set_cons_succ]
        refine t_take (i := 6) (d := (some 32)) (v := ?_) rfl rfl (by kernel_rfl) (fun _ _ _ h => h) (by rfl) (fun w' hb' => ?_) ?_
        rotate_left
        · (try go_simp); (try with_reducible rfl)
        try simp only [Act.put, List.setIfInBounds_toArray, List.set_cons_zero, List.set_cons_succ]
        refine t_take (i := 7) (d := (some 33)) (v := ?_) rfl rfl (by kernel_rfl) (fun _ _ _ h => h) (by rfl) (fun w' hb' => ?_) ?_
        rotate_left
        · (try go_simp); (try with_reducible rfl)
        try simp only [Act.put, List.setIfInBounds_toArray, List.set_cons_zero, List.set_cons_succ]
        refine t_take (i := 8) (d := (some 34)) (v := ?_) rfl rfl (by kernel_rfl) (fun _ _ _ h => h) (by rfl) (fun w' hb' => ?_) ?_
        rotate_left
        · (try go_simp); (try with_reducible rfl)
        try simp only [Act.put, List.setIfInBounds_toArray, List.set_cons_zero, List.set_cons_succ]
        refine t_take (i := 9) (d := (some 35)) (v := ?_) rfl rfl (by kernel_rfl) (fun _ _ _ h => h) (by rfl) (fun w' hb' => ?_) ?_
        rotate_left
        · (refine load_partO_op _ _ (.tmp 34) ?_ ?_ (sn_store (fun i hi => (hb'.cell (p := ⟨b, off + k * 36 + i, none⟩) hb).trans (hcy i hi))) Tryd.underlying28 ?_ (infoSA y) <;> rfl); (try go_simp); (try with_reducible rfl)
        try simp only [Act.put, List.setIfInBounds_toArray, List.set_cons_zero, List.set_cons_succ]
        refine t_take (i := 10) (d := (some 4)) (v := ?_) rfl rfl (by kernel_rfl) (fun _ _ _ h => h) (by rfl) (fun w' hb' => ?_) ?_
        rotate_left
        · (try go_simp); (try with_reducible rfl)
        try simp only [Act.put, List.setIfInBounds_toArray, List.set_cons_zero, List.set_cons_succ]
        refine t_into ?_
        refine t_tail (i := 11) rfl (by kernel_rfl) (by kernel_rfl) (by rfl) (fun K hK => ?_)
        refine wp_store_row 28 (.tmp 5) (.tmp 35) rfl _ (snA y) rfl rfl _ zS q5 (infoSA y) (by rw [snA_size]; rfl) (snA_one y) ?_
        refine hK _ _ ?_
        clear hK K
        try simp only [Act.put, List.setIfInBounds_toArray, List.set_cons_zero, List.set_cons_succ]
        refine t_tail (i := 12) rfl (by kernel_rfl) (by kernel_rfl) (by rfl) (fun K hK => ?_)
        go_simp
        refine hK _ _ ?_
        clear hK K
        try simp only [Act.put, List.setIfInBounds_toArray, List.set_cons_zero, List.set_cons_succ]
        refine t_over (by kernel_rfl) ?_
        go_wp2_with fail
        have q5d : w3.drew.heap[w.heap.size]? = some (.cells zS 28 (0, 0)) := q5
        have q9 := setRow_heap _ _ _ (snA y) _ _ q5d
        have bel9 := below_row (g := w.heap.size) (bel.drew) (Nat.le_refl _) (snA y)
        refine bodyPost_ret (v := .tuple #[.int .i64 y.q, .agg (snA y), .int .i64 0]) (results_tmp_row_tmp rfl _ _ _ _ (snA y) (0, 0) _ _ _ rfl rfl rfl q9 Tryd.underlying28 rfl (infoSA y)) rfl ?_
        rw [HZ.out]
        exact LastP.mk FA.out bel9
/-- The store of a number: its cells, the error. -/
def atE (L : List Sn) (q : Int) : Nat := if lastE L q = 0 ∧ lastA L q ≠ q then 6 else lastE L q
def atC (L : List Sn) (q : Int) : Array Value := if lastE L q = 0 ∧ lastA L q ≠ q then zS else lastC L q
def AtP (w : World) (L : List Sn) (q : Int) (e : Ending) (w' : World) : Prop := e = .returned (.tuple #[.agg (atC L q), .int .i64 (atE L q : Int)]) ∧ Below w.heap.size w w'
theorem AtP.mk {w w' : World} {L : List Sn} {q : Int} {C : Array Value} {c : Nat} (h : atE L q = c ∧ atC L q = C) (g : Below w.heap.size w w') : AtP w L q (.returned (.tuple #[.agg C, .int .i64 (c : Int)])) w' := by
  obtain ⟨rfl, rfl⟩ := h; exact ⟨rfl, g⟩
set_option maxRecDepth 100000 in
set_option maxHeartbeats 2000000 in
theorem at14_any (v : Value) (L : List Sn) (q : Int) (w : World) (tab : TabAt w) (h : RdK 36 snC w v L) (hrs : RdSn w L) (hsz : SzSn L) (hln : LenSn L) :
    Calls Tryd.prog 45 #[v, .int .i64 q] w (AtP w L q) := by
  have q4 := heap_alloc_new w (.cells zS 28)
  have bel := (Below.refl w.heap.size w).alloc (Nat.le_refl _) (.cells zS 28)
  have LA0 := last14_any v L q (w.alloc (.cells zS 28)) (tab.below bel) (h.below bel (Nat.le_refl _)) (hrs.below bel (Nat.le_refl _)) hsz hln
  obtain ⟨ao, nn, cap, rfl⟩ : ∃ a n c, v = .slice a n c := by obtain ⟨a, c, e, _⟩ := h; exact ⟨_, _, _, e⟩
  obtain ⟨Z, hZ⟩ : ∃ Z, Z = AtP w L q := ⟨_, rfl⟩
  rw [← hZ]
  have HZ := Lib.hid hZ
  have z0 := zeroS_run
  have z1 := zS_ne
  have hbz := hb_zero
  unfold LastP at LA0
  obtain ⟨C, hC⟩ : ∃ C, C = lastC L q := ⟨_, rfl⟩
  obtain ⟨A, hA⟩ : ∃ C, C = lastA L q := ⟨_, rfl⟩
  obtain ⟨N, hN⟩ : ∃ C, C = lastE L q := ⟨_, rfl⟩
  have hsC : C.size = 35 := by rw [hC]; exact lastC_size _ _
  have hoC : C.all (·.oneCell') = true := by rw [hC]; exact lastC_one _ _
  have hiC := infoS hsC
  have hzC : zS.size = C.size := by rw [hsC]; rfl
  have HAE := Lib.hid (show atE L q = if N = 0 ∧ A ≠ q then 6 else N by unfold atE; rw [hN, hA])
  have HAC := Lib.hid (show atC L q = if N = 0 ∧ A ≠ q then zS else C by unfold atC; rw [hN, hA, hC])
  rw [← hC, ← hA, ← hN] at LA0
  have LA := Lib.hid LA0
  clear h hrs hsz hln hZ tab LA0 hC hA hN hsC
  by_cases h0 : N = 0
  · have e0 : ((N : Int) == 0) = true := by simp [h0]
    have d0 : decide ((N : Int) = 0) = true := by simp [h0]
    by_cases hq : A = q
    · have e1 : (A != q) = false := by simp [hq]
      have FA := Lib.hid (show atE L q = N ∧ atC L q = C from ⟨by rw [HAE.out, if_neg (fun h => h.2 hq)], by rw [HAC.out, if_neg (fun h => h.2 hq)]⟩)
      clear h0 hq
      go_enter Tryd.func45, Tryd.ntmps45
      go_wp2_with fail
      refine LA.out.mono ?_
      rintro e w2 ⟨rfl, g⟩
      have q4 := (g.block _ (lt_of_block q4)).trans q4
      have l4 := lt_of_block q4
      have bel := chain bel g
      have qd := heap_alloc_new w2 (.cells zS 28)
      clear g
      go_wp2_with (first | ((with_reducible refine wpList_load_row (o := ⟨some 24, _, _, _, _, _⟩) rfl 28 (.tmp 7) rfl _ rfl _ C (0, 0) _ q7 Tryd.underlying28 rfl hiC ?_)) | ((with_reducible refine wpList_store_row (o := ⟨none, _, _, _, _, _⟩) rfl 28 (.tmp 7) (.tmp 14) rfl _ C rfl rfl _ zS qd hiC hzC hoC ?_); (obtain ⟨W7, hW7⟩ : ∃ W, W = (World.alloc w2 (.cells zS 28)).setRow w2.heap.size C := ⟨_, rfl⟩); rw [← hW7]; (have q7 : W7.heap[w2.heap.size]? = some (.cells C 28 (0, 0)) := by rw [hW7]; exact setRow_heap _ _ _ C _ _ qd); (have q4 : W7.heap[w.heap.size]? = some (.cells zS 28 (0, 0)) := by rw [hW7, setRow_other _ _ _ _ (by omega)]; exact (heap_alloc_old _ _ l4).trans q4); (have bel : Below w.heap.size w W7 := by rw [hW7]; exact below_row (bel.alloc bel.size _) bel.size C); clear hW7) | ((with_reducible refine wpList_store_row (o := ⟨none, _, _, _, _, _⟩) rfl 28 (.tmp 4) (.tmp 24) rfl _ C rfl rfl _ zS q4 hiC hzC hoC ?_); (obtain ⟨W9, hW9⟩ : ∃ W, W = World.setRow W7 w.heap.size C := ⟨_, rfl⟩); rw [← hW9]; (have q9 : W9.heap[w.heap.size]? = some (.cells C 28 (0, 0)) := by rw [hW9]; exact setRow_heap _ _ _ C _ _ q4); (have bel9 : Below w.heap.size w W9 := by rw [hW9]; exact below_row bel (Nat.le_refl _) C); clear hW9))
      refine bodyPost_ret (v := .tuple #[.agg C, .int .i64 (N : Int)]) (results_row_tmp rfl _ _ _ _ C (0, 0) _ _ rfl rfl q9 Tryd.underlying28 rfl hiC) rfl ?_
      rw [HZ.out]
      exact AtP.mk FA.out bel9
    · have e1 : (A != q) = true := by simp [hq]
      have FA := Lib.hid (show atE L q = 6 ∧ atC L q = zS from ⟨by rw [HAE.out, if_pos ⟨h0, hq⟩], by rw [HAC.out, if_pos ⟨h0, hq⟩]⟩)
      clear h0 hq
      go_enter Tryd.func45, Tryd.ntmps45
      go_wp2_with fail
      refine LA.out.mono ?_
      rintro e w2 ⟨rfl, g⟩
      have q4 := (g.block _ (lt_of_block q4)).trans q4
      have l4 := lt_of_block q4
      have bel := chain bel g
      have qd := heap_alloc_new w2 (.cells zS 28)
      clear g
      go_wp2_with (first | ((with_reducible refine wpList_load_row (o := ⟨some 24, _, _, _, _, _⟩) rfl 28 (.tmp 7) rfl _ rfl _ C (0, 0) _ q7 Tryd.underlying28 rfl hiC ?_)) | ((with_reducible refine wpList_store_row (o := ⟨none, _, _, _, _, _⟩) rfl 28 (.tmp 7) (.tmp 14) rfl _ C rfl rfl _ zS qd hiC hzC hoC ?_); (obtain ⟨W7, hW7⟩ : ∃ W, W = (World.alloc w2 (.cells zS 28)).setRow w2.heap.size C := ⟨_, rfl⟩); rw [← hW7]; (have q7 : W7.heap[w2.heap.size]? = some (.cells C 28 (0, 0)) := by rw [hW7]; exact setRow_heap _ _ _ C _ _ qd); (have q4 : W7.heap[w.heap.size]? = some (.cells zS 28 (0, 0)) := by rw [hW7, setRow_other _ _ _ _ (by omega)]; exact (heap_alloc_old _ _ l4).trans q4); (have bel : Below w.heap.size w W7 := by rw [hW7]; exact below_row (bel.alloc bel.size _) bel.size C); clear hW7) | ((with_reducible refine wpList_store_row (o := ⟨none, _, _, _, _, _⟩) rfl 28 (.tmp 4) (.tmp 23) rfl _ zS rfl rfl _ zS q4 (infoS rfl) rfl zS_one ?_); (obtain ⟨W9, hW9⟩ : ∃ W, W = World.setRow W7 w.heap.size zS := ⟨_, rfl⟩); rw [← hW9]; (have q9 : W9.heap[w.heap.size]? = some (.cells zS 28 (0, 0)) := by rw [hW9]; exact setRow_heap _ _ _ zS _ _ q4); (have bel9 : Below w.heap.size w W9 := by rw [hW9]; exact below_row bel (Nat.le_refl _) zS); clear hW9))
      refine bodyPost_ret (v := .tuple #[.agg zS, .int .i64 6]) (results_row_tmp rfl _ _ _ _ zS (0, 0) _ _ rfl rfl q9 Tryd.underlying28 rfl (infoS rfl)) rfl ?_
      rw [HZ.out]
      exact AtP.mk FA.out bel9
  · have e0 : ((N : Int) == 0) = false := by simp; omega
    have d0 : decide ((N : Int) = 0) = false := by simp; omega
    have FA := Lib.hid (show atE L q = N ∧ atC L q = C from ⟨by rw [HAE.out, if_neg (fun h => h0 h.1)], by rw [HAC.out, if_neg (fun h => h0 h.1)]⟩)
    clear h0
    go_enter Tryd.func45, Tryd.ntmps45
    go_wp2_with fail
    refine LA.out.mono ?_
    rintro e w2 ⟨rfl, g⟩
    have q4 := (g.block _ (lt_of_block q4)).trans q4
    have l4 := lt_of_block q4
    have bel := chain bel g
    have qd := heap_alloc_new w2 (.cells zS 28)
    clear g
    go_wp2_with (first | ((with_reducible refine wpList_load_row (o := ⟨some 24, _, _, _, _, _⟩) rfl 28 (.tmp 7) rfl _ rfl _ C (0, 0) _ q7 Tryd.underlying28 rfl hiC ?_)) | ((with_reducible refine wpList_store_row (o := ⟨none, _, _, _, _, _⟩) rfl 28 (.tmp 7) (.tmp 14) rfl _ C rfl rfl _ zS qd hiC hzC hoC ?_); (obtain ⟨W7, hW7⟩ : ∃ W, W = (World.alloc w2 (.cells zS 28)).setRow w2.heap.size C := ⟨_, rfl⟩); rw [← hW7]; (have q7 : W7.heap[w2.heap.size]? = some (.cells C 28 (0, 0)) := by rw [hW7]; exact setRow_heap _ _ _ C _ _ qd); (have q4 : W7.heap[w.heap.size]? = some (.cells zS 28 (0, 0)) := by rw [hW7, setRow_other _ _ _ _ (by omega)]; exact (heap_alloc_old _ _ l4).trans q4); (have bel : Below w.heap.size w W7 := by rw [hW7]; exact below_row (bel.alloc bel.size _) bel.size C); clear hW7) | ((with_reducible refine wpList_store_row (o := ⟨none, _, _, _, _, _⟩) rfl 28 (.tmp 4) (.tmp 24) rfl _ C rfl rfl _ zS q4 hiC hzC hoC ?_); (obtain ⟨W9, hW9⟩ : ∃ W, W = World.setRow W7 w.heap.size C := ⟨_, rfl⟩); rw [← hW9]; (have q9 : W9.heap[w.heap.size]? = some (.cells C 28 (0, 0)) := by rw [hW9]; exact setRow_heap _ _ _ C _ _ q4); (have bel9 : Below w.heap.size w W9 := by rw [hW9]; exact below_row bel (Nat.le_refl _) C); clear hW9))
    refine bodyPost_ret (v := .tuple #[.agg C, .int .i64 (N : Int)]) (results_row_tmp rfl _ _ _ _ C (0, 0) _ _ rfl rfl q9 Tryd.underlying28 rfl hiC) rfl ?_
    rw [HZ.out]
    exact AtP.mk FA.out bel9
end Go.Proofs.YtbdfcgffkonbiaaDoor
