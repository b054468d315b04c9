/- Choose: the certificates, one behind the other: the iterator. Written by wip/tools/gen31g.py. -/
import Derived.Test.YtgmblgpfgdfnaaaQMM34
import Derived.Test.YtgmblgpfgdfnaaaQMM10
namespace Go.Proofs.Ytgmblgpfgdfnaaa
open Go Go.RowKit
set_option linter.unusedVariables false
set_option linter.unusedSimpArgs false
set_option maxRecDepth 100000

attribute [local go_sem] Oper.semAt_some
/-- The iterator only makes memory; a round keeps what lies below M. -/
def TwA (X Y : World) : Prop := Below X.heap.size X Y
def KpM (M : Nat) (X Y : World) : Prop := M ≤ X.heap.size → Below M X Y
theorem TwA.keeps {X Y : World} (h : TwA X Y) (B : Nat) : KeepsFrom B X Y := ⟨h.size, fun k o _ hk _ => (h.block k (lt_of_block hk)).trans hk⟩
theorem kpM_put {M : Nat} {w : World} (hw : M ≤ w.heap.size) (W : World) (l : Nat) (o o' : Obj) (hl : w.heap.size ≤ l) (h : W.heap[l]? = some o) (_ : o.isCells = false) (_ : o.isWalk = false) : KpM M W (W.putObj l o') := fun _ =>
  (Below.refl M W).grown (grownBy_putObj' W l o') (by have := lt_of_block h; omega) (fun k e => by injection e with e; omega)
def allC (l : List Cg) : List Ce := l.flatMap Cg.cs
theorem all_step {l : List Cg} {k : Nat} (h : k < l.length) : allC (l.drop k) = l[k].cs ++ allC (l.drop (k + 1)) := by
  rw [List.drop_eq_getElem_cons h]; unfold allC; rw [List.flatMap_cons]
theorem certs_any (a : Option Addr) (n k : Nat) (w : World) :
    Calls Try.prog 56 #[.slice a n k] w fun e w' => e = .returned (.func (.func 75) #[] #[.pointer (some ⟨w.heap.size, 0, none⟩)]) ∧ w' = w.alloc (.cells #[.slice a n k] 48) := by
  go_enter Try.func56, Try.ntmps56
  go_wp2_with fail
  go_ret
  exact ⟨rfl, rfl⟩
set_option maxRecDepth 100000 in
set_option maxHeartbeats 2000000 in
theorem certs_gives (n : Nat) (hn : 1 ≤ n) (B : Nat) (v : Value) (l : List Cg) (w0 w : World) (h : RdCg w0 v l) (hb0 : Below w0.heap.size w0 w) (hbox : Boxed w B 48 v) :
    Gives Fence.wide n Try.prog 75 #[.pointer (some ⟨B, 0, none⟩)] (fun x : Ce => #[ceV x]) TwA (KpM w0.heap.size) (fun xs => xs = allC l) (fun _ => True) ((allC l).length) w := by
  intro lp J Jx W hW hJT hJxT hY h0
  have hbW : Boxed W B 48 v := (hW.block _ hbox.lt).trans hbox
  have bel0 := chain hb0 hW
  obtain ⟨ao, cap, rfl, hcl, hcm⟩ := rdcg_val h
  have HRD := Lib.hid h
  have hc := hbW.cell
  refine callsIn_of_wp Try.func75 rfl trivial ?_ rfl
  simp only [Try.ntmps75, List.size_toArray, List.length_cons, List.length_nil, Nat.reduceAdd, Nat.reduceSub, Array.replicate_succ, Array.replicate_zero, List.push_toArray, List.append_toArray, List.nil_append, List.cons_append]
  clear hW hbox hbW hb0 h
  gi_wp2
  gi_loopw [9] (fun i wr => ∃ (k : Nat) (pre : List Ce), k ≤ l.length ∧ i = .int .i64 (k : Int) ∧ Hid (allC l = pre ++ allC (l.drop k)) ∧ Below w0.heap.size w0 wr ∧ J pre wr)
    (fun i wr => l.length - (intOf i).toNat)
  case atStart => exact ⟨0, [], Nat.zero_le _, rfl, Lib.hid rfl, bel0, h0⟩
  case round =>
    obtain ⟨k, pre, hk, rfl, hall, bel, hJ⟩ := hrel
    by_cases hlt : k < l.length
    · obtain ⟨pb, po, rfl, hpb, C0, C1, C2, C3, C4, C5⟩ := rdcg_cells HRD.out k hlt
      have c0 := (bel.cell (p := ⟨pb, po + k * 6, none⟩) hpb).trans C0
      have c1 := (bel.cell (p := ⟨pb, po + k * 6 + 1, none⟩) hpb).trans C1
      have c2 := (bel.cell (p := ⟨pb, po + k * 6 + 2, none⟩) hpb).trans C2
      have c3 := (bel.cell (p := ⟨pb, po + k * 6 + 3, none⟩) hpb).trans C3
      have c4 := (bel.cell (p := ⟨pb, po + k * 6 + 4, none⟩) hpb).trans C4
      have c5 := (bel.cell (p := ⟨pb, po + k * 6 + 5, none⟩) hpb).trans C5
      have hst := all_step hlt
      have hrc := (HRD.out.2 l[k] (List.getElem_mem hlt)).2
      obtain ⟨x, hx⟩ : ∃ x, x = l[k] := ⟨_, rfl⟩
      rw [← hx] at c0 c1 c2 c3 c4 c5 hst hrc
      obtain ⟨fr, vw, st, rt, ⟨pa, pn, pk⟩, ⟨ca, cn, ck⟩, cs⟩ := x
      simp only at c0 c1 c2 c3 c4 c5 hst hrc
      obtain ⟨hcn, hck, hck2⟩ := rdcs_len hrc
      subst hcn
      obtain ⟨T, hT⟩ : ∃ T, T = allC (l.drop (k + 1)) := ⟨_, rfl⟩
      have hall2 := hall.out
      rw [hst, ← hT] at hall2
      have HALL := Lib.hid hall2
      have HT := Lib.hid hT
      have HRC := Lib.hid hrc
      have x1 := heap_alloc_new wr (.cells #[.int .i64 fr, .int .i64 vw, .int .i64 st, .int .i64 rt, .slice pa pn pk, .slice ca cs.length ck] 56)
      have bx := (Below.refl wr.heap.size wr).alloc (Nat.le_refl _) (.cells #[.int .i64 fr, .int .i64 vw, .int .i64 st, .int .i64 rt, .slice pa pn pk, .slice ca cs.length ck] 56)
      obtain ⟨e0, e1, e2, e3, e4, e5, ef⟩ := block_cells6 x1
      have hJ2 := hJT _ _ _ hJ bx
      have B2 := chain bel bx
      clear hall hall2 hst hT hrc hx C0 C1 C2 C3 C4 C5 bel hJ
      gi_wp2
      obtain ⟨W2, hW2⟩ : ∃ W, W = wr.alloc (.cells #[.int .i64 fr, .int .i64 vw, .int .i64 st, .int .i64 rt, .slice pa pn pk, .slice ca cs.length ck] 56) := ⟨_, rfl⟩
      rw [← hW2] at hJ2 B2 ⊢
      obtain ⟨pos, hpos⟩ : ∃ q, q = wr.heap.size := ⟨_, rfl⟩
      rw [← hpos]
      clear x1 bx e0 e1 e2 e3 e4 e5 ef hW2 hpos c0 c1 c2 c3 c4 c5
      gi_loopw [16] (fun i wr => ∃ (j : Nat) (pre : List Ce), j ≤ cs.length ∧ i = .int .i64 (j : Int) ∧ Hid (allC l = pre ++ (cs.drop j ++ T)) ∧ Below w0.heap.size w0 wr ∧ J pre wr)
        (fun i wr => cs.length - (intOf i).toNat)
      case atStart => exact ⟨0, pre, Nat.zero_le _, rfl, HALL, B2, hJ2⟩
      case round =>
        clear hJ2 B2 HALL
        obtain ⟨j, pre, hj, rfl, hall, bel, hJ⟩ := hrel
        by_cases hlj : j < cs.length
        · obtain ⟨qb, qo, rfl, hqb, C0, C1, C2, C3, C4⟩ := rdce_cells HRC.out j hlj
          have c0 := (bel.cell (p := ⟨qb, qo + j * 5, none⟩) hqb).trans C0
          have c1 := (bel.cell (p := ⟨qb, qo + j * 5 + 1, none⟩) hqb).trans C1
          have c2 := (bel.cell (p := ⟨qb, qo + j * 5 + 2, none⟩) hqb).trans C2
          have c3 := (bel.cell (p := ⟨qb, qo + j * 5 + 3, none⟩) hqb).trans C3
          have c4 := (bel.cell (p := ⟨qb, qo + j * 5 + 4, none⟩) hqb).trans C4
          have hall2 := hall.out
          rw [List.drop_eq_getElem_cons hlj] at hall2
          have hlen : pre.length < (allC l).length := by
            have := congrArg List.length hall2
            rw [List.length_append, List.length_append, List.length_cons] at this
            omega
          obtain ⟨x, hx⟩ : ∃ x, x = cs[j] := ⟨_, rfl⟩
          rw [← hx] at c0 c1 c2 c3 c4 hall2
          have HALL := Lib.hid (show allC l = (pre ++ [x]) ++ (cs.drop (j + 1) ++ T) by rw [hall2]; simp)
          obtain ⟨a, b, c, d, ⟨va, vn, vk⟩⟩ := x
          simp only at c0 c1 c2 c3 c4
          have hY2 := fun W1 (h : J pre W1) => hY pre ⟨a, b, c, d, ⟨va, vn, vk⟩⟩ W1 h hlen
          unfold ceV at hY2
          simp only at hY2
          obtain ⟨D, hD⟩ : ∃ D, D = str d := ⟨_, rfl⟩
          rw [← hD] at c3 hY2
          have x1 := heap_alloc_new wr (.cells #[.int .i64 a, .int .i64 b, .int .i64 c, .string D, .slice va vn vk] 58)
          have bx := (Below.refl wr.heap.size wr).alloc (Nat.le_refl _) (.cells #[.int .i64 a, .int .i64 b, .int .i64 c, .string D, .slice va vn vk] 58)
          have hJ2 := hJT _ _ _ hJ bx
          have B2 := chain bel bx
          obtain ⟨e0, e1, e2, e3, e4, ef⟩ := block_cells5 x1
          obtain ⟨fn, tmps, assign, body, hy, hR⟩ := hY2 _ hJ2
          clear hall hall2 hx C0 C1 C2 C3 C4 bel hJ bx hY2 hlen x1 hD
          gi_wp2
          refine hR.mono ?_
          rintro e W3 (⟨rfl, hJ3, hk3⟩ | ⟨rfl, hJx3⟩)
          · have B3 : Below w0.heap.size w0 W3 := Below.trans B2 (hk3 B2.size)
            clear hy hR e0 e1 e2 e3 e4 ef hk3 B2 hJ2
            gi_wp2
            go_roundw
            case rel => exact ⟨j + 1, _, by omega, by push_cast; rfl, HALL, B3, hJ3⟩
            case measure => simp [intOf]; omega
          · clear hy hR e0 e1 e2 e3 e4 ef B2 hJ2
            gi_wp2
            refine bodyPost_ret (results_none rfl _ _ _) rfl ?_
            exact ⟨⟨_, rfl⟩, .inr ⟨_, trivial, hJx3⟩⟩
        · obtain rfl : j = cs.length := by omega
          have hall2 := hall.out
          rw [List.drop_length, List.nil_append, HT.out] at hall2
          have HALL := Lib.hid hall2
          clear hall hall2
          gi_wp2
          go_roundw
          case rel => exact ⟨k + 1, pre, by omega, by push_cast; rfl, HALL, bel, hJ⟩
          case measure => simp [intOf]; omega
    · obtain rfl : k = l.length := by omega
      have hall2 := hall.out
      rw [List.drop_length] at hall2
      have HALL := Lib.hid (show pre = allC l by rw [hall2]; simp [allC])
      clear hall hall2
      gi_wp2
      go_end0
      exact ⟨⟨_, rfl⟩, .inl ⟨pre, HALL.out, hJ⟩⟩
end Go.Proofs.Ytgmblgpfgdfnaaa
