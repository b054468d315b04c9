/- Span: key.Range and the document's Begins, as at stage 8. Written by wip/tools/gen11k.py out of tpl8. -/
/- Span: Under. Written by wip/tools/gen11u.py. -/
import Derived.Test.YtbdfcgffkonbiaaGreatDoorQSSC10
import Derived.Test.YtbdfcgffkonbiaaGreatDoorQSSC9
import Derived.Lib.Bytes2
import Derived.Test.YtbdfcgffkonbiaaGreatDoorQSSC36
namespace Go.Proofs.YtbdfcgffkonbiaaGreatDoor
open Go Go.RowKit
set_option linter.unusedVariables false
set_option linter.unusedSimpArgs false
set_option maxRecDepth 100000 in
theorem shifted_at (l p : List UInt8) (m n : Nat) (u : UInt8) (d : Int) (hp : n + 1 ≤ maxLen) (hz : (str l).size = n + 1) (hne : (str l).toList.isEmpty = false) (hex : (str l).extract 0 n = str p) (hpz : (str p).size = n)
    (hcc : ∀ h : n < (str l).size, ((str l)[n]'h).toNat = m) (hm : m < 256) (hd : -1 ≤ d) (hd2 : d ≤ 1) (e1 : IntKind.i64.wrap ((m : Int) + d) = (m : Int) + d) (e2 : IntKind.u8.wrap ((m : Int) + d) = (u.toNat : Int)) : Ret 90 #[.string (str l), .int .i64 d] (.string (str (p ++ [u]))) := by
  intro w tab
  unfold maxLen at hp
  have c1 : (n : Int) ≤ (n : Int) + 1 := by omega
  have c2 : (n : Int) < (n : Int) + 1 := by omega
  have e0 : IntKind.i64.wrap (m : Int) = (m : Int) := by rw [IntKind.wrap_i64]; omega
  have hu : (str [u]).size = 1 := str_size _
  have c3 : ¬ 9223372036854775807 < n + 1 := by omega
  go_enter Tryz.func90, Tryz.ntmps90
  go_wp2_with fail
  refine g_start (by kernel_rfl) ?_
  refine g_take (i := 0) (d := (some 11)) (v := ?_) rfl rfl (by kernel_rfl) (fun _ _ _ h => h) (by rfl) (fun w' hb' => ?_) ?_
  rotate_left
  · (try go_simp); (try with_reducible rfl)
  try simp only [Act.put, List.setIfInBounds_toArray, List.set_cons_zero, List.set_cons_succ]
  refine g_take (i := 1) (d := (some 12)) (v := ?_) rfl rfl (by kernel_rfl) (fun _ _ _ h => h) (by rfl) (fun w' hb' => ?_) ?_
  rotate_left
  · (try go_simp); (try with_reducible rfl)
  try simp only [Act.put, List.setIfInBounds_toArray, List.set_cons_zero, List.set_cons_succ]
  refine g_take (i := 2) (d := (some 13)) (v := ?_) rfl rfl (by kernel_rfl) (fun _ _ _ h => h) (by rfl) (fun w' hb' => ?_) ?_
  rotate_left
  · (try go_simp); (try with_reducible rfl)
  try simp only [Act.put, List.setIfInBounds_toArray, List.set_cons_zero, List.set_cons_succ]
  refine g_take (i := 3) (d := (some 14)) (v := ?_) rfl rfl (by kernel_rfl) (fun _ _ _ h => h) (by rfl) (fun w' hb' => ?_) ?_
  rotate_left
  · (try go_simp); (try with_reducible rfl)
  try simp only [Act.put, List.setIfInBounds_toArray, List.set_cons_zero, List.set_cons_succ]
  refine g_take (i := 4) (d := (some 15)) (v := ?_) rfl rfl (by kernel_rfl) (fun _ _ _ h => h) (by rfl) (fun w' hb' => ?_) ?_
  rotate_left
  · (try go_simp); (try with_reducible rfl)
  try simp only [Act.put, List.setIfInBounds_toArray, List.set_cons_zero, List.set_cons_succ]
  refine g_take (i := 5) (d := (some 16)) (v := ?_) rfl rfl (by kernel_rfl) (fun _ _ _ h => h) (by rfl) (fun w' hb' => ?_) ?_
  rotate_left
  · (try go_simp); (try with_reducible rfl)
  try simp only [Act.put, List.setIfInBounds_toArray, List.set_cons_zero, List.set_cons_succ]
  refine g_take (i := 6) (d := (some 17)) (v := ?_) rfl rfl (by kernel_rfl) (fun _ _ _ h => h) (by rfl) (fun w' hb' => ?_) ?_
  rotate_left
  · (try go_simp); (try with_reducible rfl)
  try simp only [Act.put, List.setIfInBounds_toArray, List.set_cons_zero, List.set_cons_succ]
  refine g_take (i := 7) (d := (some 18)) (v := ?_) rfl rfl (by kernel_rfl) (fun _ _ _ h => h) (by rfl) (fun w' hb' => ?_) ?_
  rotate_left
  · (try go_simp); (try with_reducible rfl)
  try simp only [Act.put, List.setIfInBounds_toArray, List.set_cons_zero, List.set_cons_succ]
  refine g_take (i := 8) (d := (some 19)) (v := ?_) rfl rfl (by kernel_rfl) (fun _ _ _ h => h) (by rfl) (fun w' hb' => ?_) ?_
  rotate_left
  · (try go_simp); (try with_reducible rfl)
  try simp only [Act.put, List.setIfInBounds_toArray, List.set_cons_zero, List.set_cons_succ]
  refine g_take (i := 9) (d := (some 20)) (v := ?_) rfl rfl (by kernel_rfl) (fun _ _ _ h => h) (by rfl) (fun w' hb' => ?_) ?_
  rotate_left
  · (try go_simp); (try with_reducible rfl)
  try simp only [Act.put, List.setIfInBounds_toArray, List.set_cons_zero, List.set_cons_succ]
  refine g_run (i := 10) rfl (by kernel_rfl) (by rfl) (fun K hK => ?_)
  go_simp
  have hb0 := heap_alloc_new w (.cells #[.int .u8 (u.toNat : Int)] 5)
  have gg : Below w.heap.size w (w.alloc (.cells #[.int .u8 (u.toNat : Int)] 5)) := (Below.refl _ _).alloc (Nat.le_refl _) _
  have gd : Below w.drew.heap.size w.drew (w.alloc (.cells #[.int .u8 (u.toNat : Int)] 5)).drew := ⟨gg.os, gg.tape, gg.output, gg.size, gg.block⟩
  refine hK _ _ ⟨gd, ?_⟩
  clear hK K
  try simp only [Act.put, List.setIfInBounds_toArray, List.set_cons_zero, List.set_cons_succ]
  refine g_take (i := 11) (d := (some 22)) (v := ?_) rfl rfl (by kernel_rfl) (fun _ _ _ h => h) (by rfl) (fun w' hb' => ?_) ?_
  rotate_left
  · have k1 := conv_one ((hb'.block _ (lt_of_block hb0)).trans hb0); (try go_simp); (try with_reducible rfl)
  try simp only [Act.put, List.setIfInBounds_toArray, List.set_cons_zero, List.set_cons_succ]
  refine g_take (i := 12) (d := (some 23)) (v := ?_) rfl rfl (by kernel_rfl) (fun _ _ _ h => h) (by rfl) (fun w' hb' => ?_) ?_
  rotate_left
  · (try go_simp); (try with_reducible rfl)
  try simp only [Act.put, List.setIfInBounds_toArray, List.set_cons_zero, List.set_cons_succ]
  refine g_take (i := 13) (d := (some 4)) (v := ?_) rfl rfl (by kernel_rfl) (fun _ _ _ h => h) (by rfl) (fun w' hb' => ?_) ?_
  rotate_left
  · (try go_simp); (try with_reducible rfl)
  try simp only [Act.put, List.setIfInBounds_toArray, List.set_cons_zero, List.set_cons_succ]
  refine g_done (by kernel_rfl) ?_
  go_wp2_with fail
  go_ret
  exact ⟨ret_str (k8str_append _ _), below_drewN (k := 1) gg⟩
theorem range_g (p q : List UInt8) (b : Bool) (H1 : Ret 28 #[.string (str p)] (.bool b)) (H2 : Ret 74 #[.string (str p)] (.string (str q)))   : Ret 60 #[.string (str p)] (.tuple (if b then #[.string (str p), .string (str q), .int .i64 0] else #[.string (str []), .string (str []), .int .i64 3])) := by
  intro w tab
  have bel := Below.refl w.heap.size w
  cases b with
  | false =>
    go_enter Tryz.func60, Tryz.ntmps60
    go_wp2_with (first | ((with_reducible refine (H1.at _ tab).mono ?_); rintro e w' ⟨rfl, g⟩; have tab := tab.below g; have bel := chain bel g; clear g) | ((with_reducible refine (H2.at _ tab).mono ?_); rintro e w' ⟨rfl, g⟩; have tab := tab.below g; have bel := chain bel g; clear g))
    go_ret3
    exact ⟨rfl, bel⟩
  | true =>
    go_enter Tryz.func60, Tryz.ntmps60
    go_wp2_with (first | ((with_reducible refine (H1.at _ tab).mono ?_); rintro e w' ⟨rfl, g⟩; have tab := tab.below g; have bel := chain bel g; clear g) | ((with_reducible refine (H2.at _ tab).mono ?_); rintro e w' ⟨rfl, g⟩; have tab := tab.below g; have bel := chain bel g; clear g))
    go_ret3
    exact ⟨rfl, bel⟩
theorem end_g (p q : List UInt8)  (H1 : Ret 90 #[.string (str p), .int .i64 1] (.string (str q)))   : Ret 74 #[.string (str p)] (.string (str q)) := by
  intro w tab
  have bel := Below.refl w.heap.size w
  go_enter Tryz.func74, Tryz.ntmps74
  go_wp2_with (first | ((with_reducible refine (H1.at _ tab).mono ?_); rintro e w' ⟨rfl, g⟩; have tab := tab.below g; have bel := chain bel g; clear g))
  go_ret
  exact ⟨rfl, bel⟩
theorem shifted_any (l : List UInt8) (d : Int) (n : Nat) (hd : (d = 1 ∧ n = 1) ∨ (d = -1 ∧ n = 255)) (hl : l.length ≤ maxLen) : Ret 90 #[.string (str l), .int .i64 d] (.string (str (shiftL l n))) := by
  by_cases h : l = []
  · subst h
    rw [show shiftL [] n = [] from rfl]
    intro w tab
    have hE := emp_true (l := []) rfl
    clear hl hd
    go_enter Tryz.func90, Tryz.ntmps90
    go_wp2_with fail
    go_ret
    exact ⟨rfl, Below.refl _ _⟩
  · obtain ⟨p, c, rfl⟩ := last_split h
    rw [shiftL_snoc]
    have hc := c.toNat_lt
    have hu : (UInt8.ofNat (c.toNat + n)).toNat = (c.toNat + n) % 256 := by rw [UInt8.toNat_ofNat']
    refine shifted_at (p ++ [c]) p c.toNat p.length (UInt8.ofNat (c.toNat + n)) d (by simpa using hl) (snoc_size p c) (snoc_ne p c) (snoc_ex p c) (str_size p) (snoc_byte p c) (by omega) (by omega) (by omega) ?_ ?_
    · rw [IntKind.wrap_i64]; omega
    · rw [hu]
      rcases hd with ⟨rfl, rfl⟩ | ⟨rfl, rfl⟩
      · simp only [IntKind.wrap_u8]; omega
      · simp only [IntKind.wrap_u8]; omega
theorem end_any (l : List UInt8) (hl : l.length ≤ maxLen) : Ret 74 #[.string (str l)] (.string (str (endL l))) :=
  end_g l _ (shifted_any l 1 1 (.inl ⟨rfl, rfl⟩) hl)
theorem range_any (p : List UInt8) (hp : p.length ≤ maxLen) : Ret 60 #[.string (str p)] (.tuple (if patB p = true then #[.string (str p), .string (str (endL p)), .int .i64 0] else #[.string (str []), .string (str []), .int .i64 3])) :=
  range_g p _ _ (pattern_any p hp) (end_any p hp)
end Go.Proofs.YtbdfcgffkonbiaaGreatDoor
namespace Go.Proofs.YtbdfcgffkonbiaaGreatDoor
open Go Go.RowKit
set_option linter.unusedVariables false
set_option linter.unusedSimpArgs false
set_option maxRecDepth 100000
attribute [local go_sem] Oper.semAt_some
theorem check1_any (cs : Array Value) (lv : Nat → List It) (vs : Nat → Int) (f : List UInt8) (w : World) (tab : TabAt w) (h : RdT w cs lv vs) (hsz : SzT lv) (hf : f.length ≤ maxLen) (B : Nat) (q : w.heap[B]? = some (.cells #[.string (str f)] 9 (0, 0))) :
    Calls Tryz.prog 12 #[.agg cs, .slice (some ⟨B, 0, none⟩) 1 1] w fun e w' => e = .returned (.int .i64 (ckE lv vs [f] : Int)) ∧ Below w.heap.size w w' := by
  refine check11_any cs lv vs [f] B 1 w tab h hsz (lt_of_block q) (fun i hi => ?_) (fun p hp => ?_) (by simp) (by simp) (by decide)
  · have : i = 0 := by simp at hi; omega
    subst this; rw [block_cell q]; rfl
  · rw [List.mem_singleton.1 hp]; exact hf
def unL (lv : Nat → List It) (vs : Nat → Int) (p : List UInt8) : List It := if ckE lv vs [p] = 0 then rngL lv p (endL p) else []
set_option maxHeartbeats 1000000 in
theorem under11_any (cs : Array Value) (lv : Nat → List It) (vs : Nat → Int) (p : List UInt8) (w : World) (tab : TabAt w) (h : RdT w cs lv vs) (hsz : SzT lv) (hp : p.length ≤ maxLen) :
    Calls Tryz.prog 39 #[.agg cs, .string (str p)] w fun e w' => ∃ v, e = .returned (.tuple #[v, .int .i64 (ckE lv vs [p] : Int)]) ∧ w'.ownsRow w.heap.size 48 5 v (unL lv vs p).length ((unL lv vs p).flatMap itC) ∧ Below w.heap.size w w' := by
  have hs32 := h.size
  have hsT := infoTc hs32
  obtain ⟨i0, hi, hz0, hz1, hz2⟩ := info_parts item_info
  obtain ⟨q1, q3, zs⟩ := two_allocs w (.cells cs 26) (.cells #[.string (str p)] 9)
  have bel := ((Below.refl _ w).alloc (Nat.le_refl _) (.cells cs 26)).alloc (by simp) (.cells #[.string (str p)] 9)
  have CK0 := check1_any cs lv vs p _ (tab.below bel) (h.below bel (Nat.le_refl _)) hsz hp _ q3
  have hq1 := heap_alloc_new w (.cells cs 26)
  obtain ⟨Z, hZ⟩ : ∃ Z : Ending → World → Prop, Z = fun e w' => ∃ v, e = .returned (.tuple #[v, .int .i64 (ckE lv vs [p] : Int)]) ∧ w'.ownsRow w.heap.size 48 5 v (unL lv vs p).length ((unL lv vs p).flatMap itC) ∧ Below w.heap.size w w' := ⟨_, rfl⟩
  rw [← hZ]
  have HZ := Lib.hid hZ
  have HT := Lib.hid h
  have TB := Lib.hid tab
  by_cases hc : ckE lv vs [p] = 0
  · have HM : Hid (mayTs lv vs 16 = true) := Lib.hid (by
      cases hm : mayTs lv vs 16 with
      | true => rfl
      | false => rw [ck_no hm] at hc; cases hc)
    have hpp : patB p = true := by
      cases hpp : patB p with
      | true => rfl
      | false => rw [ck_form HM.out (by simp [hpp])] at hc; cases hc
    rw [hc] at CK0
    have CK := Lib.hid CK0
    have HC := Lib.hid hc
    have RG0 := range_any p hp
    rw [if_pos hpp] at RG0
    have RG := Lib.hid RG0
    obtain ⟨t, ht⟩ : ∃ t, t = endL p := ⟨_, rfl⟩
    rw [← ht] at RG
    have HE := Lib.hid (show unL lv vs p = rngL lv p t by unfold unL; rw [if_pos hc, ht])
    clear CK0 hc hZ h tab hsz RG0 hpp ht
    refine (callsIn_wide (n := 7)).1 ?_
    refine callsIn_of_wp_marks Tryz.func39 rfl trivial ?_ rfl
    simp only [Tryz.ntmps39, List.size_toArray, List.length_cons, List.length_nil, Nat.reduceAdd, Nat.reduceSub, Array.replicate_succ, Array.replicate_zero, List.push_toArray, List.append_toArray, List.nil_append, List.cons_append]
    gi_wp2_with (first | ((with_reducible refine wpListIn_load_row (o := ⟨some 13, _, _, _, _, _⟩) rfl 26 (.tmp 2) rfl _ rfl _ cs (0, 0) _ hq1 Tryz.underlying26 rfl hsT ?_)) | (refine ⟨trivial, ?_⟩; gi_at_call 12; refine (callsIn_wide.2 CK.out).mono ?_; rintro e w1 ⟨rfl, g⟩; (have gs1 := g.size); (have q1 := (g.block _ (lt_of_block q1)).trans q1); (have bel := chain bel g); (have T1 := TB.out.below bel)) | (refine ⟨trivial, ?_⟩; gi_at_call 60; refine (callsIn_wide.2 (RG.out _ T1)).mono ?_; rintro e w2 ⟨rfl, g⟩; (have q1 := (g.block _ (lt_of_block q1)).trans q1); (have q1a := (@heap_alloc_old w2 (.cells #[.slice none 0 0] 22) _ (lt_of_block q1)).trans q1); (have bel := chain bel g)) | ((with_reducible refine wpListIn_load_row (o := ⟨some 26, _, _, _, _, _⟩) rfl 26 (.tmp 2) rfl _ rfl _ cs (0, 0) _ q1a Tryz.underlying26 rfl hsT ?_)) | (refine ⟨trivial, ?_⟩; gi_at_call 13; refine (callsIn_wide.2 (items_some cs hs32 p t _)).mono ?_; rintro e w5 ⟨Bt, Bf, Bo, rfl, r1, r2, r3, g5⟩))
    have hl2 : w.heap.size + 2 ≤ w2.heap.size := by have := g.size; have := gs1; have := zs.1; omega
    have qo0 : (w2.alloc (.cells #[.slice none 0 0] 22)).heap[w2.heap.size]? = some (.cells #[.slice none 0 0] 22 (0, 0)) := heap_alloc_new _ _
    have bel5 := chain (bel.alloc bel.size (.cells #[.slice none 0 0] 22)) g5
    have qo := (g5.block _ (lt_of_block qo0)).trans qo0
    obtain ⟨M, hM⟩ : ∃ M, M = w2.heap.size := ⟨_, rfl⟩
    rw [← hM] at qo hl2 ⊢
    have hn0M : w.heap.size ≤ M := by omega
    have hn5 := bel5.size
    have OK := Lib.hid (show FixOk [] M from fun p hp => by cases hp)
    have HN0 := Lib.hid hn0M
    have HN5 := Lib.hid hn5
    have i00 : InvO [] M w.heap.size w [] w5 := ⟨⟨fun p hp => (by cases hp), _, qo, World.ownsRow_nil _ _ _ _⟩, bel5⟩
    have HI0 := Lib.hid i00
    have GV := items_gives (7 - 1) (by decide) Bt Bf Bo cs lv vs p t w w5 HT.out HM.out bel5 r1 r2 r3
    clear qo0 q1 q3 q1a hq1 g5 g bel hn0M hn5 i00 qo zs hl2 hM r1 r2 r3 bel5 T1
    refine range_lawM rfl (by decide) (gf := 29) (lb := #[.pointer (some ⟨Bt, 0, none⟩), .pointer (some ⟨Bf, 0, none⟩), .pointer (some ⟨Bo, 0, none⟩)]) rfl trivial (enters_of Tryz.func29 (by kernel_rfl) rfl) (fun _ => rfl)
      GV
      (fun A B h => h.keeps _) (fun h k => h.trans k) (fun W l o o' => Kp11.put HN5.out W l o o')
      (fun pre X => InvO [] M w.heap.size w pre X)
      (fun c pre X => False)
      (fun s X Y row h hg hr => InvO.from OK.out HN0.out _ HN5.out (Nat.le_refl _) s X Y row h hg hr)
      (fun c s X Y row h hg hr => h)
      (fun s A B h t => InvO.turn OK.out (Nat.le_refl _) h t)
      (fun c s A B h t => h)
      HI0.out
      (fun x W => { tmps := #[.agg cs, .string (str p), .pointer (some ⟨w.heap.size, 0, none⟩), undef, .slice none 0 0, .int .i64 0, .int .i64 0, .string (str p), .string (str t), .int .i64 0, .pointer (some ⟨M, 0, none⟩), undef, .pointer (some ⟨W.heap.size, 0, none⟩), .agg cs, .string (str p), .slice (some ⟨w.heap.size + 1, 0, none⟩) 1 1, .int .i64 0, .int .i64 0, .bool false, undef, .tuple #[.string (str p), .string (str t), .int .i64 0], .string (str p), .tuple #[.string (str p), .string (str t), .int .i64 0], .string (str p), .string (str t), .int .i64 0, .agg cs, .string (str p), .string (str t), .func (.func 29) #[] #[.pointer (some ⟨Bt, 0, none⟩), .pointer (some ⟨Bf, 0, none⟩), .pointer (some ⟨Bo, 0, none⟩)], .int .i64 (x.2 : Int), .agg #[.string (str x.1.key), .int .i64 x.1.v.k, .int .i64 x.1.v.i, .string (str x.1.v.s), .int .i64 x.1.ver], undef, undef, undef, undef, undef, undef], defers := [] })
      (fun x W => W.alloc (.cells #[.string (str x.1.key), .int .i64 x.1.v.k, .int .i64 x.1.v.i, .string (str x.1.v.s), .int .i64 x.1.ver] 48))
      (fun x W => (Below.refl _ W).alloc (Nat.le_refl _) _) (fun x W => Kp11.of_below ((Below.refl _ W).alloc (Nat.le_refl _) _)) (fun s A B h g => InvO.below (Nat.le_refl _) h g) ?assign ?body ?done ?stop
    case assign =>
      intro l x W K hK
      obtain ⟨x, k⟩ := x
      simp only at hK ⊢
      gi_wp2
      exact hK
    case body =>
      rintro l pre x W X ⟨⟨hfx, v, hv, hr⟩, hb⟩ hlen hW hn
      obtain ⟨x, k⟩ := x
      simp only at hn ⊢
      rw [heap_alloc_new] at hn
      obtain ⟨e0, e1, e2, e3, e4, ef⟩ := block_cells5 hn
      have cv := block_cell hv 0
      simp only [List.getElem?_toArray, List.getElem?_cons_zero] at cv
      have hlM := lt_of_block hv
      have hfl := fsts_len pre
      have HFX := Lib.hid hfx
      have HV := Lib.hid hv
      have HR := Lib.hid hr
      have HBL := Lib.hid hb
      clear hfx hv hr hb hn
      gi_wp2_with (gi_at_builtin; refine wpListIn_append_own _ rfl _ _ 22 rfl (M + 1) 48 i0 (.agg #[.string ⟨#[]⟩, .int .i64 0, .int .i64 0, .string ⟨#[]⟩, .int .i64 0]) 5 56 Tryz.underlying22 hi hz0 hz1 hz2 rfl (by decide) v (fsts pre).length _ rfl (HR.out.alloc _) ⟨X.heap.size, 0, none⟩ 1 1 (itC x) rfl rfl (fun j u hj => by rw [Addr.add_lit, Nat.zero_add, block_cell (heap_alloc_new X _) j]; simpa [itC] using hj) (itC_one x) (by unfold maxLen; omega) (by omega) (by simp; omega) ?_; intro v' w1 hown' hgrow _; obtain ⟨g', cap', rfl⟩ := ownsRow_succ hown'; (have hv1 := (boxed_appended (n₀ := w.heap.size) (B := M) (b₂ := M + 1) HV.out (by omega) HR.out hlM HN0.out hown' hgrow).1); (have cM := hv1.cell); (have fM := hv1.frozen))
      obtain ⟨a1, a2, a3⟩ := InvO.app (x := (x, k)) OK.out HN0.out HFX.out HV.out HR.out HBL.out hown' hgrow
      rw [fsts_len] at a1 a2 a3
      exact ⟨a2.from _, a3, a1⟩
    case done =>
      rintro D ys W hD rfl ⟨⟨hfx, v, hv, hr⟩, hb⟩ hK
      have cv := block_cell hv 0
      simp only [List.getElem?_toArray, List.getElem?_cons_zero] at cv
      rw [fsts_ixs] at hr
      have HR := Lib.hid hr
      have HBL := Lib.hid hb
      clear hr hb hfx hv
      gi_wp2
      refine ⟨by simp, .inl ⟨_, _, rfl, run_takeDeferred hK, ?_⟩⟩
      refine ⟨_, results_tmp2 rfl _ _ _, ?_⟩
      rw [HZ.out]
      refine ⟨v, by rw [HC.out]; rfl, ?_, HBL.out.trans (below_put11 HN5.out hD hK)⟩
      rw [HE.out]
      exact ownsRow_putObj (own_base HR.out (by have := HN0.out; omega)) _ hK rfl
    case stop =>
      rintro D c pre W hD _ h hK
      exact h.elim
  · have hcn : 1 ≤ ckE lv vs [p] := by omega
    have HL := Lib.hid (show unL lv vs p = [] by unfold unL; rw [if_neg hc])
    obtain ⟨E, hE⟩ : ∃ E, E = ckE lv vs [p] := ⟨_, rfl⟩
    rw [← hE] at CK0 hcn
    have HE := Lib.hid hE
    have CK := Lib.hid CK0
    have d1 : ((E : Int) != 0) = true := by simp; omega
    clear CK0 hc hZ h tab hsz hE
    go_enter Tryz.func39, Tryz.ntmps39
    go_wp2_with (first | ((with_reducible refine wpList_load_row (o := ⟨some 13, _, _, _, _, _⟩) rfl 26 (.tmp 2) rfl _ rfl _ cs (0, 0) _ hq1 Tryz.underlying26 rfl hsT ?_)) | ((with_reducible refine CK.out.mono ?_); rintro e w2 ⟨rfl, g⟩; (have bel := chain bel g)))
    show Z (.returned _) _
    rw [HZ.out, HL.out, ← HE.out]
    exact ⟨_, rfl, World.ownsRow_nil _ _ _ _, bel⟩
end Go.Proofs.YtbdfcgffkonbiaaGreatDoor
