/- Span: awake. Written by wip/tools/gen11aw.py. -/
import Derived.Test.YtbdfcgffkonbiaaGreatDoorQSSC38
import Derived.Test.YtbdfcgffkonbiaaGreatDoorQSSC41
import Derived.Test.YtbdfcgffkonbiaaGreatDoorQSSC43
namespace Go.Proofs.YtbdfcgffkonbiaaGreatDoor
open Go Go.RowKit
set_option linter.unusedVariables false
set_option linter.unusedSimpArgs false
set_option maxRecDepth 100000
def y1 : It := ⟨[98], ⟨2, 2, []⟩, 0⟩
def y2 : It := ⟨[97], ⟨2, 1, []⟩, 0⟩
def y3 : It := ⟨[113], ⟨2, 3, []⟩, 0⟩
def lvA : Nat → List It := (layL [y1, y2, y3]).1
def vsA : Nat → Int := (layL [y1, y2, y3]).2
theorem putA : ∀ j (hj : j < [y1, y2, y3].length), putTE (layL ([y1, y2, y3].take j)).1 (layL ([y1, y2, y3].take j)).2 ([y1, y2, y3][j]) = 0 := fun j hj => match j, hj with
  | 0, _ => by kernel_rfl
  | 1, _ => by kernel_rfl
  | 2, _ => by kernel_rfl
theorem ckA (ps : List (List UInt8)) (h : ps.all patB = true) : ckE lvA vsA ps = 0 := ck_ok (by kernel_rfl) h
theorem allA : allS lvA = [y2, y1, y3] := by kernel_rfl
theorem scA : scL lvA vsA [] [] 9 = [y2, y1, y3] := by kernel_rfl
theorem bkA : (scL lvA vsA [] [] 1024).reverse.take (2 : Int).toNat = [y3, y1] := by kernel_rfl
theorem suA : suI lvA vsA [] [] = 6 := by kernel_rfl
theorem suAE : suE lvA vsA [] [] = 0 := by kernel_rfl
theorem fiA : fiI lvA vsA [98, 47] = y3 := by kernel_rfl
theorem fiAE : fiE lvA vsA [98, 47] = 0 := by
  unfold fiE; rw [if_pos (by kernel_rfl), if_neg]
  intro h; have : rngL lvA [98, 47] [] = [y3] := by kernel_rfl
  rw [this] at h; cases h
theorem laA : laI lvA vsA [] = y3 := by kernel_rfl
theorem laAE : laE lvA vsA [] = 0 := by
  unfold laE; rw [if_pos (by kernel_rfl), if_neg]
  intro h; have : rngL lvA [] [] = [y2, y1, y3] := by kernel_rfl
  rw [this] at h; cases h
def z1' : It := ⟨[120, 47, 49, 47, 97], ⟨2, 2, []⟩, 0⟩
def z2' : It := ⟨[120, 47, 50], ⟨2, 1, []⟩, 0⟩
def z3' : It := ⟨[120, 47, 49, 47, 98], ⟨2, 3, []⟩, 0⟩
def lvB : Nat → List It := (layL [z1', z2', z3']).1
def vsB : Nat → Int := (layL [z1', z2', z3']).2
theorem putB : ∀ j (hj : j < [z1', z2', z3'].length), putTE (layL ([z1', z2', z3'].take j)).1 (layL ([z1', z2', z3'].take j)).2 ([z1', z2', z3'][j]) = 0 := fun j hj => match j, hj with
  | 0, _ => by kernel_rfl
  | 1, _ => by kernel_rfl
  | 2, _ => by kernel_rfl
theorem ckB : ckE lvB vsB [[120, 47]] = 0 := by kernel_rfl
theorem nmB : nmsU lvB vsB [120, 47] = [[49], [49], [50]] := by kernel_rfl
theorem soB : ([[49], [49], [50]] : List (List UInt8)).mergeSort (fun x y => decide (x ≤ y)) = [[49], [49], [50]] := by
  refine List.mergeSort_of_pairwise ?_
  simp
  decide
theorem nmlB : nmsL lvB vsB [120, 47] = [[49], [50]] := by
  unfold nmsL; rw [nmB, soB]; kernel_rfl
theorem sz_of {ps : List It} (h : ps.all (fun x => decide (x.key.length ≤ maxLen) && decide (x.v.s.length ≤ maxLen)) = true) : SzI ps := fun x hx => by
  have := List.all_eq_true.1 h x hx
  simpa using this
theorem szA : SzI [y1, y2, y3] := sz_of (by decide)
theorem szB : SzI [z1', z2', z3'] := sz_of (by decide)
theorem lay_sz {ps : List It} (h : SzI ps) : SzT (layL ps).1 := by
  have : ∀ (ps : List It) (s : (Nat → List It) × (Nat → Int)), SzT s.1 → SzI ps → SzT (ps.foldl stepL s).1 := by
    intro ps
    induction ps with
    | nil => intro s h _; exact h
    | cons x ps ih =>
      intro s h1 h2
      refine ih (stepL s x) ?_ (fun y hy => h2 y (by simp [hy]))
      refine upd_sz11 h1 (fun y hy => ?_)
      rcases with_sub hy with e | e
      · exact h1 _ (bkN_lt _) y e
      · rw [e]; exact h2 x (by simp)
  exact this ps _ (fun b hb x hx => by cases hx) h
/-- A row of three items, made by a literal. -/
theorem rd3 {W : World} {g : Nat} {ps : List It} {cs : Array Value} {T : TypeId} (hq : W.heap[g]? = some (.cells cs T (0, 0))) (hcs : cs = (ps.flatMap itC).toArray) (hn : ps.length = 3) : RdI W (.slice (some ⟨g, 0, none⟩) 3 3) ps := by
  refine ⟨some ⟨g, 0, none⟩, 3, by rw [hn], by omega, by decide, by simp, fun _ => ⟨g, 0, rfl, lt_of_block hq, fun i hi => ?_⟩⟩
  rw [Nat.zero_add, block_cell hq, hcs]
  simp
theorem scanA (cs : Array Value) (W : World) (tab : TabAt W) (h : RdT W cs lvA vsA) : Calls Tryz.prog 18 #[.agg cs, .string (ByteArray.mk #[]), .string (ByteArray.mk #[]), .int .i64 9] W fun e w' => ∃ v, e = .returned (.tuple #[v, .int .i64 0]) ∧ w'.ownsRow W.heap.size 48 5 v [y2, y1, y3].length ([y2, y1, y3].flatMap itC) ∧ Below W.heap.size W w' := by
  have h := scan_any cs lvA vsA [] [] 9 W tab h (lay_sz szA) (by decide) (by decide)
  rw [scA, ckA _ (by rfl)] at h
  exact h
theorem backA (cs : Array Value) (W : World) (tab : TabAt W) (h : RdT W cs lvA vsA) : Calls Tryz.prog 19 #[.agg cs, .string (ByteArray.mk #[]), .string (ByteArray.mk #[]), .int .i64 2] W fun e w' => ∃ v, e = .returned (.tuple #[v, .int .i64 0]) ∧ w'.ownsRow W.heap.size 48 5 v [y3, y1].length ([y3, y1].flatMap itC) ∧ Below W.heap.size W w' := by
  have h := back_any cs lvA vsA [] [] 2 W tab h (lay_sz szA) (by decide) (by decide)
  rw [bkA, ckA _ (by rfl)] at h
  exact h
theorem sumA (cs : Array Value) (W : World) (tab : TabAt W) (h : RdT W cs lvA vsA) : Calls Tryz.prog 6 #[.agg cs, .string (ByteArray.mk #[]), .string (ByteArray.mk #[])] W fun e w' => e = .returned (.tuple #[.int .i64 6, .int .i64 0]) ∧ Below W.heap.size W w' := by
  have h := sum11_any cs lvA vsA [] [] W tab h (lay_sz szA) (by decide) (by decide)
  rw [suA, suAE] at h
  exact h
theorem firstA (cs : Array Value) (W : World) (tab : TabAt W) (h : RdT W cs lvA vsA) : Calls Tryz.prog 20 #[.agg cs, .string (ByteArray.mk #[98, 47])] W fun e w' => e = .returned (.tuple #[.agg #[.string (str [113]), .int .i64 2, .int .i64 3, .string (str []), .int .i64 0], .int .i64 0]) ∧ Below W.heap.size W w' := by
  have h := first_any cs lvA vsA [98, 47] W tab h (lay_sz szA) (by decide)
  rw [fiA, fiAE] at h
  exact h
theorem lastA (cs : Array Value) (W : World) (tab : TabAt W) (h : RdT W cs lvA vsA) : Calls Tryz.prog 21 #[.agg cs, .string (ByteArray.mk #[])] W fun e w' => e = .returned (.tuple #[.agg #[.string (str [113]), .int .i64 2, .int .i64 3, .string (str []), .int .i64 0], .int .i64 0]) ∧ Below W.heap.size W w' := by
  have h := last_any cs lvA vsA [] W tab h (lay_sz szA) (by decide)
  rw [laA, laAE] at h
  exact h
theorem namesB (cs : Array Value) (W : World) (tab : TabAt W) (h : RdT W cs lvB vsB) : Calls Tryz.prog 22 #[.agg cs, .string (ByteArray.mk #[120, 47])] W fun e w' => ∃ v, e = .returned (.tuple #[v, .int .i64 0]) ∧ w'.ownsRow W.heap.size 9 1 v [[49], [50]].length (([[49], [50]] : List (List UInt8)).flatMap svS) ∧ Below W.heap.size W w' := by
  have h := names_any cs lvB vsB [120, 47] W tab h (lay_sz szB) (by decide)
  rw [nmlB, ckB] at h
  exact h
set_option maxHeartbeats 1000000 in
theorem awake11_any (w : World) (tab : TabAt w) : Calls Tryz.prog 8 #[] w fun e w' => e = .returned (.bool true) ∧ Below w.heap.size w w' := by
  have z0 := zeroT_run
  have z1 := zT_ne
  have TAB := Lib.hid tab
  have I2 := Lib.hid (fun w => V7.refInt_any 2 w)
  have I1 := Lib.hid (fun w => V7.refInt_any 1 w)
  have I3 := Lib.hid (fun w => V7.refInt_any 3 w)
  clear tab
  go_enter Tryz.func8, Tryz.ntmps8
  go_wp2_with (first | ((refine (I2.out _).mono ?_); rintro e w1 ⟨rfl, g1⟩) | ((refine (I1.out _).mono ?_); rintro e w2 ⟨rfl, g2⟩; (have g2 := chain g1 g2)) | ((refine (I3.out _).mono ?_); rintro e w3 ⟨rfl, g3⟩; (have g3 := chain g2 g3)))
  refine (laid_any [y1, y2, y3] _ (w3.alloc (.cells #[.string (ByteArray.mk #[98]), .int .i64 2, .int .i64 2, .string (str []), .int .i64 0, .string (ByteArray.mk #[97]), .int .i64 2, .int .i64 1, .string (str []), .int .i64 0, .string (ByteArray.mk #[113]), .int .i64 2, .int .i64 3, .string (str []), .int .i64 0] 48)) (TAB.out.below (g3.alloc g3.size (.cells #[.string (ByteArray.mk #[98]), .int .i64 2, .int .i64 2, .string (str []), .int .i64 0, .string (ByteArray.mk #[97]), .int .i64 2, .int .i64 1, .string (str []), .int .i64 0, .string (ByteArray.mk #[113]), .int .i64 2, .int .i64 3, .string (str []), .int .i64 0] 48))) (rd3 (heap_alloc_new w3 (.cells #[.string (ByteArray.mk #[98]), .int .i64 2, .int .i64 2, .string (str []), .int .i64 0, .string (ByteArray.mk #[97]), .int .i64 2, .int .i64 1, .string (str []), .int .i64 0, .string (ByteArray.mk #[113]), .int .i64 2, .int .i64 3, .string (str []), .int .i64 0] 48)) rfl rfl) szA (by decide) putA).mono ?_
  rintro e w4 ⟨cs, rfl, own, g4⟩
  have belL := chain (g3.alloc g3.size (.cells #[.string (ByteArray.mk #[98]), .int .i64 2, .int .i64 2, .string (str []), .int .i64 0, .string (ByteArray.mk #[97]), .int .i64 2, .int .i64 1, .string (str []), .int .i64 0, .string (ByteArray.mk #[113]), .int .i64 2, .int .i64 3, .string (str []), .int .i64 0] 48)) g4
  have hsC := infoTc own.size
  have hone := own.rd.one
  have hzz : zT.size = cs.size := by rw [own.size]; rfl
  have qa := heap_alloc_new w4 (.cells zT 26)
  have RT0 : RdT w4 cs lvA vsA := own.rd
  clear own g1 g2 g3 g4
  go_wp2_with (first | ((with_reducible refine wpList_store_row (o := ⟨none, _, _, _, _, _⟩) rfl 26 (.tmp 1) (.tmp 21) rfl _ cs rfl rfl _ zT qa hsC hzz hone ?_); (obtain ⟨WS, hWS⟩ : ∃ WS, WS = (w4.alloc (.cells zT 26)).setRow w4.heap.size cs := ⟨_, rfl⟩); rw [← hWS]; (have gS : Below w4.heap.size w4 WS := by rw [hWS]; exact below_row ((Below.refl _ _).alloc (Nat.le_refl _) _) (Nat.le_refl _) cs); (have Q1 := Lib.hid (show WS.heap[w4.heap.size]? = some (.cells cs 26 (0, 0)) by rw [hWS]; exact setRow_heap _ _ _ cs _ _ qa)); (have RT := Lib.hid (RT0.below gS (Nat.le_refl _))); (have TS := Lib.hid (TAB.out.below (chain belL gS))); (have BS := Lib.hid (chain belL gS)); clear hWS qa gS; (have q1 := Q1.out); (have hS := Below.refl WS.heap.size WS)) | ((with_reducible refine wpList_load_row (o := ⟨some 23, _, _, _, _, _⟩) rfl 26 (.tmp 1) rfl _ rfl _ cs (0, 0) _ q1 Tryz.underlying26 rfl hsC ?_)) | ((with_reducible refine (scanA cs _ (TS.out.below hS) (RT.out.below hS (Nat.le_refl _))).mono ?_); rintro e u2 ⟨v2, rfl, own2, g⟩; (replace hS := chain hS g); (replace q1 := (hS.block _ (lt_of_block Q1.out)).trans Q1.out); (have h2 := Below.refl u2.heap.size u2); obtain ⟨a2, k2, rfl, -, -, R2⟩ := RdK.open (OwnI.rd (w := u2) own2); obtain ⟨b2, o2, rfl, hb2, c20, -, -, -, -⟩ := rdi_cells (show RdI u2 (.slice a2 [y2, y1, y3].length k2) [y2, y1, y3] from R2) 1 (by decide); (have K2 := Lib.hid (And.intro hb2 (show u2.cell? ⟨b2, o2 + 5, none⟩ = some (.string (str [98])) from c20))); clear own2 R2 c20 hb2 g) | ((with_reducible refine wpList_load_row (o := ⟨some 28, _, _, _, _, _⟩) rfl 26 (.tmp 1) rfl _ rfl _ cs (0, 0) _ q1 Tryz.underlying26 rfl hsC ?_)) | ((with_reducible refine (backA cs _ (TS.out.below hS) (RT.out.below hS (Nat.le_refl _))).mono ?_); rintro e u3 ⟨v3, rfl, own3, g⟩; (replace hS := chain hS g); (replace h2 := chain h2 g); (replace q1 := (hS.block _ (lt_of_block Q1.out)).trans Q1.out); (have h3 := Below.refl u3.heap.size u3); obtain ⟨a3, k3, rfl, -, -, R3⟩ := RdK.open (OwnI.rd (w := u3) own3); obtain ⟨b3, o3, rfl, hb3, c30, -, -, -, -⟩ := rdi_cells (show RdI u3 (.slice a3 [y3, y1].length k3) [y3, y1] from R3) 0 (by decide); (have K3 := Lib.hid (And.intro hb3 (show u3.cell? ⟨b3, o3, none⟩ = some (.string (str [113])) from c30))); clear own3 R3 c30 hb3 g) | ((with_reducible refine wpList_load_row (o := ⟨some 33, _, _, _, _, _⟩) rfl 26 (.tmp 1) rfl _ rfl _ cs (0, 0) _ q1 Tryz.underlying26 rfl hsC ?_)) | ((with_reducible refine (sumA cs _ (TS.out.below hS) (RT.out.below hS (Nat.le_refl _))).mono ?_); rintro e u4 ⟨rfl, g⟩; (replace hS := chain hS g); (replace h2 := chain h2 g); (replace h3 := chain h3 g); (replace q1 := (hS.block _ (lt_of_block Q1.out)).trans Q1.out); clear g) | ((with_reducible refine wpList_load_row (o := ⟨some 38, _, _, _, _, _⟩) rfl 26 (.tmp 1) rfl _ rfl _ cs (0, 0) _ q1 Tryz.underlying26 rfl hsC ?_)) | ((with_reducible refine (firstA cs _ (TS.out.below hS) (RT.out.below hS (Nat.le_refl _))).mono ?_); rintro e u5 ⟨rfl, g⟩; (replace hS := chain hS g); (replace h2 := chain h2 g); (replace h3 := chain h3 g); clear g; (have g := (Below.refl u5.heap.size u5).alloc (Nat.le_refl _) (.cells #[.string (str [113]), .int .i64 2, .int .i64 3, .string (str []), .int .i64 0] 48)); (have Q5 := Lib.hid (heap_alloc_new u5 (.cells #[.string (str [113]), .int .i64 2, .int .i64 3, .string (str []), .int .i64 0] 48))); (replace hS := chain hS g); (replace h2 := chain h2 g); (replace h3 := chain h3 g); (have h5 := Below.refl (u5.alloc (.cells #[.string (str [113]), .int .i64 2, .int .i64 3, .string (str []), .int .i64 0] 48)).heap.size (u5.alloc (.cells #[.string (str [113]), .int .i64 2, .int .i64 3, .string (str []), .int .i64 0] 48))); (replace q1 := (hS.block _ (lt_of_block Q1.out)).trans Q1.out); clear g) | ((with_reducible refine wpList_load_row (o := ⟨some 43, _, _, _, _, _⟩) rfl 26 (.tmp 1) rfl _ rfl _ cs (0, 0) _ q1 Tryz.underlying26 rfl hsC ?_)) | ((with_reducible refine (lastA cs _ (TS.out.below hS) (RT.out.below hS (Nat.le_refl _))).mono ?_); rintro e u6 ⟨rfl, g⟩; (replace hS := chain hS g); (replace h2 := chain h2 g); (replace h3 := chain h3 g); (replace h5 := chain h5 g); clear g; (have g := (Below.refl u6.heap.size u6).alloc (Nat.le_refl _) (.cells #[.string (str [113]), .int .i64 2, .int .i64 3, .string (str []), .int .i64 0] 48)); (have Q6 := Lib.hid (heap_alloc_new u6 (.cells #[.string (str [113]), .int .i64 2, .int .i64 3, .string (str []), .int .i64 0] 48))); (replace hS := chain hS g); (replace h2 := chain h2 g); (replace h3 := chain h3 g); (replace h5 := chain h5 g); (have h6 := Below.refl (u6.alloc (.cells #[.string (str [113]), .int .i64 2, .int .i64 3, .string (str []), .int .i64 0] 48)).heap.size (u6.alloc (.cells #[.string (str [113]), .int .i64 2, .int .i64 3, .string (str []), .int .i64 0] 48))); clear g) | ((with_reducible refine (I2.out _).mono ?_); rintro e t1 ⟨rfl, g⟩; (replace hS := chain hS g); (replace h2 := chain h2 g); (replace h3 := chain h3 g); (replace h5 := chain h5 g); (replace h6 := chain h6 g); clear g) | ((with_reducible refine (I1.out _).mono ?_); rintro e t2 ⟨rfl, g⟩; (replace hS := chain hS g); (replace h2 := chain h2 g); (replace h3 := chain h3 g); (replace h5 := chain h5 g); (replace h6 := chain h6 g); clear g) | ((with_reducible refine (I3.out _).mono ?_); rintro e t3 ⟨rfl, g⟩; (replace hS := chain hS g); (replace h2 := chain h2 g); (replace h3 := chain h3 g); (replace h5 := chain h5 g); (replace h6 := chain h6 g); clear g) | ((with_reducible refine (laid_any [z1', z2', z3'] _ (t3.alloc (.cells #[.string (ByteArray.mk #[120, 47, 49, 47, 97]), .int .i64 2, .int .i64 2, .string (str []), .int .i64 0, .string (ByteArray.mk #[120, 47, 50]), .int .i64 2, .int .i64 1, .string (str []), .int .i64 0, .string (ByteArray.mk #[120, 47, 49, 47, 98]), .int .i64 2, .int .i64 3, .string (str []), .int .i64 0] 48)) (TS.out.below (hS.alloc hS.size (.cells #[.string (ByteArray.mk #[120, 47, 49, 47, 97]), .int .i64 2, .int .i64 2, .string (str []), .int .i64 0, .string (ByteArray.mk #[120, 47, 50]), .int .i64 2, .int .i64 1, .string (str []), .int .i64 0, .string (ByteArray.mk #[120, 47, 49, 47, 98]), .int .i64 2, .int .i64 3, .string (str []), .int .i64 0] 48))) (rd3 (heap_alloc_new t3 (.cells #[.string (ByteArray.mk #[120, 47, 49, 47, 97]), .int .i64 2, .int .i64 2, .string (str []), .int .i64 0, .string (ByteArray.mk #[120, 47, 50]), .int .i64 2, .int .i64 1, .string (str []), .int .i64 0, .string (ByteArray.mk #[120, 47, 49, 47, 98]), .int .i64 2, .int .i64 3, .string (str []), .int .i64 0] 48)) rfl rfl) szB (by decide) putB).mono ?_); rintro e u7 ⟨csB, rfl, ownB, g⟩; (have g := Below.trans ((Below.refl t3.heap.size t3).alloc (Nat.le_refl _) (.cells #[.string (ByteArray.mk #[120, 47, 49, 47, 97]), .int .i64 2, .int .i64 2, .string (str []), .int .i64 0, .string (ByteArray.mk #[120, 47, 50]), .int .i64 2, .int .i64 1, .string (str []), .int .i64 0, .string (ByteArray.mk #[120, 47, 49, 47, 98]), .int .i64 2, .int .i64 3, .string (str []), .int .i64 0] 48)) (g.mono (by simp))); (replace hS := chain hS g); (replace h2 := chain h2 g); (replace h3 := chain h3 g); (replace h5 := chain h5 g); (replace h6 := chain h6 g); (have RB := Lib.hid (show RdT u7 csB lvB vsB from ownB.rd)); clear g ownB))
  refine (namesB csB _ (TS.out.below hS) RB.out).mono ?_
  rintro e u8 ⟨v8, rfl, own8, g⟩
  replace hS := chain hS g
  replace h2 := chain h2 g
  replace h3 := chain h3 g
  replace h5 := chain h5 g
  replace h6 := chain h6 g
  obtain ⟨a8, k8, rfl, -, -, R8⟩ := RdK.open (own_rdk svS_len (w := u8) own8)
  obtain ⟨b8, o8, rfl, hb8, c8⟩ := RdK.cell svS_len R8 0 (by decide)
  have n0 : u8.cell? ⟨b8, o8, none⟩ = some (.string (str [49])) := c8 0 (by decide)
  obtain ⟨b9, o9, e9, hb9, c9⟩ := RdK.cell svS_len R8 1 (by decide)
  cases e9
  have n1 : u8.cell? ⟨b8, o8 + 1, none⟩ = some (.string (str [50])) := c9 0 (by decide)
  have m2 := (h2.cell (p := ⟨b2, o2 + 5, none⟩) K2.out.1).trans K2.out.2
  have m3 := (h3.cell (p := ⟨b3, o3, none⟩) K3.out.1).trans K3.out.2
  have x5 := block_cell ((h5.block _ (lt_of_block Q5.out)).trans Q5.out) 0
  have x6 := block_cell ((h6.block _ (lt_of_block Q6.out)).trans Q6.out) 0
  simp only [List.getElem?_toArray, List.getElem?_cons_zero] at x5 x6
  have EQ := eq_str
  have BF := Lib.hid (chain BS.out hS)
  clear own8 R8 c8 c9 h2 h3 h5 h6 hS
  replace m2 := (show _ = some (Value.string (ByteArray.mk #[98])) from m2)
  replace m3 := (show _ = some (Value.string (ByteArray.mk #[113])) from m3)
  replace x5 := (show _ = some (Value.string (ByteArray.mk #[113])) from x5)
  replace x6 := (show _ = some (Value.string (ByteArray.mk #[113])) from x6)
  replace n0 := (show _ = some (Value.string (ByteArray.mk #[49])) from n0)
  replace n1 := (show _ = some (Value.string (ByteArray.mk #[50])) from n1)
  clear EQ z0 z1 q1 hb8 hb9 hsC hone hzz RT0 K2 K3 Q5 Q6 Q1 RT TS BS RB I1 I2 I3 TAB belL
  obtain ⟨N5, hN5⟩ : ∃ n, n = u5.heap.size := ⟨_, rfl⟩
  obtain ⟨N6, hN6⟩ : ∃ n, n = u6.heap.size := ⟨_, rfl⟩
  rw [← hN5] at x5 ⊢
  rw [← hN6] at x6 ⊢
  clear hN5 hN6
  go_wp2_with fail
  go_ret
  exact ⟨rfl, BF.out⟩
end Go.Proofs.YtbdfcgffkonbiaaGreatDoor
