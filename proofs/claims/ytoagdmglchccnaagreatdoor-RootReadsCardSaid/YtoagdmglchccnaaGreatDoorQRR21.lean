/- Values: what bytes are read as, by the document. Written by wip/tools/gen7d.py. -/
import Derived.Test.YtoagdmglchccnaaGreatDoorQRR20
namespace Go.Proofs.YtoagdmglchccnaaGreatDoor.V7
open Go Go.RowKit
set_option linter.unusedVariables false
set_option linter.unusedSimpArgs false
theorem byte0 (c : UInt8) (r : List UInt8) : ∀ h : 0 < (str (c :: r)).size, ((str (c :: r))[0]'h).toNat = c.toNat := fun h => by rw [str_byte]; rfl
theorem byte1 (c d : UInt8) (r : List UInt8) : ∀ h : 1 < (str (c :: d :: r)).size, ((str (c :: d :: r))[1]'h).toNat = d.toNat := fun h => by rw [str_byte]; rfl
theorem str_ne (c : UInt8) (r : List UInt8) : (str (c :: r)).toList.isEmpty = false := by rw [str_tl]; rfl
theorem str_rest (c : UInt8) (r : List UInt8) (n : Nat) (h : n = r.length + 1) : (str (c :: r)).extract 1 n = str r := by
  subst h
  rw [str_extract]; simp
theorem refBool_c (b : Bool) (w : World) :
    Calls Tryz.prog 151 #[.bool b] w fun e w' => e = .returned (.agg #[.int .i64 1, .int .i64 (n01 b), .string (str [])]) ∧ Below w.heap.size w w' := refBool_n b w
theorem refCutV_nil (w : World) :
    Calls Tryz.prog 127 #[.string (str [])] w fun e w' => e = .returned (.tuple #[.agg #[.int .i64 0, .int .i64 0, .string (str [])], .int .i64 0, .int .i64 2]) ∧ Below w.heap.size w w' := by
  have hne : (str []).toList.isEmpty = true := by rw [str_tl]; rfl
  go_enter Tryz.func127, Tryz.ntmps127
  go_wp2_with fail
  refine bodyPost_ret (v := .tuple #[.agg #[.int .i64 0, .int .i64 0, .string (str [])], .int .i64 0, .int .i64 2]) (by simp [results, Tryz.results127, go_sem, str_e]) rfl ⟨rfl, ?_⟩
  repeat (first | exact Below.refl _ _ | refine Below.setCell ?_ (by simp) _ | refine Below.alloc ?_ (by simp; try omega) _)
set_option maxRecDepth 100000 in
theorem refCutV_big (c : UInt8) (r : List UInt8) (w : World) (hr : r.length ≤ maxLen) (hc : 3 < c.toNat) :
    Calls Tryz.prog 127 #[.string (str (c :: r))] w fun e w' => e = .returned (.tuple #[.agg #[.int .i64 0, .int .i64 0, .string (str [])], .int .i64 0, .int .i64 3]) ∧ Below w.heap.size w w' := by
  have hz : (str (c :: r)).size = r.length + 1 := str_size _
  have hne := str_ne c r
  have hb0 := byte0 c r
  have hex := str_rest c r
  unfold maxLen at hr
  have hc256 := c.toNat_lt
  generalize c.toNat = m at hb0 hc hc256
  go_enter Tryz.func127, Tryz.ntmps127
  go_wp2_with fail
  refine bodyPost_ret (v := .tuple #[.agg #[.int .i64 0, .int .i64 0, .string (str [])], .int .i64 0, .int .i64 3]) (by simp [results, Tryz.results127, go_sem, str_e]) rfl ⟨rfl, ?_⟩
  repeat (first | exact Below.refl _ _ | refine Below.setCell ?_ (by simp) _ | refine Below.alloc ?_ (by simp; try omega) _)
set_option maxRecDepth 100000 in
theorem refCutV_0 (r : List UInt8) (w : World) (hr : r.length ≤ maxLen) :
    Calls Tryz.prog 127 #[.string (str (0 :: r))] w fun e w' => e = .returned (.tuple #[.agg #[.int .i64 0, .int .i64 0, .string (str [])], .int .i64 1, .int .i64 0]) ∧ Below w.heap.size w w' := by
  have hz : (str (0 :: r)).size = r.length + 1 := str_size _
  have hne := str_ne 0 r
  have hb0 : ∀ h : 0 < (str (0 :: r)).size, ((str (0 :: r))[0]'h).toNat = 0 := byte0 0 r
  have hex := str_rest 0 r
  unfold maxLen at hr
  go_enter Tryz.func127, Tryz.ntmps127
  go_wp2_with fail
  refine bodyPost_ret (v := .tuple #[.agg #[.int .i64 0, .int .i64 0, .string (str [])], .int .i64 1, .int .i64 0]) (by simp [results, Tryz.results127, go_sem, str_e]) rfl ⟨rfl, ?_⟩
  repeat (first | exact Below.refl _ _ | refine Below.setCell ?_ (by simp) _ | refine Below.alloc ?_ (by simp; try omega) _)
set_option maxRecDepth 100000 in
theorem refCutV_1_nil  (w : World) :
    Calls Tryz.prog 127 #[.string (str (1 :: []))] w fun e w' => e = .returned (.tuple #[.agg #[.int .i64 0, .int .i64 0, .string (str [])], .int .i64 0, .int .i64 2]) ∧ Below w.heap.size w w' := by
  have hz : (str [1]).size = 1 := str_size _
  have hne := str_ne 1 []
  have hb0 : ∀ h : 0 < (str (1 :: [])).size, ((str (1 :: []))[0]'h).toNat = 1 := byte0 1 ([])
  go_enter Tryz.func127, Tryz.ntmps127
  go_wp2_with fail
  refine bodyPost_ret (v := .tuple #[.agg #[.int .i64 0, .int .i64 0, .string (str [])], .int .i64 0, .int .i64 2]) (by simp [results, Tryz.results127, go_sem, str_e]) rfl ⟨rfl, ?_⟩
  repeat (first | exact Below.refl _ _ | refine Below.setCell ?_ (by simp) _ | refine Below.alloc ?_ (by simp; try omega) _)
set_option maxRecDepth 100000 in
theorem refCutV_1_no (d : UInt8) (r : List UInt8) (w : World) (hr : r.length ≤ maxLen) (hr2 : r.length + 2 ≤ maxLen) (hd : 1 < d.toNat) :
    Calls Tryz.prog 127 #[.string (str (1 :: d :: r))] w fun e w' => e = .returned (.tuple #[.agg #[.int .i64 0, .int .i64 0, .string (str [])], .int .i64 0, .int .i64 3]) ∧ Below w.heap.size w w' := by
  have hz : (str (1 :: d :: r)).size = r.length + 2 := str_size _
  have hne := str_ne 1 (d :: r)
  have hb0 : ∀ h : 0 < (str (1 :: d :: r)).size, ((str (1 :: d :: r))[0]'h).toNat = 1 := byte0 1 (d :: r)
  have hb1 := byte1 1 d r
  unfold maxLen at hr
  have hd256 := d.toNat_lt
  generalize d.toNat = m at hb1 hd hd256
  unfold maxLen at hr2
  go_enter Tryz.func127, Tryz.ntmps127
  go_wp2_with fail
  refine bodyPost_ret (v := .tuple #[.agg #[.int .i64 0, .int .i64 0, .string (str [])], .int .i64 0, .int .i64 3]) (by simp [results, Tryz.results127, go_sem, str_e]) rfl ⟨rfl, ?_⟩
  repeat (first | exact Below.refl _ _ | refine Below.setCell ?_ (by simp) _ | refine Below.alloc ?_ (by simp; try omega) _)
set_option maxRecDepth 100000 in
theorem refCutV_1_0 (r : List UInt8) (w : World) (hr2 : r.length + 2 ≤ maxLen) :
    Calls Tryz.prog 127 #[.string (str (1 :: 0 :: r))] w fun e w' => e = .returned (.tuple #[.agg #[.int .i64 1, .int .i64 0, .string (str [])], .int .i64 2, .int .i64 0]) ∧ Below w.heap.size w w' := by
  have hr : r.length ≤ maxLen := by omega
  have hz : (str (1 :: 0 :: r)).size = r.length + 2 := str_size _
  have hne := str_ne 1 (0 :: r)
  have hb0 : ∀ h : 0 < (str (1 :: 0 :: r)).size, ((str (1 :: 0 :: r))[0]'h).toNat = 1 := byte0 1 (0 :: r)
  have hb1 := (byte1 1 0 r : ∀ h : 1 < (str (1 :: 0 :: r)).size, ((str (1 :: 0 :: r))[1]'h).toNat = 0)
  unfold maxLen at hr
  unfold maxLen at hr2
  have BO := fun w => refBool_c false w
  rw [show n01 false = 0 from rfl] at BO
  have bel : ∀ o, Below w.heap.size w (w.alloc o) := fun o => (Below.refl _ _).alloc (Nat.le_refl _) o
  go_enter Tryz.func127, Tryz.ntmps127
  go_wp2_with fail
  obtain ⟨q, hq⟩ : ∃ q, q = (w.alloc (.cells #[.int .i64 0, .int .i64 0, .string (ByteArray.mk #[])] 145)) := ⟨_, rfl⟩
  have qr : q.heap[w.heap.size]? = some (.cells #[.int .i64 0, .int .i64 0, .string (ByteArray.mk #[])] 145 (0, 0)) := by rw [hq]; exact heap_alloc_new _ _
  have bel : Below w.heap.size w q := by rw [hq]; exact bel _
  rw [← hq]
  clear hq
  refine (BO _).mono ?_
  rintro e w1 ⟨rfl, g⟩
  replace qr := (g.block _ (lt_of_block qr)).trans qr
  replace bel := chain bel g
  obtain ⟨c0, c1, c2⟩ := cells3 qr
  have ql := lt_of_block qr
  have fz := frozen3 qr
  go_wp2_with fail
  obtain ⟨r0, r1, r2, bel2⟩ := set3 (.int .i64 1) (.int .i64 0) (.string (str [])) qr bel (by omega)
  refine bodyPost_ret (v := .tuple #[.agg #[.int .i64 1, .int .i64 0, .string (str [])], .int .i64 2, .int .i64 0]) (by simp [results, Tryz.results127, go_sem, str_e, r0, r1, r2]) rfl ⟨rfl, ?_⟩
  exact bel2
set_option maxRecDepth 100000 in
theorem refCutV_1_1 (r : List UInt8) (w : World) (hr2 : r.length + 2 ≤ maxLen) :
    Calls Tryz.prog 127 #[.string (str (1 :: 1 :: r))] w fun e w' => e = .returned (.tuple #[.agg #[.int .i64 1, .int .i64 1, .string (str [])], .int .i64 2, .int .i64 0]) ∧ Below w.heap.size w w' := by
  have hr : r.length ≤ maxLen := by omega
  have hz : (str (1 :: 1 :: r)).size = r.length + 2 := str_size _
  have hne := str_ne 1 (1 :: r)
  have hb0 : ∀ h : 0 < (str (1 :: 1 :: r)).size, ((str (1 :: 1 :: r))[0]'h).toNat = 1 := byte0 1 (1 :: r)
  have hb1 := (byte1 1 1 r : ∀ h : 1 < (str (1 :: 1 :: r)).size, ((str (1 :: 1 :: r))[1]'h).toNat = 1)
  unfold maxLen at hr
  unfold maxLen at hr2
  have BO := fun w => refBool_c true w
  rw [show n01 true = 1 from rfl] at BO
  have bel : ∀ o, Below w.heap.size w (w.alloc o) := fun o => (Below.refl _ _).alloc (Nat.le_refl _) o
  go_enter Tryz.func127, Tryz.ntmps127
  go_wp2_with fail
  obtain ⟨q, hq⟩ : ∃ q, q = (w.alloc (.cells #[.int .i64 0, .int .i64 0, .string (ByteArray.mk #[])] 145)) := ⟨_, rfl⟩
  have qr : q.heap[w.heap.size]? = some (.cells #[.int .i64 0, .int .i64 0, .string (ByteArray.mk #[])] 145 (0, 0)) := by rw [hq]; exact heap_alloc_new _ _
  have bel : Below w.heap.size w q := by rw [hq]; exact bel _
  rw [← hq]
  clear hq
  refine (BO _).mono ?_
  rintro e w1 ⟨rfl, g⟩
  replace qr := (g.block _ (lt_of_block qr)).trans qr
  replace bel := chain bel g
  obtain ⟨c0, c1, c2⟩ := cells3 qr
  have ql := lt_of_block qr
  have fz := frozen3 qr
  go_wp2_with fail
  obtain ⟨r0, r1, r2, bel2⟩ := set3 (.int .i64 1) (.int .i64 1) (.string (str [])) qr bel (by omega)
  refine bodyPost_ret (v := .tuple #[.agg #[.int .i64 1, .int .i64 1, .string (str [])], .int .i64 2, .int .i64 0]) (by simp [results, Tryz.results127, go_sem, str_e, r0, r1, r2]) rfl ⟨rfl, ?_⟩
  exact bel2
set_option maxRecDepth 100000 in
theorem refCutV_2_yes (r : List UInt8) (i : Int) (n x : Int) (w : World) (hr : r.length ≤ maxLen) (hn : 0 ≤ n) (hn2 : n ≤ 300)
    (CR : ∀ w, Calls Tryz.prog 152 #[.string (str r)] w fun e w' => e = .returned (.tuple #[.int .i64 i, .int .i64 n, .int .i64 0]) ∧ w = w') :
    Calls Tryz.prog 127 #[.string (str (2 :: r))] w fun e w' => e = .returned (.tuple #[.agg #[.int .i64 2, .int .i64 i, .string (str [])], .int .i64 (n + 1), .int .i64 0]) ∧ Below w.heap.size w w' := by
  have hz : (str (2 :: r)).size = r.length + 1 := str_size _
  have hne := str_ne 2 r
  have hb0 : ∀ h : 0 < (str (2 :: r)).size, ((str (2 :: r))[0]'h).toNat = 2 := byte0 2 (r)
  have hex := str_rest 2 r
  unfold maxLen at hr
  go_enter Tryz.func127, Tryz.ntmps127
  go_wp2_with (go_at_call 152; refine (CR _).mono ?_; rintro e w' ⟨rfl, rfl⟩)
  obtain ⟨q, hq⟩ : ∃ q, q = (w.alloc (.cells #[.int .i64 0, .int .i64 0, .string (ByteArray.mk #[])] 145)) := ⟨_, rfl⟩
  have qr : q.heap[w.heap.size]? = some (.cells #[.int .i64 0, .int .i64 0, .string (ByteArray.mk #[])] 145 (0, 0)) := by rw [hq]; exact heap_alloc_new _ _
  have bel : Below w.heap.size w q := by rw [hq]; exact (Below.refl _ _).alloc (Nat.le_refl _) _
  rw [← hq]
  clear hq
  refine (refInt_any _ _).mono ?_
  rintro e w1 ⟨rfl, g⟩
  replace qr := (g.block _ (lt_of_block qr)).trans qr
  replace bel := chain bel g
  obtain ⟨c0, c1, c2⟩ := cells3 qr
  have ql := lt_of_block qr
  have fz := frozen3 qr
  go_wp2_with fail
  obtain ⟨r0, r1, r2, bel2⟩ := set3 (.int .i64 2) (.int .i64 i) (.string (str [])) qr bel (by omega)
  refine bodyPost_ret (v := .tuple #[.agg #[.int .i64 2, .int .i64 i, .string (str [])], .int .i64 (n + 1), .int .i64 0]) (by simp [results, Tryz.results127, go_sem, str_e, r0, r1, r2]) rfl ⟨rfl, ?_⟩
  exact bel2
set_option maxRecDepth 100000 in
theorem refCutV_2_no (r : List UInt8) (i : Int) (n x : Int) (w : World) (hr : r.length ≤ maxLen) (hn : 0 ≤ n) (hn2 : n ≤ 300) (hx : (x != 0) = true) (hx2 : (x == 0) = false)
    (CR : ∀ w, Calls Tryz.prog 152 #[.string (str r)] w fun e w' => e = .returned (.tuple #[.int .i64 i, .int .i64 n, .int .i64 x]) ∧ w = w') :
    Calls Tryz.prog 127 #[.string (str (2 :: r))] w fun e w' => e = .returned (.tuple #[.agg #[.int .i64 0, .int .i64 0, .string (str [])], .int .i64 0, .int .i64 x]) ∧ Below w.heap.size w w' := by
  have hz : (str (2 :: r)).size = r.length + 1 := str_size _
  have hne := str_ne 2 r
  have hb0 : ∀ h : 0 < (str (2 :: r)).size, ((str (2 :: r))[0]'h).toNat = 2 := byte0 2 (r)
  have hex := str_rest 2 r
  unfold maxLen at hr
  go_enter Tryz.func127, Tryz.ntmps127
  go_wp2_with (go_at_call 152; refine (CR _).mono ?_; rintro e w' ⟨rfl, rfl⟩)
  refine bodyPost_ret (v := .tuple #[.agg #[.int .i64 0, .int .i64 0, .string (str [])], .int .i64 0, .int .i64 x]) (by simp [results, Tryz.results127, go_sem, str_e]) rfl ⟨rfl, ?_⟩
  repeat (first | exact Below.refl _ _ | refine Below.setCell ?_ (by simp) _ | refine Below.alloc ?_ (by simp; try omega) _)
set_option maxRecDepth 100000 in
theorem refCutV_3_yes (r : List UInt8) (s : List UInt8) (n x : Int) (w : World) (hr : r.length ≤ maxLen) (hn : 0 ≤ n) (hn2 : n ≤ 300) (hs : s.length ≤ 64)
    (CR : ∀ w, Calls Tryz.prog 126 #[.string (str r)] w fun e w' => e = .returned (.tuple #[.string (str s), .int .i64 n, .int .i64 0]) ∧ w = w') :
    Calls Tryz.prog 127 #[.string (str (3 :: r))] w fun e w' => e = .returned (.tuple #[.agg #[.int .i64 3, .int .i64 0, .string (str s)], .int .i64 (n + 1), .int .i64 0]) ∧ Below w.heap.size w w' := by
  have hz : (str (3 :: r)).size = r.length + 1 := str_size _
  have hne := str_ne 3 r
  have hb0 : ∀ h : 0 < (str (3 :: r)).size, ((str (3 :: r))[0]'h).toNat = 3 := byte0 3 (r)
  have hex := str_rest 3 r
  unfold maxLen at hr
  have hsz : (str s).size = s.length := str_size s
  rw [← hsz] at hs
  clear hsz
  go_enter Tryz.func127, Tryz.ntmps127
  go_wp2_with (go_at_call 126; refine (CR _).mono ?_; rintro e w' ⟨rfl, rfl⟩)
  refine bodyPost_ret (v := .tuple #[.agg #[.int .i64 3, .int .i64 0, .string (str s)], .int .i64 (n + 1), .int .i64 0]) (by simp [results, Tryz.results127, go_sem, str_e]) rfl ⟨rfl, ?_⟩
  repeat (first | exact Below.refl _ _ | refine Below.setCell ?_ (by simp) _ | refine Below.alloc ?_ (by simp; try omega) _)
set_option maxRecDepth 100000 in
theorem refCutV_3_no (r : List UInt8) (s : List UInt8) (n x : Int) (w : World) (hr : r.length ≤ maxLen) (hn : 0 ≤ n) (hn2 : n ≤ 300) (hx : (x != 0) = true) (hx2 : (x == 0) = false)
    (CR : ∀ w, Calls Tryz.prog 126 #[.string (str r)] w fun e w' => e = .returned (.tuple #[.string (str s), .int .i64 n, .int .i64 x]) ∧ w = w') :
    Calls Tryz.prog 127 #[.string (str (3 :: r))] w fun e w' => e = .returned (.tuple #[.agg #[.int .i64 0, .int .i64 0, .string (str [])], .int .i64 0, .int .i64 x]) ∧ Below w.heap.size w w' := by
  have hz : (str (3 :: r)).size = r.length + 1 := str_size _
  have hne := str_ne 3 r
  have hb0 : ∀ h : 0 < (str (3 :: r)).size, ((str (3 :: r))[0]'h).toNat = 3 := byte0 3 (r)
  have hex := str_rest 3 r
  unfold maxLen at hr
  go_enter Tryz.func127, Tryz.ntmps127
  go_wp2_with (go_at_call 126; refine (CR _).mono ?_; rintro e w' ⟨rfl, rfl⟩)
  refine bodyPost_ret (v := .tuple #[.agg #[.int .i64 0, .int .i64 0, .string (str [])], .int .i64 0, .int .i64 x]) (by simp [results, Tryz.results127, go_sem, str_e]) rfl ⟨rfl, ?_⟩
  repeat (first | exact Below.refl _ _ | refine Below.setCell ?_ (by simp) _ | refine Below.alloc ?_ (by simp; try omega) _)
set_option maxRecDepth 100000 in
theorem refCutV_3_long (r : List UInt8) (s : List UInt8) (n x : Int) (w : World) (hr : r.length ≤ maxLen) (hn : 0 ≤ n) (hn2 : n ≤ 300) (hs : 64 < s.length) (hs2 : s.length ≤ 300)
    (CR : ∀ w, Calls Tryz.prog 126 #[.string (str r)] w fun e w' => e = .returned (.tuple #[.string (str s), .int .i64 n, .int .i64 0]) ∧ w = w') :
    Calls Tryz.prog 127 #[.string (str (3 :: r))] w fun e w' => e = .returned (.tuple #[.agg #[.int .i64 0, .int .i64 0, .string (str [])], .int .i64 0, .int .i64 5]) ∧ Below w.heap.size w w' := by
  have hz : (str (3 :: r)).size = r.length + 1 := str_size _
  have hne := str_ne 3 r
  have hb0 : ∀ h : 0 < (str (3 :: r)).size, ((str (3 :: r))[0]'h).toNat = 3 := byte0 3 (r)
  have hex := str_rest 3 r
  unfold maxLen at hr
  have hsz : (str s).size = s.length := str_size s
  rw [← hsz] at hs hs2
  clear hsz
  go_enter Tryz.func127, Tryz.ntmps127
  go_wp2_with (go_at_call 126; refine (CR _).mono ?_; rintro e w' ⟨rfl, rfl⟩)
  refine bodyPost_ret (v := .tuple #[.agg #[.int .i64 0, .int .i64 0, .string (str [])], .int .i64 0, .int .i64 5]) (by simp [results, Tryz.results127, go_sem, str_e]) rfl ⟨rfl, ?_⟩
  repeat (first | exact Below.refl _ _ | refine Below.setCell ?_ (by simp) _ | refine Below.alloc ?_ (by simp; try omega) _)
end Go.Proofs.YtoagdmglchccnaaGreatDoor.V7
