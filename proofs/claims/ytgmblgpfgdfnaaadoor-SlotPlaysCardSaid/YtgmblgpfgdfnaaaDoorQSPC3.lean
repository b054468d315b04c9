/- Sets of numbers below 64 as natural numbers: plain mathematics. -/
/- Quorums: how many bits are set; one number as a set; what is below a number. -/
import Derived.Laws.BitsAllLaws
import Derived.Laws.Bits64
import Derived.Test.YtgmblgpfgdfnaaaDoorQSPC2
import Derived.Laws.Bits128
namespace Go.Proofs.YtgmblgpfgdfnaaaDoor
set_option linter.unusedVariables false
set_option linter.unusedSimpArgs false
/-- How many of the lowest k bits are set. -/
def popK : Nat → Nat → Nat
  | 0, _ => 0
  | k + 1, x => x % 2 + popK k (x / 2)
/-- The numbers of a set. -/
def listN (s : Nat) : List Nat := (List.range 64).filter fun i => s.testBit i
theorem filter_pop : ∀ (k s : Nat), ((List.range k).filter fun i => s.testBit i).length = popK k s
  | 0, s => rfl
  | k + 1, s => by
    rw [List.range_succ_eq_map, List.filter_cons, List.filter_map, popK, ← filter_pop k (s / 2)]
    have e : ((fun i => s.testBit i) ∘ Nat.succ) = fun i => (s / 2).testBit i := by
      funext i; simp [Nat.testBit_succ]
    rw [e]
    by_cases h : s % 2 = 1
    · simp [Nat.testBit_zero, h]; omega
    · have h0 : s % 2 = 0 := by omega
      simp [Nat.testBit_zero, h0]
theorem list_len (s : Nat) : (listN s).length = popK 64 s := filter_pop 64 s
theorem mem_list (s i : Nat) : i ∈ listN s ↔ i < 64 ∧ s.testBit i = true := by simp [listN]
theorem pop_le : ∀ k x, popK k x ≤ k
  | 0, _ => Nat.le_refl _
  | k + 1, x => by have := pop_le k (x / 2); unfold popK; omega
theorem pop_add : ∀ (k m b a : Nat), b < 2 ^ k → popK (m + k) (2 ^ k * a + b) = popK k b + popK m a
  | 0, m, b, a, h => by
    have : b = 0 := by omega
    subst this
    simp [popK]
  | k + 1, m, b, a, h => by
    have h2 : b / 2 < 2 ^ k := by rw [Nat.pow_succ] at h; omega
    have := pop_add k m (b / 2) a h2
    have e1 : (2 ^ (k + 1) * a + b) / 2 = 2 ^ k * a + b / 2 := by
      rw [Nat.pow_succ, Nat.mul_comm (2 ^ k) 2, Nat.mul_assoc]; omega
    have e2 : (2 ^ (k + 1) * a + b) % 2 = b % 2 := by
      rw [Nat.pow_succ, Nat.mul_comm (2 ^ k) 2, Nat.mul_assoc]; omega
    rw [← Nat.add_assoc m k 1, popK, e1, e2, this, popK]
    omega
theorem and_cut (k a b c d : Nat) (hb : b < 2 ^ k) (hd : d < 2 ^ k) : (2 ^ k * a + b) &&& (2 ^ k * c + d) = 2 ^ k * (a &&& c) + (b &&& d) := by
  have hp : 0 < 2 ^ k := Nat.two_pow_pos k
  have e := Nat.div_add_mod ((2 ^ k * a + b) &&& (2 ^ k * c + d)) (2 ^ k)
  rw [Nat.and_div_two_pow, Nat.and_mod_two_pow, Nat.mul_add_div hp, Nat.mul_add_div hp, Nat.mul_add_mod, Nat.mul_add_mod, Nat.div_eq_of_lt hb, Nat.div_eq_of_lt hd, Nat.mod_eq_of_lt hb, Nat.mod_eq_of_lt hd, Nat.add_zero, Nat.add_zero] at e
  exact e.symm
/-- A byte's pattern, so many times. -/
def rep (m : Nat) : Nat → Nat
  | 0 => 0
  | k + 1 => 256 * rep m k + m
def g1 (b : Nat) : Nat := (b / 2 &&& 85) + (b &&& 85)
def g2 (b : Nat) : Nat := (b / 4 &&& 51) + (b &&& 51)
def g3 (b : Nat) : Nat := (b / 16 + b) &&& 15
def f1 (k x : Nat) : Nat := (x / 2 &&& rep 85 k) + (x &&& rep 85 k)
def f2 (k x : Nat) : Nat := (x / 4 &&& rep 51 k) + (x &&& rep 51 k)
def f3 (k x : Nat) : Nat := (x / 16 + x) &&& rep 15 k
theorem fin1 : ∀ b < 256, g1 b ≤ 170 ∧ (128 + b / 2) &&& 85 = (b / 2) &&& 85 := by decide +kernel
theorem fin2 : ∀ b < 256, ∀ t < 4, g2 (g1 b) ≤ 68 ∧ (t * 64 + g1 b / 4) &&& 51 = (g1 b / 4) &&& 51 := by decide +kernel
theorem fin3 : ∀ b < 256, g3 (g2 (g1 b)) = popK 8 b ∧ g2 (g1 b) % 16 ≤ 4 ∧ g2 (g1 b) / 16 ≤ 4 := by decide +kernel
theorem f1_cons (k a b : Nat) (hb : b < 256) : f1 (k + 1) (256 * a + b) = 256 * f1 k a + g1 b := by
  obtain ⟨h1, h2⟩ := fin1 b hb
  have h3 : (a % 2 * 128 + b / 2) &&& 85 = (b / 2) &&& 85 := by
    have : a % 2 = 0 ∨ a % 2 = 1 := by omega
    rcases this with e | e
    · rw [e]; simp
    · rw [e, Nat.one_mul]; exact h2
  have e1 : (256 * a + b) / 2 = 256 * (a / 2) + (a % 2 * 128 + b / 2) := by omega
  have c1 := and_cut 8 (a / 2) (a % 2 * 128 + b / 2) (rep 85 k) 85 (by simp; omega) (by decide)
  have c2 := and_cut 8 a b (rep 85 k) 85 (by simpa using hb) (by decide)
  simp only [Nat.reducePow] at c1 c2
  unfold f1 g1
  rw [rep, e1, c1, c2, h3]
  omega
theorem f2_cons (k a b c : Nat) (hc : c < 256) (hb : b = g1 c) : f2 (k + 1) (256 * a + b) = 256 * f2 k a + g2 b := by
  have h1 := (fin1 c hc).1
  have hb2 : b < 256 := by omega
  have h3 : (a % 4 * 64 + b / 4) &&& 51 = (b / 4) &&& 51 := by
    rw [hb]; exact (fin2 c hc (a % 4) (by omega)).2
  have e1 : (256 * a + b) / 4 = 256 * (a / 4) + (a % 4 * 64 + b / 4) := by omega
  have c1 := and_cut 8 (a / 4) (a % 4 * 64 + b / 4) (rep 51 k) 51 (by simp; omega) (by decide)
  have c2 := and_cut 8 a b (rep 51 k) 51 (by simpa using hb2) (by decide)
  simp only [Nat.reducePow] at c1 c2
  unfold f2 g2
  rw [rep, e1, c1, c2, h3]
  omega
theorem f3_cons (k a b c : Nat) (hc : c < 256) (hb : b = g2 (g1 c)) (ha : a % 16 ≤ 4) : f3 (k + 1) (256 * a + b) = 256 * f3 k a + g3 b := by
  obtain ⟨_, h2, h3⟩ := fin3 c hc
  rw [← hb] at h2 h3
  have e1 : (256 * a + b) / 16 + (256 * a + b) = 256 * (a / 16 + a) + (a % 16 * 16 + (b / 16 + b)) := by omega
  have c1 := and_cut 8 (a / 16 + a) (a % 16 * 16 + (b / 16 + b)) (rep 15 k) 15 (by simp; omega) (by decide)
  have h4 : (a % 16 * 16 + (b / 16 + b)) &&& 15 = (b / 16 + b) &&& 15 := by rw [nat_mask4, nat_mask4]; omega
  simp only [Nat.reducePow] at c1
  unfold f3 g3
  rw [rep, e1, c1, h4]
/-- Of each byte its own number of set bits. -/
def pops : Nat → Nat → Nat
  | 0, _ => 0
  | k + 1, x => 256 * pops k (x / 256) + popK 8 (x % 256)
theorem f12_low : ∀ k x, x < 256 ^ k → f2 k (f1 k x) % 16 ≤ 4 ∧ f1 k x < 256 ^ k ∧ f2 k (f1 k x) < 256 ^ k
  | 0, x, h => by
    have : x = 0 := by simpa using h
    subst this
    decide
  | k + 1, x, h => by
    have hx : x = 256 * (x / 256) + x % 256 := by omega
    have hb : x % 256 < 256 := by omega
    have ha : x / 256 < 256 ^ k := by rw [Nat.pow_succ] at h; omega
    obtain ⟨_, i1, i2⟩ := f12_low k (x / 256) ha
    rw [hx, f1_cons k _ _ hb, f2_cons k _ _ _ hb rfl, Nat.pow_succ]
    have := (fin3 (x % 256) hb).2.1
    have h3 := (fin1 (x % 256) hb).1
    have h4 := (fin2 (x % 256) hb 0 (by decide)).1
    omega
theorem f12_le : ∀ k x, x < 256 ^ k → f2 k (f1 k x) ≤ rep 68 k
  | 0, x, h => by
    have : x = 0 := by simpa using h
    subst this
    decide
  | k + 1, x, h => by
    have hx : x = 256 * (x / 256) + x % 256 := by omega
    have hb : x % 256 < 256 := by omega
    have ha : x / 256 < 256 ^ k := by rw [Nat.pow_succ] at h; omega
    have := f12_le k (x / 256) ha
    rw [hx, f1_cons k _ _ hb, f2_cons k _ _ _ hb rfl, rep]
    have h4 := (fin2 (x % 256) hb 0 (by decide)).1
    omega
theorem swar : ∀ k x, x < 256 ^ k → f3 k (f2 k (f1 k x)) = pops k x
  | 0, x, h => by
    have : x = 0 := by simpa using h
    subst this
    decide
  | k + 1, x, h => by
    have hx : x = 256 * (x / 256) + x % 256 := by omega
    have hb : x % 256 < 256 := by omega
    have ha : x / 256 < 256 ^ k := by rw [Nat.pow_succ] at h; omega
    have hp : pops (k + 1) x = 256 * pops k (x / 256) + popK 8 (x % 256) := rfl
    rw [hp, ← swar k _ ha, ← (fin3 _ hb).1]
    conv => lhs; rw [hx, f1_cons k _ _ hb, f2_cons k _ _ _ hb rfl, f3_cons k _ _ _ hb rfl (f12_low k _ ha).1]
theorem pop_bytes (x : Nat) : popK 64 x = popK 8 (x % 256) + (popK 8 (x / 256 % 256) + (popK 8 (x / 256 / 256 % 256) + (popK 8 (x / 256 / 256 / 256 % 256) + (popK 8 (x / 256 / 256 / 256 / 256 % 256) + (popK 8 (x / 256 / 256 / 256 / 256 / 256 % 256) + (popK 8 (x / 256 / 256 / 256 / 256 / 256 / 256 % 256) + popK 8 (x / 256 / 256 / 256 / 256 / 256 / 256 / 256))))))) := by
  have step : ∀ m y, popK (m + 8) y = popK 8 (y % 256) + popK m (y / 256) := by
    intro m y
    have := pop_add 8 m (y % 256) (y / 256) (by simp; omega)
    rw [← this]
    congr 1
    simp; omega
  rw [step 56, step 48, step 40, step 32, step 24, step 16, step 8]
theorem pop_mod (x : Nat) : popK 8 x = popK 8 (x % 256) := by
  have h := pop_add 8 0 (x % 256) (x / 256) (by show _ < 256; omega)
  have e : 2 ^ 8 * (x / 256) + x % 256 = x := by show 256 * _ + _ = _; omega
  rw [e] at h
  exact h
theorem gather (p0 p1 p2 p3 p4 p5 p6 p7 x y z : Nat) (h0 : p0 ≤ 8) (h1 : p1 ≤ 8) (h2 : p2 ≤ 8) (h3 : p3 ≤ 8) (h4 : p4 ≤ 8) (h5 : p5 ≤ 8) (h6 : p6 ≤ 8) (h7 : p7 ≤ 8)
    (hx : x = 256 * (256 * (256 * (256 * (256 * (256 * (256 * p7 + p6) + p5) + p4) + p3) + p2) + p1) + p0) (hy : y = x + x / 256) (hz : z = y + y / 65536) :
    y < 18446744073709551616 ∧ z < 18446744073709551616 ∧ z + z / 4294967296 < 18446744073709551616 ∧ (z + z / 4294967296) % 128 = p0 + (p1 + (p2 + (p3 + (p4 + (p5 + (p6 + p7)))))) := by
  have a1 : x / 256 = 256 * (256 * (256 * (256 * (256 * (256 * p7 + p6) + p5) + p4) + p3) + p2) + p1 := by omega
  have e1 : y = 256 * (256 * (256 * (256 * (256 * (256 * (256 * p7 + (p6 + p7)) + (p5 + p6)) + (p4 + p5)) + (p3 + p4)) + (p2 + p3)) + (p1 + p2)) + (p0 + p1) := by omega
  have a2 : y / 65536 = 256 * (256 * (256 * (256 * (256 * p7 + (p6 + p7)) + (p5 + p6)) + (p4 + p5)) + (p3 + p4)) + (p2 + p3) := by omega
  have e2 : z = 256 * (256 * (256 * (256 * (256 * (256 * (256 * p7 + (p6 + p7)) + (p5 + p6 + p7)) + (p4 + p5 + p6 + p7)) + (p3 + p4 + p5 + p6)) + (p2 + p3 + p4 + p5)) + (p1 + p2 + p3 + p4)) + (p0 + p1 + p2 + p3) := by omega
  have a3 : z / 4294967296 = 256 * (256 * (256 * p7 + (p6 + p7)) + (p5 + p6 + p7)) + (p4 + p5 + p6 + p7) := by omega
  clear hx hy hz a1 a2
  refine ⟨by omega, by omega, by omega, ?_⟩
  rw [a3]
  omega
theorem ones_count (x : Nat) (h : x < 18446744073709551616) : ∃ y z, pops 8 x < 18446744073709551616 ∧ y = pops 8 x + pops 8 x / 256 ∧ z = y + y / 65536 ∧ y < 18446744073709551616 ∧ z < 18446744073709551616 ∧ z + z / 4294967296 < 18446744073709551616 ∧ (z + z / 4294967296) % 128 = popK 64 x := by
  have b : ∀ t, popK 8 t ≤ 8 := pop_le 8
  have hx : pops 8 x = 256 * (256 * (256 * (256 * (256 * (256 * (256 * popK 8 (x / 256 / 256 / 256 / 256 / 256 / 256 / 256) + popK 8 (x / 256 / 256 / 256 / 256 / 256 / 256 % 256)) + popK 8 (x / 256 / 256 / 256 / 256 / 256 % 256)) + popK 8 (x / 256 / 256 / 256 / 256 % 256)) + popK 8 (x / 256 / 256 / 256 % 256)) + popK 8 (x / 256 / 256 % 256)) + popK 8 (x / 256 % 256)) + popK 8 (x % 256) := by
    rw [pop_mod (x / 256 / 256 / 256 / 256 / 256 / 256 / 256)]
    simp only [pops, Nat.mul_zero, Nat.zero_add]
  obtain ⟨g1, g2, g3, g4⟩ := gather _ _ _ _ _ _ _ _ _ _ _ (b _) (b _) (b _) (b _) (b _) (b _) (b _) (b _) hx rfl rfl
  refine ⟨_, _, ?_, rfl, rfl, g1, g2, g3, ?_⟩
  · omega
  · rw [g4, pop_bytes]
end Go.Proofs.YtgmblgpfgdfnaaaDoor
namespace Go.Proofs.YtgmblgpfgdfnaaaDoor
open Go.RowKit
set_option linter.unusedVariables false
set_option linter.unusedSimpArgs false
theorem u64_and_c {a m : Nat} (ha : a < 18446744073709551616) (hm : m < 18446744073709551616) {r : Nat} (hr : r = a &&& m) {b : Int} (hb : b = (a : Int)) : bits .and .u64 b (m : Int) = (r : Int) := by
  subst hb; subst hr
  exact u64_and_nat a m ha hm
theorem wrap_n {a : Int} {r : Nat} (h : a = (r : Int)) (hr : r < 18446744073709551616) : IntKind.u64.wrap a = (r : Int) := by
  rw [IntKind.wrap_u64]; omega
theorem and_le' (a m : Nat) : a &&& m ≤ m := Nat.and_le_right
theorem small_k {x y : Nat} (h : y < 256 ^ 8) : y < 18446744073709551616 := by simpa using h
theorem and127 (u r : Nat) (h : u % 128 = r) : bits .and .i64 (wrap64 (u : Int)) 127 = (r : Int) := by
  rw [i64_and127]
  unfold wrap64
  omega
theorem keep64 (p : Nat) (h : p < 18446744073709551616) : (p : Int) = IntKind.u64.wrap (p : Int) := by
  rw [IntKind.wrap_u64]; omega
set_option maxRecDepth 100000 in
theorem ones_any (x : Nat) (hx : x < 18446744073709551616) (w : World) :
    Calls Tryd.prog 50 #[.int .u64 (x : Int)] w fun e w' => e = .returned (.int .i64 (popK 64 x : Nat)) ∧ w = w' := by
  go_enter Tryd.func50, Tryd.ntmps50
  go_wp2
  go_ret
  refine ⟨?_, rfl⟩
  have r1 : rep 85 8 = 6148914691236517205 := by decide
  have r2 : rep 51 8 = 3689348814741910323 := by decide
  have r3 : rep 15 8 = 1085102592571150095 := by decide
  obtain ⟨_, l1, l2⟩ := f12_low 8 x (by simpa using hx)
  have sw := swar 8 x (by simpa using hx)
  have L3 := f12_le 8 x (by simpa using hx)
  have r4 : rep 68 8 = 4919131752989213764 := by decide
  rw [r4] at L3
  have L1 := small_k (x := 0) l1
  have L2 := small_k (x := 0) l2
  clear l1 l2
  obtain ⟨y, z, hp, hy, hz, b1, b2, b3, hr⟩ := ones_count x hx
  rw [← sw] at hp hy
  have d1 := and_le' (x / 2) (rep 85 8)
  have d2 := and_le' x (rep 85 8)
  have E1 : IntKind.u64.wrap (bits .and .u64 ((x : Int) / 2) 6148914691236517205 + bits .and .u64 (x : Int) 6148914691236517205) = (f1 8 x : Nat) := by
    have c1 : bits .and .u64 ((x : Int) / 2) 6148914691236517205 = ((x / 2 &&& rep 85 8 : Nat) : Int) := by
      rw [r1]; exact u64_and_c (a := x / 2) (m := 6148914691236517205) (by omega) (by decide) rfl (by push_cast; rfl)
    have c2 : bits .and .u64 (x : Int) 6148914691236517205 = ((x &&& rep 85 8 : Nat) : Int) := by
      rw [r1]; exact u64_and_c (a := x) (m := 6148914691236517205) hx (by decide) rfl rfl
    rw [c1, c2]
    exact wrap_n (by unfold f1; push_cast; rfl) L1
  generalize f1 8 x = y1 at *
  have E2 : IntKind.u64.wrap (bits .and .u64 ((y1 : Int) / 4) 3689348814741910323 + bits .and .u64 (y1 : Int) 3689348814741910323) = (f2 8 y1 : Nat) := by
    have c1 : bits .and .u64 ((y1 : Int) / 4) 3689348814741910323 = ((y1 / 4 &&& rep 51 8 : Nat) : Int) := by
      rw [r2]; exact u64_and_c (a := y1 / 4) (m := 3689348814741910323) (by omega) (by decide) rfl (by push_cast; rfl)
    have c2 : bits .and .u64 (y1 : Int) 3689348814741910323 = ((y1 &&& rep 51 8 : Nat) : Int) := by
      rw [r2]; exact u64_and_c (a := y1) (m := 3689348814741910323) L1 (by decide) rfl rfl
    rw [c1, c2]
    exact wrap_n (by unfold f2; push_cast; rfl) L2
  generalize f2 8 y1 = y2 at *
  have E3 : bits .and .u64 (IntKind.u64.wrap ((y2 : Int) / 16 + (y2 : Int))) 1085102592571150095 = (f3 8 y2 : Nat) := by
    unfold f3
    rw [r3]
    exact u64_and_c (a := y2 / 16 + y2) (m := 1085102592571150095) (by omega) (by decide) rfl (wrap_n (by push_cast; rfl) (by omega))
  generalize f3 8 y2 = y3 at *
  have E4 : IntKind.u64.wrap ((y3 : Int) + (y3 : Int) / 256) = (y : Nat) := wrap_n (by omega) b1
  have E5 : IntKind.u64.wrap ((y : Int) + (y : Int) / 65536) = (z : Nat) := wrap_n (by omega) b2
  have E6 : IntKind.u64.wrap ((z : Int) + (z : Int) / 4294967296) = ((z + z / 4294967296 : Nat) : Int) := wrap_n (by omega) b3
  have hp : popK 64 x < 128 := by have := pop_le 64 x; omega
  have E7 := and127 (z + z / 4294967296) _ hr
  simp only [E1, E2, E3, E4, E5, E6, E7]
  rfl
def bitZ (n : Int) : Nat := if 0 ≤ n ∧ n < 64 then 2 ^ n.toNat else 0
def allZ (n : Int) : Nat := if n < 1 then 0 else if 64 ≤ n then 18446744073709551615 else 2 ^ n.toNat - 1
theorem bitZ_lt (n : Int) : bitZ n < 18446744073709551616 := by
  unfold bitZ
  split
  · have : 2 ^ n.toNat < 2 ^ 64 := Nat.pow_lt_pow_right (by decide) (by omega)
    simpa using this
  · decide
theorem allZ_lt (n : Int) : allZ n < 18446744073709551616 := by
  unfold allZ
  split
  · decide
  · split
    · decide
    · have : 2 ^ n.toNat < 2 ^ 64 := Nat.pow_lt_pow_right (by decide) (by omega)
      simp at this; omega
set_option maxRecDepth 100000 in
theorem bit_any (n : Int) (w : World) :
    Calls Tryd.prog 60 #[.int .i64 n] w fun e w' => e = .returned (.int .u64 (bitZ n : Nat)) ∧ w = w' := by
  rcases (show (0 ≤ n ∧ n < 64) ∨ n < 0 ∨ (0 ≤ n ∧ 64 ≤ n) by omega) with ⟨h1, h2⟩ | h | ⟨h1, h2⟩
  · have e : (bitZ n : Int) = IntKind.u64.wrap (2 ^ n.toNat) := by
      have h3 := bitZ_lt n
      have h4 : ((2 ^ n.toNat : Nat) : Int) = 2 ^ n.toNat := by push_cast; rfl
      have h5 : bitZ n = 2 ^ n.toNat := by unfold bitZ; rw [if_pos ⟨h1, h2⟩]
      rw [← h4, ← h5]
      exact keep64 _ h3
    rw [e]
    clear e
    go_enter Tryd.func60, Tryd.ntmps60
    go_wp2
    go_ret
    exact ⟨rfl, rfl⟩
  · have e : bitZ n = 0 := by unfold bitZ; rw [if_neg (by omega)]
    rw [e]
    clear e
    go_enter Tryd.func60, Tryd.ntmps60
    go_wp2
    go_ret
    exact ⟨rfl, rfl⟩
  · have e : bitZ n = 0 := by unfold bitZ; rw [if_neg (by omega)]
    rw [e]
    clear e
    go_enter Tryd.func60, Tryd.ntmps60
    go_wp2
    go_ret
    exact ⟨rfl, rfl⟩
set_option maxRecDepth 100000 in
theorem with_any (s : Nat) (hs : s < 18446744073709551616) (n : Int) (w : World) :
    Calls Tryd.prog 55 #[.int .u64 (s : Int), .int .i64 n] w fun e w' => e = .returned (.int .u64 (s ||| bitZ n : Nat)) ∧ w = w' := by
  have e := u64_or_nat s (bitZ n) hs (bitZ_lt n)
  have B := bit_any n
  rw [← e]
  clear e
  generalize bitZ n = b at B ⊢
  go_enter Tryd.func55, Tryd.ntmps55
  go_wp2_with fail
  refine (B _).mono ?_
  rintro e w1 ⟨rfl, rfl⟩
  go_wp2_with fail
  go_ret
  exact ⟨rfl, rfl⟩
set_option maxRecDepth 100000 in
theorem without_any (s : Nat) (hs : s < 18446744073709551616) (n : Int) (w : World) :
    Calls Tryd.prog 51 #[.int .u64 (s : Int), .int .i64 n] w fun e w' => e = .returned (.int .u64 (s &&& (18446744073709551615 - bitZ n) : Nat)) ∧ w = w' := by
  have e := u64_andNot_nat s (bitZ n) hs (bitZ_lt n)
  have B := bit_any n
  rw [← e]
  clear e
  generalize bitZ n = b at B ⊢
  go_enter Tryd.func51, Tryd.ntmps51
  go_wp2_with fail
  refine (B _).mono ?_
  rintro e w1 ⟨rfl, rfl⟩
  go_wp2_with fail
  go_ret
  exact ⟨rfl, rfl⟩
set_option maxRecDepth 100000 in
theorem count_any (s : Nat) (hs : s < 18446744073709551616) (w : World) :
    Calls Tryd.prog 36 #[.int .u64 (s : Int)] w fun e w' => e = .returned (.int .i64 (popK 64 s : Nat)) ∧ w = w' := by
  have B := ones_any s hs
  generalize popK 64 s = b at B ⊢
  go_enter Tryd.func36, Tryd.ntmps36
  go_wp2_with fail
  refine (B _).mono ?_
  rintro e w1 ⟨rfl, rfl⟩
  go_wp2_with fail
  go_ret
  exact ⟨rfl, rfl⟩
set_option maxRecDepth 100000 in
theorem all_any (n : Int) (w : World) :
    Calls Tryd.prog 52 #[.int .i64 n] w fun e w' => e = .returned (.int .u64 (allZ n : Nat)) ∧ w = w' := by
  rcases (show n < 1 ∨ (1 ≤ n ∧ 64 ≤ n) ∨ (1 ≤ n ∧ n < 64) by omega) with h | ⟨h1, h2⟩ | ⟨h1, h2⟩
  · have e : allZ n = 0 := by unfold allZ; rw [if_pos h]
    rw [e]
    clear e
    go_enter Tryd.func52, Tryd.ntmps52
    go_wp2
    go_ret
    exact ⟨rfl, rfl⟩
  · have e : allZ n = 18446744073709551615 := by unfold allZ; rw [if_neg (by omega), if_pos h2]
    rw [e]
    clear e
    go_enter Tryd.func52, Tryd.ntmps52
    go_wp2
    go_ret
    exact ⟨rfl, rfl⟩
  · have e : (allZ n : Int) = IntKind.u64.wrap ((bitZ n : Int) - 1) := by
      have h3 := bitZ_lt n
      have h4 : 0 < 2 ^ n.toNat := Nat.two_pow_pos _
      rw [IntKind.wrap_u64]
      unfold allZ bitZ at *
      rw [if_neg (by omega), if_neg (by omega)]
      rw [if_pos ⟨by omega, h2⟩] at *
      omega
    have B := bit_any n
    rw [e]
    clear e
    generalize bitZ n = b at B ⊢
    go_enter Tryd.func52, Tryd.ntmps52
    go_wp2_with fail
    refine (B _).mono ?_
    rintro e w1 ⟨rfl, rfl⟩
    go_wp2_with fail
    go_ret
    exact ⟨rfl, rfl⟩
end Go.Proofs.YtgmblgpfgdfnaaaDoor
