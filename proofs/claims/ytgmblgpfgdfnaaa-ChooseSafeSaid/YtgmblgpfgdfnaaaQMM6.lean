/- Sets of numbers below 64 as natural numbers: plain mathematics. -/
import Derived.Laws.BitsAllLaws
import Derived.Laws.Bits64
namespace Go.Proofs.Ytgmblgpfgdfnaaa
set_option linter.unusedVariables false
set_option linter.unusedSimpArgs false
/-- How many of the lowest k bits are set. -/
def popK : Nat → Nat → Nat
  | 0, _ => 0
  | k + 1, x => x % 2 + popK k (x / 2)
/-- The numbers of a set. -/
def listN (s : Nat) : List Nat := (List.range 64).filter fun i => s.testBit i
theorem filter_pop : ∀ (k s : Nat), ((List.range k).filter fun i => s.testBit i).length = popK k s
  | 0, s => rfl
  | k + 1, s => by
    rw [List.range_succ_eq_map, List.filter_cons, List.filter_map, popK, ← filter_pop k (s / 2)]
    have e : ((fun i => s.testBit i) ∘ Nat.succ) = fun i => (s / 2).testBit i := by
      funext i; simp [Nat.testBit_succ]
    rw [e]
    by_cases h : s % 2 = 1
    · simp [Nat.testBit_zero, h]; omega
    · have h0 : s % 2 = 0 := by omega
      simp [Nat.testBit_zero, h0]
theorem list_len (s : Nat) : (listN s).length = popK 64 s := filter_pop 64 s
theorem mem_list (s i : Nat) : i ∈ listN s ↔ i < 64 ∧ s.testBit i = true := by simp [listN]
theorem pop_le : ∀ k x, popK k x ≤ k
  | 0, _ => Nat.le_refl _
  | k + 1, x => by have := pop_le k (x / 2); unfold popK; omega
theorem pop_add : ∀ (k m b a : Nat), b < 2 ^ k → popK (m + k) (2 ^ k * a + b) = popK k b + popK m a
  | 0, m, b, a, h => by
    have : b = 0 := by omega
    subst this
    simp [popK]
  | k + 1, m, b, a, h => by
    have h2 : b / 2 < 2 ^ k := by rw [Nat.pow_succ] at h; omega
    have := pop_add k m (b / 2) a h2
    have e1 : (2 ^ (k + 1) * a + b) / 2 = 2 ^ k * a + b / 2 := by
      rw [Nat.pow_succ, Nat.mul_comm (2 ^ k) 2, Nat.mul_assoc]; omega
    have e2 : (2 ^ (k + 1) * a + b) % 2 = b % 2 := by
      rw [Nat.pow_succ, Nat.mul_comm (2 ^ k) 2, Nat.mul_assoc]; omega
    rw [← Nat.add_assoc m k 1, popK, e1, e2, this, popK]
    omega
theorem and_cut (k a b c d : Nat) (hb : b < 2 ^ k) (hd : d < 2 ^ k) : (2 ^ k * a + b) &&& (2 ^ k * c + d) = 2 ^ k * (a &&& c) + (b &&& d) := by
  have hp : 0 < 2 ^ k := Nat.two_pow_pos k
  have e := Nat.div_add_mod ((2 ^ k * a + b) &&& (2 ^ k * c + d)) (2 ^ k)
  rw [Nat.and_div_two_pow, Nat.and_mod_two_pow, Nat.mul_add_div hp, Nat.mul_add_div hp, Nat.mul_add_mod, Nat.mul_add_mod, Nat.div_eq_of_lt hb, Nat.div_eq_of_lt hd, Nat.mod_eq_of_lt hb, Nat.mod_eq_of_lt hd, Nat.add_zero, Nat.add_zero] at e
  exact e.symm
/-- A byte's pattern, so many times. -/
def rep (m : Nat) : Nat → Nat
  | 0 => 0
  | k + 1 => 256 * rep m k + m
def g1 (b : Nat) : Nat := (b / 2 &&& 85) + (b &&& 85)
def g2 (b : Nat) : Nat := (b / 4 &&& 51) + (b &&& 51)
def g3 (b : Nat) : Nat := (b / 16 + b) &&& 15
def f1 (k x : Nat) : Nat := (x / 2 &&& rep 85 k) + (x &&& rep 85 k)
def f2 (k x : Nat) : Nat := (x / 4 &&& rep 51 k) + (x &&& rep 51 k)
def f3 (k x : Nat) : Nat := (x / 16 + x) &&& rep 15 k
theorem fin1 : ∀ b < 256, g1 b ≤ 170 ∧ (128 + b / 2) &&& 85 = (b / 2) &&& 85 := by decide +kernel
theorem fin2 : ∀ b < 256, ∀ t < 4, g2 (g1 b) ≤ 68 ∧ (t * 64 + g1 b / 4) &&& 51 = (g1 b / 4) &&& 51 := by decide +kernel
theorem fin3 : ∀ b < 256, g3 (g2 (g1 b)) = popK 8 b ∧ g2 (g1 b) % 16 ≤ 4 ∧ g2 (g1 b) / 16 ≤ 4 := by decide +kernel
theorem f1_cons (k a b : Nat) (hb : b < 256) : f1 (k + 1) (256 * a + b) = 256 * f1 k a + g1 b := by
  obtain ⟨h1, h2⟩ := fin1 b hb
  have h3 : (a % 2 * 128 + b / 2) &&& 85 = (b / 2) &&& 85 := by
    have : a % 2 = 0 ∨ a % 2 = 1 := by omega
    rcases this with e | e
    · rw [e]; simp
    · rw [e, Nat.one_mul]; exact h2
  have e1 : (256 * a + b) / 2 = 256 * (a / 2) + (a % 2 * 128 + b / 2) := by omega
  have c1 := and_cut 8 (a / 2) (a % 2 * 128 + b / 2) (rep 85 k) 85 (by simp; omega) (by decide)
  have c2 := and_cut 8 a b (rep 85 k) 85 (by simpa using hb) (by decide)
  simp only [Nat.reducePow] at c1 c2
  unfold f1 g1
  rw [rep, e1, c1, c2, h3]
  omega
theorem f2_cons (k a b c : Nat) (hc : c < 256) (hb : b = g1 c) : f2 (k + 1) (256 * a + b) = 256 * f2 k a + g2 b := by
  have h1 := (fin1 c hc).1
  have hb2 : b < 256 := by omega
  have h3 : (a % 4 * 64 + b / 4) &&& 51 = (b / 4) &&& 51 := by
    rw [hb]; exact (fin2 c hc (a % 4) (by omega)).2
  have e1 : (256 * a + b) / 4 = 256 * (a / 4) + (a % 4 * 64 + b / 4) := by omega
  have c1 := and_cut 8 (a / 4) (a % 4 * 64 + b / 4) (rep 51 k) 51 (by simp; omega) (by decide)
  have c2 := and_cut 8 a b (rep 51 k) 51 (by simpa using hb2) (by decide)
  simp only [Nat.reducePow] at c1 c2
  unfold f2 g2
  rw [rep, e1, c1, c2, h3]
  omega
theorem f3_cons (k a b c : Nat) (hc : c < 256) (hb : b = g2 (g1 c)) (ha : a % 16 ≤ 4) : f3 (k + 1) (256 * a + b) = 256 * f3 k a + g3 b := by
  obtain ⟨_, h2, h3⟩ := fin3 c hc
  rw [← hb] at h2 h3
  have e1 : (256 * a + b) / 16 + (256 * a + b) = 256 * (a / 16 + a) + (a % 16 * 16 + (b / 16 + b)) := by omega
  have c1 := and_cut 8 (a / 16 + a) (a % 16 * 16 + (b / 16 + b)) (rep 15 k) 15 (by simp; omega) (by decide)
  have h4 : (a % 16 * 16 + (b / 16 + b)) &&& 15 = (b / 16 + b) &&& 15 := by rw [nat_mask4, nat_mask4]; omega
  simp only [Nat.reducePow] at c1
  unfold f3 g3
  rw [rep, e1, c1, h4]
/-- Of each byte its own number of set bits. -/
def pops : Nat → Nat → Nat
  | 0, _ => 0
  | k + 1, x => 256 * pops k (x / 256) + popK 8 (x % 256)
theorem f12_low : ∀ k x, x < 256 ^ k → f2 k (f1 k x) % 16 ≤ 4 ∧ f1 k x < 256 ^ k ∧ f2 k (f1 k x) < 256 ^ k
  | 0, x, h => by
    have : x = 0 := by simpa using h
    subst this
    decide
  | k + 1, x, h => by
    have hx : x = 256 * (x / 256) + x % 256 := by omega
    have hb : x % 256 < 256 := by omega
    have ha : x / 256 < 256 ^ k := by rw [Nat.pow_succ] at h; omega
    obtain ⟨_, i1, i2⟩ := f12_low k (x / 256) ha
    rw [hx, f1_cons k _ _ hb, f2_cons k _ _ _ hb rfl, Nat.pow_succ]
    have := (fin3 (x % 256) hb).2.1
    have h3 := (fin1 (x % 256) hb).1
    have h4 := (fin2 (x % 256) hb 0 (by decide)).1
    omega
theorem f12_le : ∀ k x, x < 256 ^ k → f2 k (f1 k x) ≤ rep 68 k
  | 0, x, h => by
    have : x = 0 := by simpa using h
    subst this
    decide
  | k + 1, x, h => by
    have hx : x = 256 * (x / 256) + x % 256 := by omega
    have hb : x % 256 < 256 := by omega
    have ha : x / 256 < 256 ^ k := by rw [Nat.pow_succ] at h; omega
    have := f12_le k (x / 256) ha
    rw [hx, f1_cons k _ _ hb, f2_cons k _ _ _ hb rfl, rep]
    have h4 := (fin2 (x % 256) hb 0 (by decide)).1
    omega
theorem swar : ∀ k x, x < 256 ^ k → f3 k (f2 k (f1 k x)) = pops k x
  | 0, x, h => by
    have : x = 0 := by simpa using h
    subst this
    decide
  | k + 1, x, h => by
    have hx : x = 256 * (x / 256) + x % 256 := by omega
    have hb : x % 256 < 256 := by omega
    have ha : x / 256 < 256 ^ k := by rw [Nat.pow_succ] at h; omega
    have hp : pops (k + 1) x = 256 * pops k (x / 256) + popK 8 (x % 256) := rfl
    rw [hp, ← swar k _ ha, ← (fin3 _ hb).1]
    conv => lhs; rw [hx, f1_cons k _ _ hb, f2_cons k _ _ _ hb rfl, f3_cons k _ _ _ hb rfl (f12_low k _ ha).1]
theorem pop_bytes (x : Nat) : popK 64 x = popK 8 (x % 256) + (popK 8 (x / 256 % 256) + (popK 8 (x / 256 / 256 % 256) + (popK 8 (x / 256 / 256 / 256 % 256) + (popK 8 (x / 256 / 256 / 256 / 256 % 256) + (popK 8 (x / 256 / 256 / 256 / 256 / 256 % 256) + (popK 8 (x / 256 / 256 / 256 / 256 / 256 / 256 % 256) + popK 8 (x / 256 / 256 / 256 / 256 / 256 / 256 / 256))))))) := by
  have step : ∀ m y, popK (m + 8) y = popK 8 (y % 256) + popK m (y / 256) := by
    intro m y
    have := pop_add 8 m (y % 256) (y / 256) (by simp; omega)
    rw [← this]
    congr 1
    simp; omega
  rw [step 56, step 48, step 40, step 32, step 24, step 16, step 8]
theorem pop_mod (x : Nat) : popK 8 x = popK 8 (x % 256) := by
  have h := pop_add 8 0 (x % 256) (x / 256) (by show _ < 256; omega)
  have e : 2 ^ 8 * (x / 256) + x % 256 = x := by show 256 * _ + _ = _; omega
  rw [e] at h
  exact h
theorem gather (p0 p1 p2 p3 p4 p5 p6 p7 x y z : Nat) (h0 : p0 ≤ 8) (h1 : p1 ≤ 8) (h2 : p2 ≤ 8) (h3 : p3 ≤ 8) (h4 : p4 ≤ 8) (h5 : p5 ≤ 8) (h6 : p6 ≤ 8) (h7 : p7 ≤ 8)
    (hx : x = 256 * (256 * (256 * (256 * (256 * (256 * (256 * p7 + p6) + p5) + p4) + p3) + p2) + p1) + p0) (hy : y = x + x / 256) (hz : z = y + y / 65536) :
    y < 18446744073709551616 ∧ z < 18446744073709551616 ∧ z + z / 4294967296 < 18446744073709551616 ∧ (z + z / 4294967296) % 128 = p0 + (p1 + (p2 + (p3 + (p4 + (p5 + (p6 + p7)))))) := by
  have a1 : x / 256 = 256 * (256 * (256 * (256 * (256 * (256 * p7 + p6) + p5) + p4) + p3) + p2) + p1 := by omega
  have e1 : y = 256 * (256 * (256 * (256 * (256 * (256 * (256 * p7 + (p6 + p7)) + (p5 + p6)) + (p4 + p5)) + (p3 + p4)) + (p2 + p3)) + (p1 + p2)) + (p0 + p1) := by omega
  have a2 : y / 65536 = 256 * (256 * (256 * (256 * (256 * p7 + (p6 + p7)) + (p5 + p6)) + (p4 + p5)) + (p3 + p4)) + (p2 + p3) := by omega
  have e2 : z = 256 * (256 * (256 * (256 * (256 * (256 * (256 * p7 + (p6 + p7)) + (p5 + p6 + p7)) + (p4 + p5 + p6 + p7)) + (p3 + p4 + p5 + p6)) + (p2 + p3 + p4 + p5)) + (p1 + p2 + p3 + p4)) + (p0 + p1 + p2 + p3) := by omega
  have a3 : z / 4294967296 = 256 * (256 * (256 * p7 + (p6 + p7)) + (p5 + p6 + p7)) + (p4 + p5 + p6 + p7) := by omega
  clear hx hy hz a1 a2
  refine ⟨by omega, by omega, by omega, ?_⟩
  rw [a3]
  omega
theorem ones_count (x : Nat) (h : x < 18446744073709551616) : ∃ y z, pops 8 x < 18446744073709551616 ∧ y = pops 8 x + pops 8 x / 256 ∧ z = y + y / 65536 ∧ y < 18446744073709551616 ∧ z < 18446744073709551616 ∧ z + z / 4294967296 < 18446744073709551616 ∧ (z + z / 4294967296) % 128 = popK 64 x := by
  have b : ∀ t, popK 8 t ≤ 8 := pop_le 8
  have hx : pops 8 x = 256 * (256 * (256 * (256 * (256 * (256 * (256 * popK 8 (x / 256 / 256 / 256 / 256 / 256 / 256 / 256) + popK 8 (x / 256 / 256 / 256 / 256 / 256 / 256 % 256)) + popK 8 (x / 256 / 256 / 256 / 256 / 256 % 256)) + popK 8 (x / 256 / 256 / 256 / 256 % 256)) + popK 8 (x / 256 / 256 / 256 % 256)) + popK 8 (x / 256 / 256 % 256)) + popK 8 (x / 256 % 256)) + popK 8 (x % 256) := by
    rw [pop_mod (x / 256 / 256 / 256 / 256 / 256 / 256 / 256)]
    simp only [pops, Nat.mul_zero, Nat.zero_add]
  obtain ⟨g1, g2, g3, g4⟩ := gather _ _ _ _ _ _ _ _ _ _ _ (b _) (b _) (b _) (b _) (b _) (b _) (b _) (b _) hx rfl rfl
  refine ⟨_, _, ?_, rfl, rfl, g1, g2, g3, ?_⟩
  · omega
  · rw [g4, pop_bytes]
end Go.Proofs.Ytgmblgpfgdfnaaa
