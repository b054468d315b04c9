/- Words of bytes; what is fed, byte by byte. -/
import Derived.Test.YtfejjmodkjpmfaaS03M
namespace Go.Proofs.Ytfejjmodkjpmfaa
set_option linter.unusedVariables false
set_option linter.unusedSimpArgs false
/-- Bytes as a number, the lowest first. -/
def le8 : List UInt8 → Nat
  | [] => 0
  | b :: l => b.toNat + 256 * le8 l
theorem le8_lt : ∀ l : List UInt8, le8 l < 256 ^ l.length
  | [] => by decide
  | b :: l => by
    have h1 := le8_lt l
    have h2 := b.toNat_lt
    simp only [le8, List.length_cons, Nat.pow_succ]
    omega
theorem le8_snoc (c : UInt8) : ∀ l : List UInt8, le8 (l ++ [c]) = le8 l + c.toNat * 256 ^ l.length
  | [] => by simp [le8]
  | b :: l => by
    rw [List.cons_append, le8, le8, le8_snoc c l, List.length_cons, Nat.pow_succ, Nat.mul_add, Nat.add_assoc, Nat.mul_comm (256 ^ l.length) 256, Nat.mul_left_comm 256]
theorem or_byte (m c k : Nat) (hk : k < 8) (hm : m < 256 ^ k) (hc : c < 256) : bits .or .u64 (m : Int) (IntKind.u64.wrap ((c : Int) * ((256 ^ k : Nat) : Int))) = ((m + c * 256 ^ k : Nat) : Int) := by
  have h0 : (256 : Nat) ^ k ≤ 256 ^ 7 := Nat.pow_le_pow_right (by decide) (by omega)
  have h2 : c * 256 ^ k < 18446744073709551616 := by
    have : c * 256 ^ k ≤ 255 * 256 ^ 7 := Nat.mul_le_mul (by omega) h0
    omega
  have h3 : m < 18446744073709551616 := by omega
  have h4 : (c : Int) * ((256 ^ k : Nat) : Int) % 18446744073709551616 = ((c * 256 ^ k : Nat) : Int) := by
    rw [← Int.natCast_mul]; omega
  have h5 : (256 : Nat) ^ k = 2 ^ (8 * k) := by rw [Nat.pow_mul]
  rw [IntKind.wrap_u64, h4, u64_or_nat _ _ h3 h2, Nat.or_comm]
  congr 1
  rw [h5] at hm ⊢
  rw [Nat.mul_comm c, ← Nat.two_pow_add_eq_or_of_lt hm, Nat.add_comm]
/-- One byte more. -/
def put1 (x : St × List UInt8) (n : Nat) (c : UInt8) : St × List UInt8 :=
  (if n % 8 = 7 then takeN x.1 (le8 (x.2.set (n % 8) c)) else x.1, x.2.set (n % 8) c)
def feed : St × List UInt8 → Nat → List UInt8 → St × List UInt8
  | x, _, [] => x
  | x, n, c :: l => feed (put1 x n c) (n + 1) l
theorem feed_snoc (c : UInt8) : ∀ (l : List UInt8) (x : St × List UInt8) (n : Nat), feed x n (l ++ [c]) = put1 (feed x n l) (n + l.length) c
  | [], x, n => rfl
  | b :: l, x, n => by
    rw [List.cons_append, feed, feed, feed_snoc c l, List.length_cons, show n + 1 + l.length = n + (l.length + 1) from by omega]
theorem feed_app : ∀ (l m : List UInt8) (x : St × List UInt8) (n : Nat), feed x n (l ++ m) = feed (feed x n l) (n + l.length) m
  | [], m, x, n => rfl
  | b :: l, m, x, n => by
    rw [List.cons_append, feed, feed, feed_app l m, List.length_cons, show n + 1 + l.length = n + (l.length + 1) from by omega]
theorem feed_len : ∀ (l : List UInt8) (x : St × List UInt8) (n : Nat), (feed x n l).2.length = x.2.length
  | [], x, n => rfl
  | b :: l, x, n => by rw [feed, feed_len l]; simp [put1]
theorem put_ok (x : St × List UInt8) (n : Nat) (c : UInt8) (h : x.1.Ok) (h8 : x.2.length = 8) : (put1 x n c).1.Ok := by
  unfold put1
  by_cases e : n % 8 = 7
  · simp only [e, if_true]
    refine take_ok _ h _ ?_
    have := le8_lt (x.2.set 7 c)
    rw [List.length_set, h8] at this
    exact this
  · simp only [e, if_false]; exact h
theorem feed_ok : ∀ (l : List UInt8) (x : St × List UInt8) (n : Nat), x.1.Ok → x.2.length = 8 → (feed x n l).1.Ok
  | [], x, n, h, _ => h
  | b :: l, x, n, h, h8 => by
    rw [feed]
    exact feed_ok l _ _ (put_ok x n b h h8) (by simp [put1, h8])
/-- The tag of what was fed. -/
def lastW (r : List UInt8) (n : Nat) : Nat := le8 (r.take (n % 8) ++ List.replicate (7 - n % 8) 0 ++ [UInt8.ofNat (n % 256)])
def endN (s : St) : Nat := let t := roundsN 4 { s with c := xorN s.c 255 }; xorN (xorN (xorN t.a t.b) t.c) t.d
def tagN (x : St × List UInt8) (n : Nat) : Nat := endN (takeN x.1 (lastW x.2 n))
def initN (k0 k1 : Nat) : St := ⟨xorN 8317987319222330741 k0, xorN 7237128888997146477 k1, xorN 7816392313619706465 k0, xorN 8387220255154660723 k1⟩
theorem init_ok (k0 k1 : Nat) (h0 : k0 < 18446744073709551616) (h1 : k1 < 18446744073709551616) : (initN k0 k1).Ok := ⟨xor_lt (by decide) h0, xor_lt (by decide) h1, xor_lt (by decide) h0, xor_lt (by decide) h1⟩
def zero8 : List UInt8 := [0, 0, 0, 0, 0, 0, 0, 0]
def sipN (k0 k1 : Nat) (l : List UInt8) : Nat := tagN (feed (initN k0 k1, zero8) 0 l) l.length
/-- The document's way. -/
def words : List UInt8 → List Nat
  | b0 :: b1 :: b2 :: b3 :: b4 :: b5 :: b6 :: b7 :: t => le8 [b0, b1, b2, b3, b4, b5, b6, b7] :: words t
  | _ => []
def padN (n : Nat) (l : List UInt8) : List UInt8 := l ++ List.replicate (7 - l.length % 8) 0 ++ [UInt8.ofNat (n % 256)]
theorem words_cons (b0 b1 b2 b3 b4 b5 b6 b7 : UInt8) (t : List UInt8) : words (b0 :: b1 :: b2 :: b3 :: b4 :: b5 :: b6 :: b7 :: t) = le8 [b0, b1, b2, b3, b4, b5, b6, b7] :: words t := by rw [words]
theorem feed8 (b0 b1 b2 b3 b4 b5 b6 b7 r0 r1 r2 r3 r4 r5 r6 r7 : UInt8) (s : St) (n : Nat) (hn : n % 8 = 0) (t : List UInt8) :
    feed (s, [r0, r1, r2, r3, r4, r5, r6, r7]) n (b0 :: b1 :: b2 :: b3 :: b4 :: b5 :: b6 :: b7 :: t) = feed (takeN s (le8 [b0, b1, b2, b3, b4, b5, b6, b7]), [b0, b1, b2, b3, b4, b5, b6, b7]) (n + 8) t := by
  have e1 : (n + 1) % 8 = 1 := by omega
  have e2 : (n + 1 + 1) % 8 = 2 := by omega
  have e3 : (n + 1 + 1 + 1) % 8 = 3 := by omega
  have e4 : (n + 1 + 1 + 1 + 1) % 8 = 4 := by omega
  have e5 : (n + 1 + 1 + 1 + 1 + 1) % 8 = 5 := by omega
  have e6 : (n + 1 + 1 + 1 + 1 + 1 + 1) % 8 = 6 := by omega
  have e7 : (n + 1 + 1 + 1 + 1 + 1 + 1 + 1) % 8 = 7 := by omega
  simp only [feed, put1, hn, e1, e2, e3, e4, e5, e6, e7, List.set_cons_zero, List.set_cons_succ, if_true, if_false, Nat.reduceEqDiff]
theorem tag_words : ∀ (l : List UInt8) (r0 r1 r2 r3 r4 r5 r6 r7 : UInt8) (s : St) (n : Nat), n % 8 = 0 →
    tagN (feed (s, [r0, r1, r2, r3, r4, r5, r6, r7]) n l) (n + l.length) = endN ((words (padN (n + l.length) l)).foldl takeN s)
  | b0 :: b1 :: b2 :: b3 :: b4 :: b5 :: b6 :: b7 :: t, r0, r1, r2, r3, r4, r5, r6, r7, s, n, hn => by
    rw [feed8 _ _ _ _ _ _ _ _ _ _ _ _ _ _ _ _ s n hn]
    have e : n + (b0 :: b1 :: b2 :: b3 :: b4 :: b5 :: b6 :: b7 :: t).length = n + 8 + t.length := by simp; omega
    have e2 : (b0 :: b1 :: b2 :: b3 :: b4 :: b5 :: b6 :: b7 :: t).length % 8 = t.length % 8 := by simp; omega
    have ih := tag_words t b0 b1 b2 b3 b4 b5 b6 b7 (takeN s (le8 [b0, b1, b2, b3, b4, b5, b6, b7])) (n + 8) (by omega)
    rw [e, ih]
    unfold padN
    rw [e2]
    simp only [List.cons_append, words_cons, List.foldl_cons]
  | [], r0, r1, r2, r3, r4, r5, r6, r7, s, n, hn => by
    simp [feed, tagN, lastW, padN, hn, words, List.replicate]
  | [b0], r0, r1, r2, r3, r4, r5, r6, r7, s, n, hn => by
    have e1 : (n + 1) % 8 = 1 := by omega
    simp [feed, put1, tagN, lastW, padN, hn, e1, words, List.replicate]
  | [b0, b1], r0, r1, r2, r3, r4, r5, r6, r7, s, n, hn => by
    have e1 : (n + 1) % 8 = 1 := by omega
    have e2 : (n + 2) % 8 = 2 := by omega
    simp [feed, put1, tagN, lastW, padN, hn, e1, e2, words, List.replicate]
  | [b0, b1, b2], r0, r1, r2, r3, r4, r5, r6, r7, s, n, hn => by
    have e1 : (n + 1) % 8 = 1 := by omega
    have e2 : (n + 2) % 8 = 2 := by omega
    have e3 : (n + 3) % 8 = 3 := by omega
    simp [feed, put1, tagN, lastW, padN, hn, e1, e2, e3, words, List.replicate]
  | [b0, b1, b2, b3], r0, r1, r2, r3, r4, r5, r6, r7, s, n, hn => by
    have e1 : (n + 1) % 8 = 1 := by omega
    have e2 : (n + 2) % 8 = 2 := by omega
    have e3 : (n + 3) % 8 = 3 := by omega
    have e4 : (n + 4) % 8 = 4 := by omega
    simp [feed, put1, tagN, lastW, padN, hn, e1, e2, e3, e4, words, List.replicate]
  | [b0, b1, b2, b3, b4], r0, r1, r2, r3, r4, r5, r6, r7, s, n, hn => by
    have e1 : (n + 1) % 8 = 1 := by omega
    have e2 : (n + 2) % 8 = 2 := by omega
    have e3 : (n + 3) % 8 = 3 := by omega
    have e4 : (n + 4) % 8 = 4 := by omega
    have e5 : (n + 5) % 8 = 5 := by omega
    simp [feed, put1, tagN, lastW, padN, hn, e1, e2, e3, e4, e5, words, List.replicate]
  | [b0, b1, b2, b3, b4, b5], r0, r1, r2, r3, r4, r5, r6, r7, s, n, hn => by
    have e1 : (n + 1) % 8 = 1 := by omega
    have e2 : (n + 2) % 8 = 2 := by omega
    have e3 : (n + 3) % 8 = 3 := by omega
    have e4 : (n + 4) % 8 = 4 := by omega
    have e5 : (n + 5) % 8 = 5 := by omega
    have e6 : (n + 6) % 8 = 6 := by omega
    simp [feed, put1, tagN, lastW, padN, hn, e1, e2, e3, e4, e5, e6, words, List.replicate]
  | [b0, b1, b2, b3, b4, b5, b6], r0, r1, r2, r3, r4, r5, r6, r7, s, n, hn => by
    have e1 : (n + 1) % 8 = 1 := by omega
    have e2 : (n + 2) % 8 = 2 := by omega
    have e3 : (n + 3) % 8 = 3 := by omega
    have e4 : (n + 4) % 8 = 4 := by omega
    have e5 : (n + 5) % 8 = 5 := by omega
    have e6 : (n + 6) % 8 = 6 := by omega
    have e7 : (n + 7) % 8 = 7 := by omega
    simp [feed, put1, tagN, lastW, padN, hn, e1, e2, e3, e4, e5, e6, e7, words, List.replicate]
/-- The two ways are one. -/
theorem sip_words (k0 k1 : Nat) (l : List UInt8) : sipN k0 k1 l = endN ((words (padN l.length l)).foldl takeN (initN k0 k1)) := by
  have := tag_words l 0 0 0 0 0 0 0 0 (initN k0 k1) 0 (by decide)
  rw [Nat.zero_add] at this
  exact this
def known0 : Nat := 506097522914230528
def known1 : Nat := 1084818905618843912
theorem awake1 : sipN known0 known1 [] = 8246050544436514353 := by decide +kernel
theorem awake2 : sipN known0 known1 [0, 1, 2, 3, 4, 5, 6, 7, 8, 9, 10, 11, 12, 13, 14] = 11613035633349379557 := by decide +kernel
end Go.Proofs.Ytfejjmodkjpmfaa
