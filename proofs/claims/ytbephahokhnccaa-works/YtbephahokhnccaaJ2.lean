/-
  Plain arithmetic of words of four parts: no program in sight.
  Plain arithmetic: numbers of eight parts, and the product of two of four.
-/
import Derived.RowKit
namespace Go.Proofs.Ytbephahokhnccaa

/-- 2^256. -/
def M : Nat := 115792089237316195423570985008687907853269984665640564039457584007913129639936
/-- The i-th part of a number. -/
def lim (n i : Nat) : Int := ((n / 18446744073709551616 ^ i % 18446744073709551616 : Nat) : Int)
/-- A number as a word. -/
abbrev wd (n : Nat) : Value := .agg #[.int .u64 (lim n 0), .int .u64 (lim n 1), .int .u64 (lim n 2), .int .u64 (lim n 3)]

theorem lim_nn (n i : Nat) : 0 ≤ lim n i := Int.natCast_nonneg _
theorem lim_lt (n i : Nat) : lim n i < 18446744073709551616 := by
  have := Nat.mod_lt (n / 18446744073709551616 ^ i) (y := 18446744073709551616) (by decide)
  unfold lim; omega

theorem lim_sum (n : Nat) (h : n < M) : (n : Int) = lim n 0 + lim n 1 * 18446744073709551616 + lim n 2 * 340282366920938463463374607431768211456 + lim n 3 * 6277101735386680763835789423207666416102355444464034512896 := by
  unfold lim M at *
  simp only [Nat.pow_zero, Nat.pow_one, Nat.div_one, Nat.reducePow]
  omega

/-- What has these four parts is this number. -/
theorem lim_of (n : Nat) (x0 x1 x2 x3 : Int) (a0 : 0 ≤ x0) (a1 : 0 ≤ x1) (a2 : 0 ≤ x2) (a3 : 0 ≤ x3) (b0 : x0 < 18446744073709551616) (b1 : x1 < 18446744073709551616) (b2 : x2 < 18446744073709551616) (b3 : x3 < 18446744073709551616)
    (h : (n : Int) = x0 + x1 * 18446744073709551616 + x2 * 340282366920938463463374607431768211456 + x3 * 6277101735386680763835789423207666416102355444464034512896) :
    lim n 0 = x0 ∧ lim n 1 = x1 ∧ lim n 2 = x2 ∧ lim n 3 = x3 := by
  unfold lim
  simp only [Nat.pow_zero, Nat.pow_one, Nat.div_one, Nat.reducePow]
  refine ⟨by omega, by omega, by omega, by omega⟩

/-- Four parts are a word. -/
theorem wd_of (x0 x1 x2 x3 : Int) (a0 : 0 ≤ x0) (a1 : 0 ≤ x1) (a2 : 0 ≤ x2) (a3 : 0 ≤ x3) (b0 : x0 < 18446744073709551616) (b1 : x1 < 18446744073709551616) (b2 : x2 < 18446744073709551616) (b3 : x3 < 18446744073709551616) :
    ∃ n : Nat, n < M ∧ lim n 0 = x0 ∧ lim n 1 = x1 ∧ lim n 2 = x2 ∧ lim n 3 = x3 := by
  refine ⟨(x0 + x1 * 18446744073709551616 + x2 * 340282366920938463463374607431768211456 + x3 * 6277101735386680763835789423207666416102355444464034512896).toNat, by unfold M; omega, lim_of _ x0 x1 x2 x3 a0 a1 a2 a3 b0 b1 b2 b3 (by omega)⟩

/-- Two words of the same parts are one number. -/
theorem lim_inj (m n : Nat) (hm : m < M) (hn : n < M) (h0 : lim m 0 = lim n 0) (h1 : lim m 1 = lim n 1) (h2 : lim m 2 = lim n 2) (h3 : lim m 3 = lim n 3) : m = n := by
  have a := lim_sum m hm
  have b := lim_sum n hn
  rw [h0, h1, h2, h3, ← b] at a
  omega

def aL (x y c : Int) : Int := (x + y + c) % 18446744073709551616
def aH (x y c : Int) : Int := (x + y + c) / 18446744073709551616
theorem aL0 (x y c : Int) : 0 ≤ aL x y c := by unfold aL; omega
theorem aL1 (x y c : Int) : aL x y c < 18446744073709551616 := by unfold aL; omega
theorem aH0 (x y c : Int) (hx : 0 ≤ x) (hy : 0 ≤ y) (hc : 0 ≤ c) : 0 ≤ aH x y c := by unfold aH; omega
theorem aH1 (x y c : Int) (hx : x < 18446744073709551616) (hy : y < 18446744073709551616) (hc : c ≤ 1) : aH x y c ≤ 1 := by unfold aH; omega
theorem aE (x y c : Int) : x + y + c = aL x y c + aH x y c * 18446744073709551616 := by unfold aL aH; omega

def sL (x y c : Int) : Int := (x - y - c) % 18446744073709551616
def sH (x y c : Int) : Int := if x < y + c then 1 else 0
theorem sL0 (x y c : Int) : 0 ≤ sL x y c := by unfold sL; omega
theorem sL1 (x y c : Int) : sL x y c < 18446744073709551616 := by unfold sL; omega
theorem sH0 (x y c : Int) : 0 ≤ sH x y c := by unfold sH; split <;> decide
theorem sH1 (x y c : Int) : sH x y c ≤ 1 := by unfold sH; split <;> decide
theorem sE (x y c : Int) (hx : 0 ≤ x) (hy : 0 ≤ y) (hc : 0 ≤ c) (hx' : x < 18446744073709551616) (hy' : y < 18446744073709551616) (hc' : c ≤ 1) : x - y - c = sL x y c - sH x y c * 18446744073709551616 := by unfold sL sH; split <;> omega

/-- The sum, part by part. -/
theorem sum_lim (a b : Nat) (ha : a < M) (hb : b < M) :
    lim ((a + b) % M) 0 = aL (lim a 0) (lim b 0) 0 ∧ lim ((a + b) % M) 1 = aL (lim a 1) (lim b 1) (aH (lim a 0) (lim b 0) 0) ∧
    lim ((a + b) % M) 2 = aL (lim a 2) (lim b 2) (aH (lim a 1) (lim b 1) (aH (lim a 0) (lim b 0) 0)) ∧
    lim ((a + b) % M) 3 = aL (lim a 3) (lim b 3) (aH (lim a 2) (lim b 2) (aH (lim a 1) (lim b 1) (aH (lim a 0) (lim b 0) 0))) ∧
    (((a + b) / M : Nat) : Int) = aH (lim a 3) (lim b 3) (aH (lim a 2) (lim b 2) (aH (lim a 1) (lim b 1) (aH (lim a 0) (lim b 0) 0))) := by
  have sa := lim_sum a ha; have sb := lim_sum b hb
  have e0 := aE (lim a 0) (lim b 0) 0
  have e1 := aE (lim a 1) (lim b 1) (aH (lim a 0) (lim b 0) 0)
  have e2 := aE (lim a 2) (lim b 2) (aH (lim a 1) (lim b 1) (aH (lim a 0) (lim b 0) 0))
  have e3 := aE (lim a 3) (lim b 3) (aH (lim a 2) (lim b 2) (aH (lim a 1) (lim b 1) (aH (lim a 0) (lim b 0) 0)))
  have l0 := aL0 (lim a 0) (lim b 0) 0; have u0 := aL1 (lim a 0) (lim b 0) 0
  have l1 := aL0 (lim a 1) (lim b 1) (aH (lim a 0) (lim b 0) 0); have u1 := aL1 (lim a 1) (lim b 1) (aH (lim a 0) (lim b 0) 0)
  have l2 := aL0 (lim a 2) (lim b 2) (aH (lim a 1) (lim b 1) (aH (lim a 0) (lim b 0) 0)); have u2 := aL1 (lim a 2) (lim b 2) (aH (lim a 1) (lim b 1) (aH (lim a 0) (lim b 0) 0))
  have l3 := aL0 (lim a 3) (lim b 3) (aH (lim a 2) (lim b 2) (aH (lim a 1) (lim b 1) (aH (lim a 0) (lim b 0) 0))); have u3 := aL1 (lim a 3) (lim b 3) (aH (lim a 2) (lim b 2) (aH (lim a 1) (lim b 1) (aH (lim a 0) (lim b 0) 0)))
  generalize aH (lim a 3) (lim b 3) (aH (lim a 2) (lim b 2) (aH (lim a 1) (lim b 1) (aH (lim a 0) (lim b 0) 0))) = c3 at *
  generalize aL (lim a 3) (lim b 3) (aH (lim a 2) (lim b 2) (aH (lim a 1) (lim b 1) (aH (lim a 0) (lim b 0) 0))) = s3 at *
  generalize aL (lim a 2) (lim b 2) (aH (lim a 1) (lim b 1) (aH (lim a 0) (lim b 0) 0)) = s2 at *
  generalize aH (lim a 2) (lim b 2) (aH (lim a 1) (lim b 1) (aH (lim a 0) (lim b 0) 0)) = c2 at *
  generalize aL (lim a 1) (lim b 1) (aH (lim a 0) (lim b 0) 0) = s1 at *
  generalize aH (lim a 1) (lim b 1) (aH (lim a 0) (lim b 0) 0) = c1 at *
  generalize aL (lim a 0) (lim b 0) 0 = s0 at *
  generalize aH (lim a 0) (lim b 0) 0 = c0 at *
  have tot : ((a + b : Nat) : Int) = s0 + s1 * 18446744073709551616 + s2 * 340282366920938463463374607431768211456 + s3 * 6277101735386680763835789423207666416102355444464034512896 + c3 * 115792089237316195423570985008687907853269984665640564039457584007913129639936 := by omega
  clear sa sb e0 e1 e2 e3
  have hm : (((a + b) % M : Nat) : Int) = s0 + s1 * 18446744073709551616 + s2 * 340282366920938463463374607431768211456 + s3 * 6277101735386680763835789423207666416102355444464034512896 := by unfold M; omega
  have hd : (((a + b) / M : Nat) : Int) = c3 := by unfold M; omega
  obtain ⟨h0, h1, h2, h3⟩ := lim_of _ s0 s1 s2 s3 l0 l1 l2 l3 u0 u1 u2 u3 hm
  exact ⟨h0, h1, h2, h3, hd⟩

/-- The difference, part by part. -/
theorem sub_lim (a b : Nat) (ha : a < M) (hb : b < M) :
    lim ((a + M - b) % M) 0 = sL (lim a 0) (lim b 0) 0 ∧ lim ((a + M - b) % M) 1 = sL (lim a 1) (lim b 1) (sH (lim a 0) (lim b 0) 0) ∧
    lim ((a + M - b) % M) 2 = sL (lim a 2) (lim b 2) (sH (lim a 1) (lim b 1) (sH (lim a 0) (lim b 0) 0)) ∧
    lim ((a + M - b) % M) 3 = sL (lim a 3) (lim b 3) (sH (lim a 2) (lim b 2) (sH (lim a 1) (lim b 1) (sH (lim a 0) (lim b 0) 0))) := by
  have sa := lim_sum a ha; have sb := lim_sum b hb
  have r0 := sH0 (lim a 0) (lim b 0) 0; have t0 := sH1 (lim a 0) (lim b 0) 0
  have r1 := sH0 (lim a 1) (lim b 1) (sH (lim a 0) (lim b 0) 0); have t1 := sH1 (lim a 1) (lim b 1) (sH (lim a 0) (lim b 0) 0)
  have r2 := sH0 (lim a 2) (lim b 2) (sH (lim a 1) (lim b 1) (sH (lim a 0) (lim b 0) 0)); have t2 := sH1 (lim a 2) (lim b 2) (sH (lim a 1) (lim b 1) (sH (lim a 0) (lim b 0) 0))
  have r3 := sH0 (lim a 3) (lim b 3) (sH (lim a 2) (lim b 2) (sH (lim a 1) (lim b 1) (sH (lim a 0) (lim b 0) 0))); have t3 := sH1 (lim a 3) (lim b 3) (sH (lim a 2) (lim b 2) (sH (lim a 1) (lim b 1) (sH (lim a 0) (lim b 0) 0)))
  have e0 := sE (lim a 0) (lim b 0) 0 (lim_nn _ _) (lim_nn _ _) (by decide) (lim_lt _ _) (lim_lt _ _) (by decide)
  have e1 := sE (lim a 1) (lim b 1) _ (lim_nn _ _) (lim_nn _ _) r0 (lim_lt _ _) (lim_lt _ _) t0
  have e2 := sE (lim a 2) (lim b 2) _ (lim_nn _ _) (lim_nn _ _) r1 (lim_lt _ _) (lim_lt _ _) t1
  have e3 := sE (lim a 3) (lim b 3) _ (lim_nn _ _) (lim_nn _ _) r2 (lim_lt _ _) (lim_lt _ _) t2
  have l0 := sL0 (lim a 0) (lim b 0) 0; have u0 := sL1 (lim a 0) (lim b 0) 0
  have l1 := sL0 (lim a 1) (lim b 1) (sH (lim a 0) (lim b 0) 0); have u1 := sL1 (lim a 1) (lim b 1) (sH (lim a 0) (lim b 0) 0)
  have l2 := sL0 (lim a 2) (lim b 2) (sH (lim a 1) (lim b 1) (sH (lim a 0) (lim b 0) 0)); have u2 := sL1 (lim a 2) (lim b 2) (sH (lim a 1) (lim b 1) (sH (lim a 0) (lim b 0) 0))
  have l3 := sL0 (lim a 3) (lim b 3) (sH (lim a 2) (lim b 2) (sH (lim a 1) (lim b 1) (sH (lim a 0) (lim b 0) 0))); have u3 := sL1 (lim a 3) (lim b 3) (sH (lim a 2) (lim b 2) (sH (lim a 1) (lim b 1) (sH (lim a 0) (lim b 0) 0)))
  generalize sH (lim a 3) (lim b 3) (sH (lim a 2) (lim b 2) (sH (lim a 1) (lim b 1) (sH (lim a 0) (lim b 0) 0))) = c3 at *
  generalize sL (lim a 3) (lim b 3) (sH (lim a 2) (lim b 2) (sH (lim a 1) (lim b 1) (sH (lim a 0) (lim b 0) 0))) = s3 at *
  generalize sL (lim a 2) (lim b 2) (sH (lim a 1) (lim b 1) (sH (lim a 0) (lim b 0) 0)) = s2 at *
  generalize sH (lim a 2) (lim b 2) (sH (lim a 1) (lim b 1) (sH (lim a 0) (lim b 0) 0)) = c2 at *
  generalize sL (lim a 1) (lim b 1) (sH (lim a 0) (lim b 0) 0) = s1 at *
  generalize sH (lim a 1) (lim b 1) (sH (lim a 0) (lim b 0) 0) = c1 at *
  generalize sL (lim a 0) (lim b 0) 0 = s0 at *
  generalize sH (lim a 0) (lim b 0) 0 = c0 at *
  have tot : (a : Int) - b = s0 + s1 * 18446744073709551616 + s2 * 340282366920938463463374607431768211456 + s3 * 6277101735386680763835789423207666416102355444464034512896 - c3 * 115792089237316195423570985008687907853269984665640564039457584007913129639936 := by omega
  clear sa sb e0 e1 e2 e3
  have hm : (((a + M - b) % M : Nat) : Int) = s0 + s1 * 18446744073709551616 + s2 * 340282366920938463463374607431768211456 + s3 * 6277101735386680763835789423207666416102355444464034512896 := by unfold M at *; omega
  exact lim_of _ s0 s1 s2 s3 l0 l1 l2 l3 u0 u1 u2 u3 hm

end Go.Proofs.Ytbephahokhnccaa

namespace Go.Proofs.Ytbephahokhnccaa

/-- Eight parts, and the number that they are. -/
structure Part8 (r0 r1 r2 r3 r4 r5 r6 r7 n : Int) : Prop where
  lo : 0 ≤ r0 ∧ 0 ≤ r1 ∧ 0 ≤ r2 ∧ 0 ≤ r3 ∧ 0 ≤ r4 ∧ 0 ≤ r5 ∧ 0 ≤ r6 ∧ 0 ≤ r7
  hi : r0 < 18446744073709551616 ∧ r1 < 18446744073709551616 ∧ r2 < 18446744073709551616 ∧ r3 < 18446744073709551616 ∧ r4 < 18446744073709551616 ∧ r5 < 18446744073709551616 ∧ r6 < 18446744073709551616 ∧ r7 < 18446744073709551616
  sum : n = r0 + r1 * 18446744073709551616 + r2 * 340282366920938463463374607431768211456 + r3 * 6277101735386680763835789423207666416102355444464034512896 + r4 * 115792089237316195423570985008687907853269984665640564039457584007913129639936 + r5 * 2135987035920910082395021706169552114602704522356652769947041607822219725780640550022962086936576 + r6 * 39402006196394479212279040100143613805079739270465446667948293404245721771497210611414266254884915640806627990306816 + r7 * 726838724295606890549323807888004534353641360687318060281490199180639288113397923326191050713763565560762521606266177933534601628614656

theorem mulr (a0 a1 a2 a3 b : Int) : (a0 + a1 * 18446744073709551616 + a2 * 340282366920938463463374607431768211456 + a3 * 6277101735386680763835789423207666416102355444464034512896) * b = a0 * b + a1 * b * 18446744073709551616 + a2 * b * 340282366920938463463374607431768211456 + a3 * b * 6277101735386680763835789423207666416102355444464034512896 := by
  rw [Int.add_mul, Int.add_mul, Int.add_mul, Int.mul_right_comm a1, Int.mul_right_comm a2, Int.mul_right_comm a3]
theorem mull (A b0 b1 b2 b3 : Int) : A * (b0 + b1 * 18446744073709551616 + b2 * 340282366920938463463374607431768211456 + b3 * 6277101735386680763835789423207666416102355444464034512896) = A * b0 + A * b1 * 18446744073709551616 + A * b2 * 340282366920938463463374607431768211456 + A * b3 * 6277101735386680763835789423207666416102355444464034512896 := by
  rw [Int.mul_add, Int.mul_add, Int.mul_add, ← Int.mul_assoc, ← Int.mul_assoc, ← Int.mul_assoc]

theorem prod_plain (a0 a1 a2 a3 b0 b1 b2 b3 h00 l00 h01 l01 h02 l02 h03 l03 h10 l10 h11 l11 h12 l12 h13 l13 h20 l20 h21 l21 h22 l22 h23 l23 h30 l30 h31 l31 h32 l32 h33 l33 : Int)
    (lo : 0 ≤ l00 ∧ 0 ≤ l10 ∧ 0 ≤ l20 ∧ 0 ≤ l30 ∧ 0 ≤ l31 ∧ 0 ≤ l32 ∧ 0 ≤ l33 ∧ 0 ≤ h33)
    (hi : l00 < 18446744073709551616 ∧ l10 < 18446744073709551616 ∧ l20 < 18446744073709551616 ∧ l30 < 18446744073709551616 ∧ l31 < 18446744073709551616 ∧ l32 < 18446744073709551616 ∧ l33 < 18446744073709551616 ∧ h33 < 18446744073709551616)
    (e00 : h00 * 18446744073709551616 + l00 = a0 * b0 + 0 + 0) (e01 : h01 * 18446744073709551616 + l01 = a0 * b1 + 0 + h00) (e02 : h02 * 18446744073709551616 + l02 = a0 * b2 + 0 + h01) (e03 : h03 * 18446744073709551616 + l03 = a0 * b3 + 0 + h02) (e10 : h10 * 18446744073709551616 + l10 = a1 * b0 + l01 + 0) (e11 : h11 * 18446744073709551616 + l11 = a1 * b1 + l02 + h10) (e12 : h12 * 18446744073709551616 + l12 = a1 * b2 + l03 + h11) (e13 : h13 * 18446744073709551616 + l13 = a1 * b3 + h03 + h12) (e20 : h20 * 18446744073709551616 + l20 = a2 * b0 + l11 + 0) (e21 : h21 * 18446744073709551616 + l21 = a2 * b1 + l12 + h20) (e22 : h22 * 18446744073709551616 + l22 = a2 * b2 + l13 + h21) (e23 : h23 * 18446744073709551616 + l23 = a2 * b3 + h13 + h22) (e30 : h30 * 18446744073709551616 + l30 = a3 * b0 + l21 + 0) (e31 : h31 * 18446744073709551616 + l31 = a3 * b1 + l22 + h30) (e32 : h32 * 18446744073709551616 + l32 = a3 * b2 + l23 + h31) (e33 : h33 * 18446744073709551616 + l33 = a3 * b3 + h23 + h32) :
    Part8 l00 l10 l20 l30 l31 l32 l33 h33 ((a0 + a1 * 18446744073709551616 + a2 * 340282366920938463463374607431768211456 + a3 * 6277101735386680763835789423207666416102355444464034512896) * (b0 + b1 * 18446744073709551616 + b2 * 340282366920938463463374607431768211456 + b3 * 6277101735386680763835789423207666416102355444464034512896)) := by
  refine ⟨lo, hi, ?_⟩
  rw [mull, mulr a0 a1 a2 a3 b0, mulr a0 a1 a2 a3 b1, mulr a0 a1 a2 a3 b2, mulr a0 a1 a2 a3 b3]
  clear lo hi
  omega

theorem lim8_of (n : Nat) (r0 r1 r2 r3 r4 r5 r6 r7 : Int) (h : Part8 r0 r1 r2 r3 r4 r5 r6 r7 n) : lim n 0 = r0 ∧ lim n 1 = r1 ∧ lim n 2 = r2 ∧ lim n 3 = r3 ∧ lim n 4 = r4 ∧ lim n 5 = r5 ∧ lim n 6 = r6 ∧ lim n 7 = r7 := by
  obtain ⟨⟨a0, a1, a2, a3, a4, a5, a6, a7⟩, ⟨b0, b1, b2, b3, b4, b5, b6, b7⟩, s⟩ := h
  unfold lim
  simp only [Nat.pow_zero, Nat.pow_one, Nat.div_one, Nat.reducePow]
  refine ⟨by omega, by omega, by omega, by omega, by omega, by omega, by omega, by omega⟩

/-- A number as eight parts. -/
abbrev dbl (n : Nat) : Value := .agg #[.int .u64 (lim n 0), .int .u64 (lim n 1), .int .u64 (lim n 2), .int .u64 (lim n 3), .int .u64 (lim n 4), .int .u64 (lim n 5), .int .u64 (lim n 6), .int .u64 (lim n 7)]

/-- The lowest four parts are those of the rest. -/
theorem lim_mod (n : Nat) : lim (n % M) 0 = lim n 0 ∧ lim (n % M) 1 = lim n 1 ∧ lim (n % M) 2 = lim n 2 ∧ lim (n % M) 3 = lim n 3 := by
  unfold lim M
  simp only [Nat.pow_zero, Nat.pow_one, Nat.div_one, Nat.reducePow]
  refine ⟨by omega, by omega, by omega, by omega⟩

end Go.Proofs.Ytbephahokhnccaa

