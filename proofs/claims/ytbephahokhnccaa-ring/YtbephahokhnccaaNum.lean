/-
  Plain arithmetic of words of four parts: no program in sight.
-/
import Derived.RowKit
namespace Go.Proofs.Ytbephahokhnccaa

/-- 2^256. -/
def M : Nat := 115792089237316195423570985008687907853269984665640564039457584007913129639936
/-- The i-th part of a number. -/
def lim (n i : Nat) : Int := ((n / 18446744073709551616 ^ i % 18446744073709551616 : Nat) : Int)
/-- A number as a word. -/
abbrev wd (n : Nat) : Value := .agg #[.int .u64 (lim n 0), .int .u64 (lim n 1), .int .u64 (lim n 2), .int .u64 (lim n 3)]

theorem lim_nn (n i : Nat) : 0 ≤ lim n i := Int.natCast_nonneg _
theorem lim_lt (n i : Nat) : lim n i < 18446744073709551616 := by
  have := Nat.mod_lt (n / 18446744073709551616 ^ i) (y := 18446744073709551616) (by decide)
  unfold lim; omega

theorem lim_sum (n : Nat) (h : n < M) : (n : Int) = lim n 0 + lim n 1 * 18446744073709551616 + lim n 2 * 340282366920938463463374607431768211456 + lim n 3 * 6277101735386680763835789423207666416102355444464034512896 := by
  unfold lim M at *
  simp only [Nat.pow_zero, Nat.pow_one, Nat.div_one, Nat.reducePow]
  omega

/-- What has these four parts is this number. -/
theorem lim_of (n : Nat) (x0 x1 x2 x3 : Int) (a0 : 0 ≤ x0) (a1 : 0 ≤ x1) (a2 : 0 ≤ x2) (a3 : 0 ≤ x3) (b0 : x0 < 18446744073709551616) (b1 : x1 < 18446744073709551616) (b2 : x2 < 18446744073709551616) (b3 : x3 < 18446744073709551616)
    (h : (n : Int) = x0 + x1 * 18446744073709551616 + x2 * 340282366920938463463374607431768211456 + x3 * 6277101735386680763835789423207666416102355444464034512896) :
    lim n 0 = x0 ∧ lim n 1 = x1 ∧ lim n 2 = x2 ∧ lim n 3 = x3 := by
  unfold lim
  simp only [Nat.pow_zero, Nat.pow_one, Nat.div_one, Nat.reducePow]
  refine ⟨by omega, by omega, by omega, by omega⟩

/-- Four parts are a word. -/
theorem wd_of (x0 x1 x2 x3 : Int) (a0 : 0 ≤ x0) (a1 : 0 ≤ x1) (a2 : 0 ≤ x2) (a3 : 0 ≤ x3) (b0 : x0 < 18446744073709551616) (b1 : x1 < 18446744073709551616) (b2 : x2 < 18446744073709551616) (b3 : x3 < 18446744073709551616) :
    ∃ n : Nat, n < M ∧ lim n 0 = x0 ∧ lim n 1 = x1 ∧ lim n 2 = x2 ∧ lim n 3 = x3 := by
  refine ⟨(x0 + x1 * 18446744073709551616 + x2 * 340282366920938463463374607431768211456 + x3 * 6277101735386680763835789423207666416102355444464034512896).toNat, by unfold M; omega, lim_of _ x0 x1 x2 x3 a0 a1 a2 a3 b0 b1 b2 b3 (by omega)⟩

/-- Two words of the same parts are one number. -/
theorem lim_inj (m n : Nat) (hm : m < M) (hn : n < M) (h0 : lim m 0 = lim n 0) (h1 : lim m 1 = lim n 1) (h2 : lim m 2 = lim n 2) (h3 : lim m 3 = lim n 3) : m = n := by
  have a := lim_sum m hm
  have b := lim_sum n hn
  rw [h0, h1, h2, h3, ← b] at a
  omega

def aL (x y c : Int) : Int := (x + y + c) % 18446744073709551616
def aH (x y c : Int) : Int := (x + y + c) / 18446744073709551616
theorem aL0 (x y c : Int) : 0 ≤ aL x y c := by unfold aL; omega
theorem aL1 (x y c : Int) : aL x y c < 18446744073709551616 := by unfold aL; omega
theorem aH0 (x y c : Int) (hx : 0 ≤ x) (hy : 0 ≤ y) (hc : 0 ≤ c) : 0 ≤ aH x y c := by unfold aH; omega
theorem aH1 (x y c : Int) (hx : x < 18446744073709551616) (hy : y < 18446744073709551616) (hc : c ≤ 1) : aH x y c ≤ 1 := by unfold aH; omega
theorem aE (x y c : Int) : x + y + c = aL x y c + aH x y c * 18446744073709551616 := by unfold aL aH; omega

def sL (x y c : Int) : Int := (x - y - c) % 18446744073709551616
def sH (x y c : Int) : Int := if x < y + c then 1 else 0
theorem sL0 (x y c : Int) : 0 ≤ sL x y c := by unfold sL; omega
theorem sL1 (x y c : Int) : sL x y c < 18446744073709551616 := by unfold sL; omega
theorem sH0 (x y c : Int) : 0 ≤ sH x y c := by unfold sH; split <;> decide
theorem sH1 (x y c : Int) : sH x y c ≤ 1 := by unfold sH; split <;> decide
theorem sE (x y c : Int) (hx : 0 ≤ x) (hy : 0 ≤ y) (hc : 0 ≤ c) (hx' : x < 18446744073709551616) (hy' : y < 18446744073709551616) (hc' : c ≤ 1) : x - y - c = sL x y c - sH x y c * 18446744073709551616 := by unfold sL sH; split <;> omega

/-- The sum, part by part. -/
theorem sum_lim (a b : Nat) (ha : a < M) (hb : b < M) :
    lim ((a + b) % M) 0 = aL (lim a 0) (lim b 0) 0 ∧ lim ((a + b) % M) 1 = aL (lim a 1) (lim b 1) (aH (lim a 0) (lim b 0) 0) ∧
    lim ((a + b) % M) 2 = aL (lim a 2) (lim b 2) (aH (lim a 1) (lim b 1) (aH (lim a 0) (lim b 0) 0)) ∧
    lim ((a + b) % M) 3 = aL (lim a 3) (lim b 3) (aH (lim a 2) (lim b 2) (aH (lim a 1) (lim b 1) (aH (lim a 0) (lim b 0) 0))) ∧
    (((a + b) / M : Nat) : Int) = aH (lim a 3) (lim b 3) (aH (lim a 2) (lim b 2) (aH (lim a 1) (lim b 1) (aH (lim a 0) (lim b 0) 0))) := by
  have sa := lim_sum a ha; have sb := lim_sum b hb
  have e0 := aE (lim a 0) (lim b 0) 0
  have e1 := aE (lim a 1) (lim b 1) (aH (lim a 0) (lim b 0) 0)
  have e2 := aE (lim a 2) (lim b 2) (aH (lim a 1) (lim b 1) (aH (lim a 0) (lim b 0) 0))
  have e3 := aE (lim a 3) (lim b 3) (aH (lim a 2) (lim b 2) (aH (lim a 1) (lim b 1) (aH (lim a 0) (lim b 0) 0)))
  have l0 := aL0 (lim a 0) (lim b 0) 0; have u0 := aL1 (lim a 0) (lim b 0) 0
  have l1 := aL0 (lim a 1) (lim b 1) (aH (lim a 0) (lim b 0) 0); have u1 := aL1 (lim a 1) (lim b 1) (aH (lim a 0) (lim b 0) 0)
  have l2 := aL0 (lim a 2) (lim b 2) (aH (lim a 1) (lim b 1) (aH (lim a 0) (lim b 0) 0)); have u2 := aL1 (lim a 2) (lim b 2) (aH (lim a 1) (lim b 1) (aH (lim a 0) (lim b 0) 0))
  have l3 := aL0 (lim a 3) (lim b 3) (aH (lim a 2) (lim b 2) (aH (lim a 1) (lim b 1) (aH (lim a 0) (lim b 0) 0))); have u3 := aL1 (lim a 3) (lim b 3) (aH (lim a 2) (lim b 2) (aH (lim a 1) (lim b 1) (aH (lim a 0) (lim b 0) 0)))
  generalize aH (lim a 3) (lim b 3) (aH (lim a 2) (lim b 2) (aH (lim a 1) (lim b 1) (aH (lim a 0) (lim b 0) 0))) = c3 at *
  generalize aL (lim a 3) (lim b 3) (aH (lim a 2) (lim b 2) (aH (lim a 1) (lim b 1) (aH (lim a 0) (lim b 0) 0))) = s3 at *
  generalize aL (lim a 2) (lim b 2) (aH (lim a 1) (lim b 1) (aH (lim a 0) (lim b 0) 0)) = s2 at *
  generalize aH (lim a 2) (lim b 2) (aH (lim a 1) (lim b 1) (aH (lim a 0) (lim b 0) 0)) = c2 at *
  generalize aL (lim a 1) (lim b 1) (aH (lim a 0) (lim b 0) 0) = s1 at *
  generalize aH (lim a 1) (lim b 1) (aH (lim a 0) (lim b 0) 0) = c1 at *
  generalize aL (lim a 0) (lim b 0) 0 = s0 at *
  generalize aH (lim a 0) (lim b 0) 0 = c0 at *
  have tot : ((a + b : Nat) : Int) = s0 + s1 * 18446744073709551616 + s2 * 340282366920938463463374607431768211456 + s3 * 6277101735386680763835789423207666416102355444464034512896 + c3 * 115792089237316195423570985008687907853269984665640564039457584007913129639936 := by omega
  clear sa sb e0 e1 e2 e3
  have hm : (((a + b) % M : Nat) : Int) = s0 + s1 * 18446744073709551616 + s2 * 340282366920938463463374607431768211456 + s3 * 6277101735386680763835789423207666416102355444464034512896 := by unfold M; omega
  have hd : (((a + b) / M : Nat) : Int) = c3 := by unfold M; omega
  obtain ⟨h0, h1, h2, h3⟩ := lim_of _ s0 s1 s2 s3 l0 l1 l2 l3 u0 u1 u2 u3 hm
  exact ⟨h0, h1, h2, h3, hd⟩

/-- The difference, part by part. -/
theorem sub_lim (a b : Nat) (ha : a < M) (hb : b < M) :
    lim ((a + M - b) % M) 0 = sL (lim a 0) (lim b 0) 0 ∧ lim ((a + M - b) % M) 1 = sL (lim a 1) (lim b 1) (sH (lim a 0) (lim b 0) 0) ∧
    lim ((a + M - b) % M) 2 = sL (lim a 2) (lim b 2) (sH (lim a 1) (lim b 1) (sH (lim a 0) (lim b 0) 0)) ∧
    lim ((a + M - b) % M) 3 = sL (lim a 3) (lim b 3) (sH (lim a 2) (lim b 2) (sH (lim a 1) (lim b 1) (sH (lim a 0) (lim b 0) 0))) := by
  have sa := lim_sum a ha; have sb := lim_sum b hb
  have r0 := sH0 (lim a 0) (lim b 0) 0; have t0 := sH1 (lim a 0) (lim b 0) 0
  have r1 := sH0 (lim a 1) (lim b 1) (sH (lim a 0) (lim b 0) 0); have t1 := sH1 (lim a 1) (lim b 1) (sH (lim a 0) (lim b 0) 0)
  have r2 := sH0 (lim a 2) (lim b 2) (sH (lim a 1) (lim b 1) (sH (lim a 0) (lim b 0) 0)); have t2 := sH1 (lim a 2) (lim b 2) (sH (lim a 1) (lim b 1) (sH (lim a 0) (lim b 0) 0))
  have r3 := sH0 (lim a 3) (lim b 3) (sH (lim a 2) (lim b 2) (sH (lim a 1) (lim b 1) (sH (lim a 0) (lim b 0) 0))); have t3 := sH1 (lim a 3) (lim b 3) (sH (lim a 2) (lim b 2) (sH (lim a 1) (lim b 1) (sH (lim a 0) (lim b 0) 0)))
  have e0 := sE (lim a 0) (lim b 0) 0 (lim_nn _ _) (lim_nn _ _) (by decide) (lim_lt _ _) (lim_lt _ _) (by decide)
  have e1 := sE (lim a 1) (lim b 1) _ (lim_nn _ _) (lim_nn _ _) r0 (lim_lt _ _) (lim_lt _ _) t0
  have e2 := sE (lim a 2) (lim b 2) _ (lim_nn _ _) (lim_nn _ _) r1 (lim_lt _ _) (lim_lt _ _) t1
  have e3 := sE (lim a 3) (lim b 3) _ (lim_nn _ _) (lim_nn _ _) r2 (lim_lt _ _) (lim_lt _ _) t2
  have l0 := sL0 (lim a 0) (lim b 0) 0; have u0 := sL1 (lim a 0) (lim b 0) 0
  have l1 := sL0 (lim a 1) (lim b 1) (sH (lim a 0) (lim b 0) 0); have u1 := sL1 (lim a 1) (lim b 1) (sH (lim a 0) (lim b 0) 0)
  have l2 := sL0 (lim a 2) (lim b 2) (sH (lim a 1) (lim b 1) (sH (lim a 0) (lim b 0) 0)); have u2 := sL1 (lim a 2) (lim b 2) (sH (lim a 1) (lim b 1) (sH (lim a 0) (lim b 0) 0))
  have l3 := sL0 (lim a 3) (lim b 3) (sH (lim a 2) (lim b 2) (sH (lim a 1) (lim b 1) (sH (lim a 0) (lim b 0) 0))); have u3 := sL1 (lim a 3) (lim b 3) (sH (lim a 2) (lim b 2) (sH (lim a 1) (lim b 1) (sH (lim a 0) (lim b 0) 0)))
  generalize sH (lim a 3) (lim b 3) (sH (lim a 2) (lim b 2) (sH (lim a 1) (lim b 1) (sH (lim a 0) (lim b 0) 0))) = c3 at *
  generalize sL (lim a 3) (lim b 3) (sH (lim a 2) (lim b 2) (sH (lim a 1) (lim b 1) (sH (lim a 0) (lim b 0) 0))) = s3 at *
  generalize sL (lim a 2) (lim b 2) (sH (lim a 1) (lim b 1) (sH (lim a 0) (lim b 0) 0)) = s2 at *
  generalize sH (lim a 2) (lim b 2) (sH (lim a 1) (lim b 1) (sH (lim a 0) (lim b 0) 0)) = c2 at *
  generalize sL (lim a 1) (lim b 1) (sH (lim a 0) (lim b 0) 0) = s1 at *
  generalize sH (lim a 1) (lim b 1) (sH (lim a 0) (lim b 0) 0) = c1 at *
  generalize sL (lim a 0) (lim b 0) 0 = s0 at *
  generalize sH (lim a 0) (lim b 0) 0 = c0 at *
  have tot : (a : Int) - b = s0 + s1 * 18446744073709551616 + s2 * 340282366920938463463374607431768211456 + s3 * 6277101735386680763835789423207666416102355444464034512896 - c3 * 115792089237316195423570985008687907853269984665640564039457584007913129639936 := by omega
  clear sa sb e0 e1 e2 e3
  have hm : (((a + M - b) % M : Nat) : Int) = s0 + s1 * 18446744073709551616 + s2 * 340282366920938463463374607431768211456 + s3 * 6277101735386680763835789423207666416102355444464034512896 := by unfold M at *; omega
  exact lim_of _ s0 s1 s2 s3 l0 l1 l2 l3 u0 u1 u2 u3 hm

end Go.Proofs.Ytbephahokhnccaa
