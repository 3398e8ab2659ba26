/-
  Plain arithmetic: a guessed digit of a quotient, mended. No program in sight.
-/
import Derived.RowKit
import Derived.Below
namespace Go.Proofs.Ytbephahokhnccaa
open Go.RowKit

/-- What is known of the digit Q: it is the quotient of u W + v by y. -/
structure Digit (Q u v y : Int) : Prop where
  le : Q * y ≤ u * 4294967296 + v
  lt : u * 4294967296 + v < Q * y + y

theorem mul_y (q yh yl : Int) : q * (yh * 4294967296 + yl) = q * yh * 4294967296 + q * yl := by rw [Int.mul_add, ← Int.mul_assoc]

theorem digit_le {q Q y u v : Int} (hy : 0 < y) (d : Digit Q u v y) (h : q * y ≤ u * 4294967296 + v) : q ≤ Q := by
  rcases Int.lt_or_le Q q with c | c
  · exfalso
    have := Int.mul_le_mul_of_nonneg_right (show Q + 1 ≤ q by omega) (show 0 ≤ y by omega)
    rw [Int.add_mul, Int.one_mul] at this
    have := d.lt
    omega
  · exact c
theorem digit_lt {q Q y u v : Int} (hy : 0 < y) (d : Digit Q u v y) (h : u * 4294967296 + v < q * y) : Q < q := by
  rcases Int.lt_or_le Q q with c | c
  · exact c
  · exfalso
    have := Int.mul_le_mul_of_nonneg_right c (show 0 ≤ y by omega)
    have := d.le
    omega

theorem digit_stop {q Q r u v y yh yl : Int} (hy : 0 < y) (e : y = yh * 4294967296 + yl) (d : Digit Q u v y) (eq : q * yh + r = u) (hQ : Q ≤ q) (h : q * yl ≤ 4294967296 * r + v) : q = Q := by
  have a : q * y ≤ u * 4294967296 + v := by
    rw [e, mul_y]
    generalize q * yh = p at *
    generalize q * yl = s at *
    omega
  have := digit_le hy d a
  omega
theorem digit_more {q Q r u v y yh yl : Int} (hy : 0 < y) (e : y = yh * 4294967296 + yl) (d : Digit Q u v y) (eq : q * yh + r = u) (h : 4294967296 * r + v < q * yl) : Q < q := by
  apply digit_lt hy d
  rw [e, mul_y]
  generalize q * yh = p at *
  generalize q * yl = s at *
  omega
theorem digit_break {q Q r u v y yh yl : Int} (hy : 0 < y) (e : y = yh * 4294967296 + yl) (l0 : 0 ≤ yl) (l1 : yl < 4294967296) (hv : 0 ≤ v) (d : Digit Q u v y) (eq : q * yh + r = u) (hq : q ≤ 4294967297) (hq0 : 1 ≤ q) (hQ : Q < q) (h : 4294967296 ≤ r + yh) : q - 1 = Q := by
  have b : (q - 1) * yl ≤ 4294967296 * 4294967295 := by
    have := Int.mul_le_mul (show q - 1 ≤ 4294967296 by omega) (show yl ≤ 4294967295 by omega) l0 (by decide)
    exact this
  have a : (q - 1) * y ≤ u * 4294967296 + v := by
    rw [e, mul_y, Int.sub_mul q 1 yh, Int.one_mul]
    generalize q * yh = p at *
    generalize (q - 1) * yl = s at *
    omega
  have := digit_le hy d a
  omega

/-- The digit is there, and is one. -/
theorem digit_ex (u v y : Int) (hu : 0 ≤ u) (huy : u < y) (hv : 0 ≤ v) (hv' : v < 4294967296) : ∃ Q : Int, Digit Q u v y ∧ 0 ≤ Q ∧ Q < 4294967296 := by
  have e1 := Int.ediv_mul_add_emod (u * 4294967296 + v) y
  have r0 := Int.emod_nonneg (u * 4294967296 + v) (show y ≠ 0 by omega)
  have r1 := Int.emod_lt_of_pos (u * 4294967296 + v) (show 0 < y by omega)
  refine ⟨(u * 4294967296 + v) / y, ⟨by omega, by omega⟩, Int.ediv_nonneg (by omega) (by omega), ?_⟩
  apply Int.ediv_lt_of_lt_mul (by omega)
  omega

theorem digit_first {q Q r u v y yh yl : Int} (hyh : 0 < yh) (e : y = yh * 4294967296 + yl) (l0 : 0 ≤ yl) (hQ0 : 0 ≤ Q) (hv' : v < 4294967296) (d : Digit Q u v y) (eq : q * yh + r = u) (hr : r < yh) : Q ≤ q := by
  rcases Int.lt_or_le q Q with c | c
  · exfalso
    have a := Int.mul_le_mul_of_nonneg_right (show q + 1 ≤ Q by omega) (show 0 ≤ yh by omega)
    rw [Int.add_mul, Int.one_mul] at a
    have b := Int.mul_nonneg hQ0 l0
    have dl := d.le
    rw [e, mul_y] at dl
    generalize Q * yh = p at *
    generalize Q * yl = s at *
    generalize q * yh = t at *
    omega
  · exact c

/-- Two digits are the quotient. -/
theorem two_digits {Q1 Q2 hi lo l1 l0 u y : Int} (hy : 0 < y) (el : lo = l1 * 4294967296 + l0) (eu : u = hi * 4294967296 + l1 - Q1 * y) (d2 : Digit Q2 u l0 y) :
    (hi * 18446744073709551616 + lo) / y = Q1 * 4294967296 + Q2 := by
  have a := d2.le
  have b := d2.lt
  have e : hi * 18446744073709551616 + lo = (Q1 * 4294967296 + Q2) * y + (hi * 18446744073709551616 + lo - (Q1 * 4294967296 + Q2) * y) := by omega
  have m : (Q1 * 4294967296 + Q2) * y = Q1 * y * 4294967296 + Q2 * y := by rw [Int.add_mul, Int.mul_right_comm]
  have c1 : 0 ≤ hi * 18446744073709551616 + lo - (Q1 * 4294967296 + Q2) * y := by
    rw [m]; generalize Q1 * y = p at *; generalize Q2 * y = s at *; omega
  have c2 : hi * 18446744073709551616 + lo - (Q1 * 4294967296 + Q2) * y < y := by
    rw [m]; generalize Q1 * y = p at *; generalize Q2 * y = s at *; omega
  rw [e, Int.add_comm, Int.add_mul_ediv_right _ _ (by omega), Int.ediv_eq_zero_of_lt c1 c2, Int.zero_add]

end Go.Proofs.Ytbephahokhnccaa
