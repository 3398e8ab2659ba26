/-
  Plain arithmetic of parts that are shifted and joined.
-/
import Derived.Test.YtbephahokhnccaaJ2
import Derived.WalkKit
import Derived.Laws.Bits64b
namespace Go.Proofs.Ytbephahokhnccaa
open Go.RowKit

theorem or_add (a b j : Nat) (ha : 2 ^ j * a < 18446744073709551616) (hj : 2 ^ j ≤ 18446744073709551616) (hb : b < 2 ^ j) : bits .or .u64 ((2 ^ j * a : Nat) : Int) (b : Int) = ((2 ^ j * a + b : Nat) : Int) := by
  rw [bits_or_u64_nat _ _ ha (by omega), Nat.two_pow_add_eq_or_of_lt hb]
theorem or_add' (a b j : Nat) (ha : 2 ^ j * a < 18446744073709551616) (hj : 2 ^ j ≤ 18446744073709551616) (hb : b < 2 ^ j) : bits .or .u64 (b : Int) ((2 ^ j * a : Nat) : Int) = ((2 ^ j * a + b : Nat) : Int) := by
  rw [bits_or_u64_nat _ _ (by omega) ha, Nat.or_comm, Nat.two_pow_add_eq_or_of_lt hb]

theorem pow_split (s : Nat) (h : s ≤ 64) : 2 ^ s * 2 ^ (64 - s) = 18446744073709551616 := by
  rw [← Nat.pow_add, show s + (64 - s) = 64 by omega]

/-- The part that is carried out of x when it is shifted up by s, and what stays. -/
def upH (s : Nat) (x : Int) : Int := x / 2 ^ (64 - s)
def upL (s : Nat) (x : Int) : Int := ((2 ^ s * (x.toNat % 2 ^ (64 - s)) : Nat) : Int)

theorem upL_wrap (s : Nat) (x : Int) (h : s ≤ 64) (p : 0 ≤ x) : IntKind.u64.wrap (x * 2 ^ s) = upL s x := by
  obtain ⟨x, rfl⟩ := Int.eq_ofNat_of_zero_le p
  have e : ((x : Int) * 2 ^ s) = ((2 ^ s * x : Nat) : Int) := by rw [Int.natCast_mul, Int.natCast_pow]; exact Int.mul_comm _ _
  have m := Nat.mul_mod_mul_left (2 ^ s) x (2 ^ (64 - s))
  rw [pow_split s h] at m
  rw [e, IntKind.wrap_u64]
  unfold upL
  rw [Int.toNat_natCast, ← m]
  omega

theorem up_nat (s x : Nat) (h : s ≤ 64) (u : x < 18446744073709551616) :
    2 ^ s * (x % 2 ^ (64 - s)) + 2 ^ s ≤ 18446744073709551616 ∧ x / 2 ^ (64 - s) < 2 ^ s ∧ x * 2 ^ s = x / 2 ^ (64 - s) * 18446744073709551616 + 2 ^ s * (x % 2 ^ (64 - s)) := by
  have e := pow_split s h
  have c := Nat.two_pow_pos s
  have d := Nat.two_pow_pos (64 - s)
  have q := Nat.div_add_mod x (2 ^ (64 - s))
  have l := Nat.mod_lt x d
  refine ⟨?_, ?_, ?_⟩
  · rw [← e, ← Nat.mul_succ]; exact Nat.mul_le_mul_left _ l
  · rw [Nat.div_lt_iff_lt_mul d, e]; exact u
  · rw [← e, Nat.mul_comm (x / 2 ^ (64 - s)), Nat.mul_assoc, ← Nat.mul_add, q, Nat.mul_comm]

theorem up_facts (s : Nat) (x : Int) (h : s ≤ 64) (p : 0 ≤ x) (u : x < 18446744073709551616) :
    0 ≤ upL s x ∧ upL s x + 2 ^ s ≤ 18446744073709551616 ∧ 0 ≤ upH s x ∧ upH s x < 2 ^ s ∧ x * 2 ^ s = upH s x * 18446744073709551616 + upL s x := by
  obtain ⟨x, rfl⟩ := Int.eq_ofNat_of_zero_le p
  obtain ⟨a, b, c⟩ := up_nat s x h (by omega)
  have e1 : upH s (x : Int) = ((x / 2 ^ (64 - s) : Nat) : Int) := by unfold upH; rw [Int.natCast_ediv, Int.natCast_pow]; rfl
  have e2 : ((2 : Int) ^ s) = ((2 ^ s : Nat) : Int) := by rw [Int.natCast_pow]; rfl
  have e3 : upL s (x : Int) = ((2 ^ s * (x % 2 ^ (64 - s)) : Nat) : Int) := by unfold upL; rw [Int.toNat_natCast]
  rw [e1, e2, e3, ← Int.natCast_mul]
  generalize x / 2 ^ (64 - s) = H at *
  generalize 2 ^ s * (x % 2 ^ (64 - s)) = L at *
  generalize x * 2 ^ s = P at *
  generalize 2 ^ s = C at *
  omega

/-- Two parts joined by 'or', shifted up. -/
theorem up_or (s : Nat) (x y : Int) (h : s ≤ 64) (p : 0 ≤ x) (u : x < 18446744073709551616) (p' : 0 ≤ y) (u' : y < 18446744073709551616) :
    bits .or .u64 (IntKind.u64.wrap (x * 2 ^ s)) (y / 2 ^ (64 - s)) = upL s x + upH s y := by
  rw [upL_wrap s x h p]
  obtain ⟨x, rfl⟩ := Int.eq_ofNat_of_zero_le p
  obtain ⟨y, rfl⟩ := Int.eq_ofNat_of_zero_le p'
  obtain ⟨a, _, _⟩ := up_nat s x h (by omega)
  obtain ⟨_, b, _⟩ := up_nat s y h (by omega)
  have c := Nat.two_pow_pos s
  have e1 : upH s (y : Int) = ((y / 2 ^ (64 - s) : Nat) : Int) := by unfold upH; rw [Int.natCast_ediv, Int.natCast_pow]; rfl
  have e3 : upL s (x : Int) = ((2 ^ s * (x % 2 ^ (64 - s)) : Nat) : Int) := by unfold upL; rw [Int.toNat_natCast]
  have e4 : ((y : Int) / 2 ^ (64 - s)) = ((y / 2 ^ (64 - s) : Nat) : Int) := by rw [Int.natCast_ediv, Int.natCast_pow]; rfl
  rw [e1, e3, e4, or_add _ _ s (by omega) (by omega) b]
  exact Int.natCast_add _ _
theorem up_or0 (s : Nat) (x : Int) (h : s ≤ 64) (p : 0 ≤ x) (u : x < 18446744073709551616) :
    bits .or .u64 (IntKind.u64.wrap (x * 2 ^ s)) 0 = upL s x := by
  have := up_or s x 0 h p u (Int.le_refl 0) (by decide)
  rw [Int.zero_ediv] at this
  rw [this]
  unfold upH
  rw [Int.zero_ediv, Int.add_zero]

/-- Two parts joined by 'or', shifted down by s: what is left of x, and what comes down from y. -/
theorem down_or (s : Nat) (x y : Int) (h : s ≤ 64) (p : 0 ≤ x) (u : x < 18446744073709551616) (p' : 0 ≤ y) (u' : y < 18446744073709551616) :
    bits .or .u64 (x / 2 ^ s) (IntKind.u64.wrap (y * 2 ^ (64 - s))) = upH (64 - s) x + upL (64 - s) y := by
  rw [upL_wrap (64 - s) y (by omega) p']
  obtain ⟨x, rfl⟩ := Int.eq_ofNat_of_zero_le p
  obtain ⟨y, rfl⟩ := Int.eq_ofNat_of_zero_le p'
  obtain ⟨a, _, _⟩ := up_nat (64 - s) y (by omega) (by omega)
  obtain ⟨_, b, _⟩ := up_nat (64 - s) x (by omega) (by omega)
  have es : 64 - (64 - s) = s := by omega
  have c := Nat.two_pow_pos (64 - s)
  have e1 : upH (64 - s) (x : Int) = ((x / 2 ^ s : Nat) : Int) := by unfold upH; rw [es, Int.natCast_ediv, Int.natCast_pow]; rfl
  have e3 : upL (64 - s) (y : Int) = ((2 ^ (64 - s) * (y % 2 ^ s) : Nat) : Int) := by unfold upL; rw [Int.toNat_natCast, es]
  have e4 : ((x : Int) / 2 ^ s) = ((x / 2 ^ s : Nat) : Int) := by rw [Int.natCast_ediv, Int.natCast_pow]; rfl
  rw [es] at a b
  rw [e1, e3, e4, or_add' _ _ (64 - s) (by omega) (by omega) b, Int.natCast_add]
  exact Int.add_comm _ _
theorem down_or0 (s : Nat) (x : Int) (h : s ≤ 64) (p : 0 ≤ x) (u : x < 18446744073709551616) :
    bits .or .u64 (x / 2 ^ s) 0 = upH (64 - s) x := by
  have := down_or s x 0 h p u (Int.le_refl 0) (by decide)
  have e : upL (64 - s) 0 = 0 := by unfold upL; simp
  rw [Int.zero_mul, e, Int.add_zero, IntKind.wrap_u64] at this
  exact this

end Go.Proofs.Ytbephahokhnccaa
