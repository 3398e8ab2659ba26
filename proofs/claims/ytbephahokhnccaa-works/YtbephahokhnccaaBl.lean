/-
  number.bitLength at this program: a number of bits in which the word fits.
-/
import Derived.Test.YtbephahokhnccaaJ3
import Derived.Test.YtbephahokhnccaaCells
namespace Go.Proofs.Ytbephahokhnccaa
open Go.RowKit Go.Shelf

theorem fit4 (a x0 x1 x2 x3 L : Nat) (h : (a : Int) = x0 + x1 * 18446744073709551616 + x2 * 340282366920938463463374607431768211456 + x3 * 6277101735386680763835789423207666416102355444464034512896)
    (u0 : x0 < 18446744073709551616) (u1 : x1 < 18446744073709551616) (u2 : x2 < 18446744073709551616) (hx : x3 < 2 ^ L) : a < 2 ^ (192 + L) := by
  rw [Nat.pow_add, show (2 : Nat) ^ 192 = 6277101735386680763835789423207666416102355444464034512896 from rfl]
  omega

theorem bitLength (a : Nat) (ha : a < M) (w : World) :
    Calls Try.prog 64 #[wd a] w fun e w' => ∃ L : Nat, e = .returned (.int .i64 L) ∧ a < 2 ^ L ∧ L ≤ 256 ∧ Below w.heap.size w w' := by
  have s := lim_sum a ha
  have l0 := lim_nn a 0; have l1 := lim_nn a 1; have l2 := lim_nn a 2; have l3 := lim_nn a 3
  have u0 := lim_lt a 0; have u1 := lim_lt a 1; have u2 := lim_lt a 2; have u3 := lim_lt a 3
  unfold wd
  generalize lim a 0 = x0 at *; generalize lim a 1 = x1 at *; generalize lim a 2 = x2 at *; generalize lim a 3 = x3 at *
  obtain ⟨y0, rfl⟩ := Int.eq_ofNat_of_zero_le l0
  obtain ⟨y1, rfl⟩ := Int.eq_ofNat_of_zero_le l1
  obtain ⟨y2, rfl⟩ := Int.eq_ofNat_of_zero_le l2
  obtain ⟨y3, rfl⟩ := Int.eq_ofNat_of_zero_le l3
  have bnd : ∀ y : Nat, (y : Int) < 18446744073709551616 → y < 2 ^ Lib.bitLen y ∧ Lib.bitLen y ≤ 64 := fun y hy => ⟨bitLen_lt y (by omega), Lib.bitLen_le y 64 (Nat.le_refl _) (by omega)⟩
  by_cases h3 : y3 = 0
  · subst h3
    by_cases h2 : y2 = 0
    · subst h2
      by_cases h1 : y1 = 0
      · subst h1
        by_cases h0 : y0 = 0
        · subst h0
          exact (bl0 w).mono fun e w' ⟨he, hb⟩ => ⟨0, he, by simp at s; omega, by omega, hb⟩
        · refine (bl1 y0 (by simpa using h0) l0 u0 w).mono fun e w' ⟨he, hb⟩ => ⟨Lib.bitLen y0, he, ?_, ?_, hb⟩
          · have := (bnd y0 u0).1; have : a = y0 := by omega
            omega
          · have := (bnd y0 u0).2; omega
      · refine (bl2 y0 y1 (by simpa using h1) l1 u1 w).mono fun e w' ⟨he, hb⟩ => ⟨64 + Lib.bitLen y1, he, ?_, ?_, hb⟩
        · have := (bnd y1 u1).1
          rw [Nat.pow_add, show (2 : Nat) ^ 64 = 18446744073709551616 from rfl]
          generalize 2 ^ Lib.bitLen y1 = q at *
          omega
        · have := (bnd y1 u1).2; omega
    · refine (bl3 y0 y1 y2 (by simpa using h2) l2 u2 w).mono fun e w' ⟨he, hb⟩ => ⟨128 + Lib.bitLen y2, he, ?_, ?_, hb⟩
      · have := (bnd y2 u2).1
        rw [Nat.pow_add, show (2 : Nat) ^ 128 = 340282366920938463463374607431768211456 from rfl]
        generalize 2 ^ Lib.bitLen y2 = q at *
        omega
      · have := (bnd y2 u2).2; omega
  · refine (bl4 y0 y1 y2 y3 (by simpa using h3) l3 u3 w).mono fun e w' ⟨he, hb⟩ => ⟨192 + Lib.bitLen y3, he, ?_, ?_, hb⟩
    · have := (bnd y3 u3).1
      exact fit4 a y0 y1 y2 y3 _ s (by omega) (by omega) (by omega) this
    · have := (bnd y3 u3).2; omega

end Go.Proofs.Ytbephahokhnccaa
