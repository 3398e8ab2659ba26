/-
  number.Not at this program: what it returns.
-/
import Derived.Test.YtbephahokhnccaaSum
namespace Go.Proofs.Ytbephahokhnccaa
open Go.RowKit Go.Shelf

theorem xor_max (x : Int) (p : 0 ≤ x) (u : x < 18446744073709551616) : bits .xor .u64 IntKind.u64.max x = 18446744073709551615 - x := by
  obtain ⟨x, rfl⟩ := Int.eq_ofNat_of_zero_le p
  have h := bits_xor_u64_nat 18446744073709551615 x (by decide) (by omega)
  have e : (18446744073709551615 : Nat) ^^^ x = 18446744073709551615 - x := by
    apply Nat.eq_of_testBit_eq
    intro i
    have h2 := Nat.testBit_two_pow_sub_succ (n := 64) (x := x) (by omega) i
    have e2 : 2 ^ 64 - (x + 1) = 18446744073709551615 - x := by omega
    rw [e2] at h2
    rw [h2, Nat.testBit_xor, show (18446744073709551615 : Nat) = 2 ^ 64 - 1 from rfl, Nat.testBit_two_pow_sub_one]
    by_cases hi : i < 64
    · simp [hi]
    · have hx : x.testBit i = false := Nat.testBit_lt_two_pow (Nat.lt_of_lt_of_le (show x < 2 ^ 64 by omega) (Nat.pow_le_pow_right (by decide) (by omega)))
      simp [hi, hx]
  rw [e] at h
  have e3 : IntKind.u64.max = ((18446744073709551615 : Nat) : Int) := by decide
  rw [e3, h]
  omega

set_option maxHeartbeats 400000 in
theorem not_l (a0 a1 a2 a3 : Int) (w : World) (p0 : 0 ≤ a0) (p1 : 0 ≤ a1) (p2 : 0 ≤ a2) (p3 : 0 ≤ a3)
    (u0 : a0 < 18446744073709551616) (u1 : a1 < 18446744073709551616) (u2 : a2 < 18446744073709551616) (u3 : a3 < 18446744073709551616) :
    Calls Try.prog 44 #[.agg #[.int .u64 a0, .int .u64 a1, .int .u64 a2, .int .u64 a3]] w fun e w' =>
      e = .returned (.agg #[.int .u64 (18446744073709551615 - a0), .int .u64 (18446744073709551615 - a1), .int .u64 (18446744073709551615 - a2), .int .u64 (18446744073709551615 - a3)]) ∧ Below w.heap.size w w' := by
  go_enter Try.func44, Try.ntmps44
  go_wp2
  refine wp_loop_rounds 5 ?_
  rw [rounds_succ]
  go_wp2
  rw [rounds_succ]
  go_wp2
  rw [rounds_succ]
  go_wp2
  rw [rounds_succ]
  go_wp2
  rw [rounds_succ]
  go_wp2
  simp [bodyPost, results, Try.results44, go_sem]
  exact ⟨⟨xor_max a0 p0 u0, xor_max a1 p1 u1, xor_max a2 p2 u2, xor_max a3 p3 u3⟩, ((Below.refl _ _).alloc (Nat.le_refl _) _).alloc (by simp) _⟩

theorem not_lim (a : Nat) (ha : a < M) : lim (M - 1 - a) 0 = 18446744073709551615 - lim a 0 ∧ lim (M - 1 - a) 1 = 18446744073709551615 - lim a 1 ∧ lim (M - 1 - a) 2 = 18446744073709551615 - lim a 2 ∧ lim (M - 1 - a) 3 = 18446744073709551615 - lim a 3 := by
  have s := lim_sum a ha
  have l0 := lim_nn a 0; have l1 := lim_nn a 1; have l2 := lim_nn a 2; have l3 := lim_nn a 3
  have u0 := lim_lt a 0; have u1 := lim_lt a 1; have u2 := lim_lt a 2; have u3 := lim_lt a 3
  refine lim_of _ _ _ _ _ (by omega) (by omega) (by omega) (by omega) (by omega) (by omega) (by omega) (by omega) ?_
  unfold M at *
  omega

theorem not (a : Nat) (ha : a < M) (w : World) :
    Calls Try.prog 44 #[wd a] w fun e w' => e = .returned (wd (M - 1 - a)) ∧ Below w.heap.size w w' := by
  refine (not_l _ _ _ _ w (lim_nn a 0) (lim_nn a 1) (lim_nn a 2) (lim_nn a 3) (lim_lt a 0) (lim_lt a 1) (lim_lt a 2) (lim_lt a 3)).mono fun e w' ⟨he, hb'⟩ => ?_
  obtain ⟨h0, h1, h2, h3⟩ := not_lim a ha
  unfold wd
  rw [h0, h1, h2, h3]
  exact ⟨he, hb'⟩

end Go.Proofs.Ytbephahokhnccaa
