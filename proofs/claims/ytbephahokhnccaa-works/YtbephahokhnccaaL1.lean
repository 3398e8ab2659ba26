/-
  purserref: spread, word, bit of numbers of sixteen digits: what they return.
-/
import Derived.Test.YtbephahokhnccaaSum
import Derived.Test.YtbephahokhnccaaLg
import Derived.Deep.QuietTactic
import Derived.BigQuiet
import Derived.Handy
namespace Go.Proofs.Ytbephahokhnccaa
open Go.RowKit Go.Shelf
attribute [local go_sem] wd lg

theorem uw (x : Int) (h0 : 0 ≤ x) (h1 : x < 18446744073709551616) : IntKind.u64.wrap x = x := by rw [IntKind.wrap_u64]; omega
theorem lim_dig0 (a i : Nat) : lim a i % 4294967296 = dig a (2 * i) := by
  unfold lim dig
  rw [show (4294967296 : Nat) ^ (2 * i) = 18446744073709551616 ^ i by rw [Nat.pow_mul]]
  omega
theorem lim_dig1 (a i : Nat) : lim a i / 4294967296 = dig a (2 * i + 1) := by
  unfold lim dig
  rw [Nat.pow_succ, show (4294967296 : Nat) ^ (2 * i) = 18446744073709551616 ^ i by rw [Nat.pow_mul], ← Nat.div_div_eq_div_mul]
  omega
theorem dig_hi (a i : Nat) (ha : a < M) (hi : 8 ≤ i) : dig a i = 0 := by
  unfold dig
  have h : (4294967296 : Nat) ^ 8 ≤ 4294967296 ^ i := Nat.pow_le_pow_right (by decide) hi
  have e : M = 4294967296 ^ 8 := by decide
  rw [Nat.div_eq_of_lt (by omega)]
  rfl
theorem lim_modM (n i : Nat) (hi : i < 4) : lim (n % M) i = lim n i := by
  unfold lim
  have e : M = 18446744073709551616 ^ i * (18446744073709551616 ^ (3 - i) * 18446744073709551616) := by
    rw [← Nat.pow_succ, ← Nat.pow_add, show i + (3 - i + 1) = 4 by omega]
    decide
  rw [e, Nat.mod_mul_right_div_self, Nat.mod_mod_of_dvd _ ⟨_, Nat.mul_comm _ _⟩]
theorem word_lim (n i : Nat) (hi : i < 4) : lim (n % M) i = dig n (2 * i) + dig n (2 * i + 1) * 4294967296 := by
  rw [lim_modM n i hi, ← lim_dig0, ← lim_dig1]
  omega
theorem qt (a : Int) (p : 0 ≤ a) (u : a < 18446744073709551616) : IntKind.u64.wrap (a.tdiv 4294967296) = a / 4294967296 := by
  rw [Int.tdiv_eq_ediv_of_nonneg p]
  exact uw _ (by omega) (by omega)

set_option maxHeartbeats 1000000 in
theorem spread_l (a0 a1 a2 a3 : Int) (w : World) (p0 : 0 ≤ a0) (p1 : 0 ≤ a1) (p2 : 0 ≤ a2) (p3 : 0 ≤ a3)
    (u0 : a0 < 18446744073709551616) (u1 : a1 < 18446744073709551616) (u2 : a2 < 18446744073709551616) (u3 : a3 < 18446744073709551616) :
    Calls Try.prog 19 #[.agg #[.int .u64 a0, .int .u64 a1, .int .u64 a2, .int .u64 a3]] w fun e w' => e = .returned (.agg #[.int .u64 (a0 % 4294967296), .int .u64 (a0 / 4294967296), .int .u64 (a1 % 4294967296), .int .u64 (a1 / 4294967296), .int .u64 (a2 % 4294967296), .int .u64 (a2 / 4294967296), .int .u64 (a3 % 4294967296), .int .u64 (a3 / 4294967296), .int .u64 0, .int .u64 0, .int .u64 0, .int .u64 0, .int .u64 0, .int .u64 0, .int .u64 0, .int .u64 0]) ∧ Below w.heap.size w w' := by
  have q0 := qt a0 p0 u0; have q1 := qt a1 p1 u1; have q2 := qt a2 p2 u2; have q3 := qt a3 p3 u3
  go_enter Try.func19, Try.ntmps19
  go_wp2
  refine wp_loop_rounds 5 ?_
  rw [rounds_succ]
  go_wp2
  rw [rounds_succ]
  go_wp2
  rw [rounds_succ]
  go_wp2
  rw [rounds_succ]
  go_wp2
  rw [rounds_succ]
  go_wp2
  simp [bodyPost, results, Try.results19, go_sem]
  exact below3 _ _ _ _
theorem spread (a : Nat) (ha : a < M) (w : World) : Calls Try.prog 19 #[wd a] w fun e w' => e = .returned (lg a) ∧ Below w.heap.size w w' := by
  refine (spread_l _ _ _ _ w (lim_nn a 0) (lim_nn a 1) (lim_nn a 2) (lim_nn a 3) (lim_lt a 0) (lim_lt a 1) (lim_lt a 2) (lim_lt a 3)).mono fun e w' ⟨he, hb'⟩ => ⟨?_, hb'⟩
  rw [he, lim_dig0, lim_dig0, lim_dig0, lim_dig0, lim_dig1, lim_dig1, lim_dig1, lim_dig1]
  unfold lg
  rw [dig_hi a 8 ha (by decide), dig_hi a 9 ha (by decide), dig_hi a 10 ha (by decide), dig_hi a 11 ha (by decide), dig_hi a 12 ha (by decide), dig_hi a 13 ha (by decide), dig_hi a 14 ha (by decide), dig_hi a 15 ha (by decide)]

set_option maxHeartbeats 1000000 in
theorem word_l (x0 x1 x2 x3 x4 x5 x6 x7 x8 x9 x10 x11 x12 x13 x14 x15 : Int) (w : World) :
    Calls Try.prog 16 #[.agg #[.int .u64 x0, .int .u64 x1, .int .u64 x2, .int .u64 x3, .int .u64 x4, .int .u64 x5, .int .u64 x6, .int .u64 x7, .int .u64 x8, .int .u64 x9, .int .u64 x10, .int .u64 x11, .int .u64 x12, .int .u64 x13, .int .u64 x14, .int .u64 x15]] w fun e w' => e = .returned (.agg #[.int .u64 (IntKind.u64.wrap (x0 + IntKind.u64.wrap (x1 * 4294967296))), .int .u64 (IntKind.u64.wrap (x2 + IntKind.u64.wrap (x3 * 4294967296))), .int .u64 (IntKind.u64.wrap (x4 + IntKind.u64.wrap (x5 * 4294967296))), .int .u64 (IntKind.u64.wrap (x6 + IntKind.u64.wrap (x7 * 4294967296)))]) ∧ Below w.heap.size w w' := by
  go_enter Try.func16, Try.ntmps16
  go_wp2
  refine wp_loop_rounds 5 ?_
  rw [rounds_succ]
  go_wp2
  go_region
  go_wp2
  rw [rounds_succ]
  go_wp2
  go_region
  go_wp2
  rw [rounds_succ]
  go_wp2
  go_region
  go_wp2
  rw [rounds_succ]
  go_wp2
  go_region
  go_wp2
  rw [rounds_succ]
  go_wp2
  simp [bodyPost, results, Try.results16, go_sem]
  exact (below3 _ _ _ _).drew.drew.drew.drew
theorem wrap_pair (n i : Nat) (hi : i < 4) : IntKind.u64.wrap (dig n (2 * i) + IntKind.u64.wrap (dig n (2 * i + 1) * 4294967296)) = lim (n % M) i := by
  have a0 := dig_nn n (2 * i); have a1 := dig_lt n (2 * i); have b0 := dig_nn n (2 * i + 1); have b1 := dig_lt n (2 * i + 1)
  have e1 : IntKind.u64.wrap (dig n (2 * i + 1) * 4294967296) = dig n (2 * i + 1) * 4294967296 := uw _ (by omega) (by omega)
  rw [word_lim n i hi, e1]
  exact uw _ (by omega) (by omega)
theorem word (n : Nat) (w : World) : Calls Try.prog 16 #[lg n] w fun e w' => e = .returned (wd (n % M)) ∧ Below w.heap.size w w' := by
  refine (word_l _ _ _ _ _ _ _ _ _ _ _ _ _ _ _ _ w).mono fun e w' ⟨he, hb'⟩ => ⟨?_, hb'⟩
  have h0 := wrap_pair n 0 (by decide); have h1 := wrap_pair n 1 (by decide); have h2 := wrap_pair n 2 (by decide); have h3 := wrap_pair n 3 (by decide)
  simp only [Nat.mul_zero, Nat.zero_add, Nat.mul_one, Nat.reduceMul, Nat.reduceAdd] at h0 h1 h2 h3
  rw [he, h0, h1, h2, h3]

set_option maxHeartbeats 400000 in
theorem lbit_0 (x0 x1 x2 x3 x4 x5 x6 x7 x8 x9 x10 x11 x12 x13 x14 x15 n : Int) (w : World) (h0 : 0 ≤ n) (h1 : n < 32) (p : 0 ≤ x0) :
    Calls Try.prog 51 #[.agg #[.int .u64 x0, .int .u64 x1, .int .u64 x2, .int .u64 x3, .int .u64 x4, .int .u64 x5, .int .u64 x6, .int .u64 x7, .int .u64 x8, .int .u64 x9, .int .u64 x10, .int .u64 x11, .int .u64 x12, .int .u64 x13, .int .u64 x14, .int .u64 x15], .int .i64 n] w fun e w' => e = .returned (.int .u64 (x0 / 2 ^ (n % 32).toNat % 2)) ∧ Below w.heap.size w w' := by
  have hq : n / 32 = 0 := by omega
  go_enter Try.func51, Try.ntmps51
  go_wp2
  rw [Int.tmod_eq_emod_of_nonneg (Int.ediv_nonneg p (Int.le_of_lt (Int.pow_pos (by decide))))]
  go_ret
  exact ⟨rfl, (Below.refl _ _).alloc (Nat.le_refl _) _⟩
set_option maxHeartbeats 400000 in
theorem lbit_1 (x0 x1 x2 x3 x4 x5 x6 x7 x8 x9 x10 x11 x12 x13 x14 x15 n : Int) (w : World) (h0 : 32 ≤ n) (h1 : n < 64) (p : 0 ≤ x1) :
    Calls Try.prog 51 #[.agg #[.int .u64 x0, .int .u64 x1, .int .u64 x2, .int .u64 x3, .int .u64 x4, .int .u64 x5, .int .u64 x6, .int .u64 x7, .int .u64 x8, .int .u64 x9, .int .u64 x10, .int .u64 x11, .int .u64 x12, .int .u64 x13, .int .u64 x14, .int .u64 x15], .int .i64 n] w fun e w' => e = .returned (.int .u64 (x1 / 2 ^ (n % 32).toNat % 2)) ∧ Below w.heap.size w w' := by
  have hq : n / 32 = 1 := by omega
  go_enter Try.func51, Try.ntmps51
  go_wp2
  rw [Int.tmod_eq_emod_of_nonneg (Int.ediv_nonneg p (Int.le_of_lt (Int.pow_pos (by decide))))]
  go_ret
  exact ⟨rfl, (Below.refl _ _).alloc (Nat.le_refl _) _⟩
set_option maxHeartbeats 400000 in
theorem lbit_2 (x0 x1 x2 x3 x4 x5 x6 x7 x8 x9 x10 x11 x12 x13 x14 x15 n : Int) (w : World) (h0 : 64 ≤ n) (h1 : n < 96) (p : 0 ≤ x2) :
    Calls Try.prog 51 #[.agg #[.int .u64 x0, .int .u64 x1, .int .u64 x2, .int .u64 x3, .int .u64 x4, .int .u64 x5, .int .u64 x6, .int .u64 x7, .int .u64 x8, .int .u64 x9, .int .u64 x10, .int .u64 x11, .int .u64 x12, .int .u64 x13, .int .u64 x14, .int .u64 x15], .int .i64 n] w fun e w' => e = .returned (.int .u64 (x2 / 2 ^ (n % 32).toNat % 2)) ∧ Below w.heap.size w w' := by
  have hq : n / 32 = 2 := by omega
  go_enter Try.func51, Try.ntmps51
  go_wp2
  rw [Int.tmod_eq_emod_of_nonneg (Int.ediv_nonneg p (Int.le_of_lt (Int.pow_pos (by decide))))]
  go_ret
  exact ⟨rfl, (Below.refl _ _).alloc (Nat.le_refl _) _⟩
set_option maxHeartbeats 400000 in
theorem lbit_3 (x0 x1 x2 x3 x4 x5 x6 x7 x8 x9 x10 x11 x12 x13 x14 x15 n : Int) (w : World) (h0 : 96 ≤ n) (h1 : n < 128) (p : 0 ≤ x3) :
    Calls Try.prog 51 #[.agg #[.int .u64 x0, .int .u64 x1, .int .u64 x2, .int .u64 x3, .int .u64 x4, .int .u64 x5, .int .u64 x6, .int .u64 x7, .int .u64 x8, .int .u64 x9, .int .u64 x10, .int .u64 x11, .int .u64 x12, .int .u64 x13, .int .u64 x14, .int .u64 x15], .int .i64 n] w fun e w' => e = .returned (.int .u64 (x3 / 2 ^ (n % 32).toNat % 2)) ∧ Below w.heap.size w w' := by
  have hq : n / 32 = 3 := by omega
  go_enter Try.func51, Try.ntmps51
  go_wp2
  rw [Int.tmod_eq_emod_of_nonneg (Int.ediv_nonneg p (Int.le_of_lt (Int.pow_pos (by decide))))]
  go_ret
  exact ⟨rfl, (Below.refl _ _).alloc (Nat.le_refl _) _⟩
set_option maxHeartbeats 400000 in
theorem lbit_4 (x0 x1 x2 x3 x4 x5 x6 x7 x8 x9 x10 x11 x12 x13 x14 x15 n : Int) (w : World) (h0 : 128 ≤ n) (h1 : n < 160) (p : 0 ≤ x4) :
    Calls Try.prog 51 #[.agg #[.int .u64 x0, .int .u64 x1, .int .u64 x2, .int .u64 x3, .int .u64 x4, .int .u64 x5, .int .u64 x6, .int .u64 x7, .int .u64 x8, .int .u64 x9, .int .u64 x10, .int .u64 x11, .int .u64 x12, .int .u64 x13, .int .u64 x14, .int .u64 x15], .int .i64 n] w fun e w' => e = .returned (.int .u64 (x4 / 2 ^ (n % 32).toNat % 2)) ∧ Below w.heap.size w w' := by
  have hq : n / 32 = 4 := by omega
  go_enter Try.func51, Try.ntmps51
  go_wp2
  rw [Int.tmod_eq_emod_of_nonneg (Int.ediv_nonneg p (Int.le_of_lt (Int.pow_pos (by decide))))]
  go_ret
  exact ⟨rfl, (Below.refl _ _).alloc (Nat.le_refl _) _⟩
set_option maxHeartbeats 400000 in
theorem lbit_5 (x0 x1 x2 x3 x4 x5 x6 x7 x8 x9 x10 x11 x12 x13 x14 x15 n : Int) (w : World) (h0 : 160 ≤ n) (h1 : n < 192) (p : 0 ≤ x5) :
    Calls Try.prog 51 #[.agg #[.int .u64 x0, .int .u64 x1, .int .u64 x2, .int .u64 x3, .int .u64 x4, .int .u64 x5, .int .u64 x6, .int .u64 x7, .int .u64 x8, .int .u64 x9, .int .u64 x10, .int .u64 x11, .int .u64 x12, .int .u64 x13, .int .u64 x14, .int .u64 x15], .int .i64 n] w fun e w' => e = .returned (.int .u64 (x5 / 2 ^ (n % 32).toNat % 2)) ∧ Below w.heap.size w w' := by
  have hq : n / 32 = 5 := by omega
  go_enter Try.func51, Try.ntmps51
  go_wp2
  rw [Int.tmod_eq_emod_of_nonneg (Int.ediv_nonneg p (Int.le_of_lt (Int.pow_pos (by decide))))]
  go_ret
  exact ⟨rfl, (Below.refl _ _).alloc (Nat.le_refl _) _⟩
set_option maxHeartbeats 400000 in
theorem lbit_6 (x0 x1 x2 x3 x4 x5 x6 x7 x8 x9 x10 x11 x12 x13 x14 x15 n : Int) (w : World) (h0 : 192 ≤ n) (h1 : n < 224) (p : 0 ≤ x6) :
    Calls Try.prog 51 #[.agg #[.int .u64 x0, .int .u64 x1, .int .u64 x2, .int .u64 x3, .int .u64 x4, .int .u64 x5, .int .u64 x6, .int .u64 x7, .int .u64 x8, .int .u64 x9, .int .u64 x10, .int .u64 x11, .int .u64 x12, .int .u64 x13, .int .u64 x14, .int .u64 x15], .int .i64 n] w fun e w' => e = .returned (.int .u64 (x6 / 2 ^ (n % 32).toNat % 2)) ∧ Below w.heap.size w w' := by
  have hq : n / 32 = 6 := by omega
  go_enter Try.func51, Try.ntmps51
  go_wp2
  rw [Int.tmod_eq_emod_of_nonneg (Int.ediv_nonneg p (Int.le_of_lt (Int.pow_pos (by decide))))]
  go_ret
  exact ⟨rfl, (Below.refl _ _).alloc (Nat.le_refl _) _⟩
set_option maxHeartbeats 400000 in
theorem lbit_7 (x0 x1 x2 x3 x4 x5 x6 x7 x8 x9 x10 x11 x12 x13 x14 x15 n : Int) (w : World) (h0 : 224 ≤ n) (h1 : n < 256) (p : 0 ≤ x7) :
    Calls Try.prog 51 #[.agg #[.int .u64 x0, .int .u64 x1, .int .u64 x2, .int .u64 x3, .int .u64 x4, .int .u64 x5, .int .u64 x6, .int .u64 x7, .int .u64 x8, .int .u64 x9, .int .u64 x10, .int .u64 x11, .int .u64 x12, .int .u64 x13, .int .u64 x14, .int .u64 x15], .int .i64 n] w fun e w' => e = .returned (.int .u64 (x7 / 2 ^ (n % 32).toNat % 2)) ∧ Below w.heap.size w w' := by
  have hq : n / 32 = 7 := by omega
  go_enter Try.func51, Try.ntmps51
  go_wp2
  rw [Int.tmod_eq_emod_of_nonneg (Int.ediv_nonneg p (Int.le_of_lt (Int.pow_pos (by decide))))]
  go_ret
  exact ⟨rfl, (Below.refl _ _).alloc (Nat.le_refl _) _⟩
set_option maxHeartbeats 400000 in
theorem lbit_8 (x0 x1 x2 x3 x4 x5 x6 x7 x8 x9 x10 x11 x12 x13 x14 x15 n : Int) (w : World) (h0 : 256 ≤ n) (h1 : n < 288) (p : 0 ≤ x8) :
    Calls Try.prog 51 #[.agg #[.int .u64 x0, .int .u64 x1, .int .u64 x2, .int .u64 x3, .int .u64 x4, .int .u64 x5, .int .u64 x6, .int .u64 x7, .int .u64 x8, .int .u64 x9, .int .u64 x10, .int .u64 x11, .int .u64 x12, .int .u64 x13, .int .u64 x14, .int .u64 x15], .int .i64 n] w fun e w' => e = .returned (.int .u64 (x8 / 2 ^ (n % 32).toNat % 2)) ∧ Below w.heap.size w w' := by
  have hq : n / 32 = 8 := by omega
  go_enter Try.func51, Try.ntmps51
  go_wp2
  rw [Int.tmod_eq_emod_of_nonneg (Int.ediv_nonneg p (Int.le_of_lt (Int.pow_pos (by decide))))]
  go_ret
  exact ⟨rfl, (Below.refl _ _).alloc (Nat.le_refl _) _⟩
set_option maxHeartbeats 400000 in
theorem lbit_9 (x0 x1 x2 x3 x4 x5 x6 x7 x8 x9 x10 x11 x12 x13 x14 x15 n : Int) (w : World) (h0 : 288 ≤ n) (h1 : n < 320) (p : 0 ≤ x9) :
    Calls Try.prog 51 #[.agg #[.int .u64 x0, .int .u64 x1, .int .u64 x2, .int .u64 x3, .int .u64 x4, .int .u64 x5, .int .u64 x6, .int .u64 x7, .int .u64 x8, .int .u64 x9, .int .u64 x10, .int .u64 x11, .int .u64 x12, .int .u64 x13, .int .u64 x14, .int .u64 x15], .int .i64 n] w fun e w' => e = .returned (.int .u64 (x9 / 2 ^ (n % 32).toNat % 2)) ∧ Below w.heap.size w w' := by
  have hq : n / 32 = 9 := by omega
  go_enter Try.func51, Try.ntmps51
  go_wp2
  rw [Int.tmod_eq_emod_of_nonneg (Int.ediv_nonneg p (Int.le_of_lt (Int.pow_pos (by decide))))]
  go_ret
  exact ⟨rfl, (Below.refl _ _).alloc (Nat.le_refl _) _⟩
set_option maxHeartbeats 400000 in
theorem lbit_10 (x0 x1 x2 x3 x4 x5 x6 x7 x8 x9 x10 x11 x12 x13 x14 x15 n : Int) (w : World) (h0 : 320 ≤ n) (h1 : n < 352) (p : 0 ≤ x10) :
    Calls Try.prog 51 #[.agg #[.int .u64 x0, .int .u64 x1, .int .u64 x2, .int .u64 x3, .int .u64 x4, .int .u64 x5, .int .u64 x6, .int .u64 x7, .int .u64 x8, .int .u64 x9, .int .u64 x10, .int .u64 x11, .int .u64 x12, .int .u64 x13, .int .u64 x14, .int .u64 x15], .int .i64 n] w fun e w' => e = .returned (.int .u64 (x10 / 2 ^ (n % 32).toNat % 2)) ∧ Below w.heap.size w w' := by
  have hq : n / 32 = 10 := by omega
  go_enter Try.func51, Try.ntmps51
  go_wp2
  rw [Int.tmod_eq_emod_of_nonneg (Int.ediv_nonneg p (Int.le_of_lt (Int.pow_pos (by decide))))]
  go_ret
  exact ⟨rfl, (Below.refl _ _).alloc (Nat.le_refl _) _⟩
set_option maxHeartbeats 400000 in
theorem lbit_11 (x0 x1 x2 x3 x4 x5 x6 x7 x8 x9 x10 x11 x12 x13 x14 x15 n : Int) (w : World) (h0 : 352 ≤ n) (h1 : n < 384) (p : 0 ≤ x11) :
    Calls Try.prog 51 #[.agg #[.int .u64 x0, .int .u64 x1, .int .u64 x2, .int .u64 x3, .int .u64 x4, .int .u64 x5, .int .u64 x6, .int .u64 x7, .int .u64 x8, .int .u64 x9, .int .u64 x10, .int .u64 x11, .int .u64 x12, .int .u64 x13, .int .u64 x14, .int .u64 x15], .int .i64 n] w fun e w' => e = .returned (.int .u64 (x11 / 2 ^ (n % 32).toNat % 2)) ∧ Below w.heap.size w w' := by
  have hq : n / 32 = 11 := by omega
  go_enter Try.func51, Try.ntmps51
  go_wp2
  rw [Int.tmod_eq_emod_of_nonneg (Int.ediv_nonneg p (Int.le_of_lt (Int.pow_pos (by decide))))]
  go_ret
  exact ⟨rfl, (Below.refl _ _).alloc (Nat.le_refl _) _⟩
set_option maxHeartbeats 400000 in
theorem lbit_12 (x0 x1 x2 x3 x4 x5 x6 x7 x8 x9 x10 x11 x12 x13 x14 x15 n : Int) (w : World) (h0 : 384 ≤ n) (h1 : n < 416) (p : 0 ≤ x12) :
    Calls Try.prog 51 #[.agg #[.int .u64 x0, .int .u64 x1, .int .u64 x2, .int .u64 x3, .int .u64 x4, .int .u64 x5, .int .u64 x6, .int .u64 x7, .int .u64 x8, .int .u64 x9, .int .u64 x10, .int .u64 x11, .int .u64 x12, .int .u64 x13, .int .u64 x14, .int .u64 x15], .int .i64 n] w fun e w' => e = .returned (.int .u64 (x12 / 2 ^ (n % 32).toNat % 2)) ∧ Below w.heap.size w w' := by
  have hq : n / 32 = 12 := by omega
  go_enter Try.func51, Try.ntmps51
  go_wp2
  rw [Int.tmod_eq_emod_of_nonneg (Int.ediv_nonneg p (Int.le_of_lt (Int.pow_pos (by decide))))]
  go_ret
  exact ⟨rfl, (Below.refl _ _).alloc (Nat.le_refl _) _⟩
set_option maxHeartbeats 400000 in
theorem lbit_13 (x0 x1 x2 x3 x4 x5 x6 x7 x8 x9 x10 x11 x12 x13 x14 x15 n : Int) (w : World) (h0 : 416 ≤ n) (h1 : n < 448) (p : 0 ≤ x13) :
    Calls Try.prog 51 #[.agg #[.int .u64 x0, .int .u64 x1, .int .u64 x2, .int .u64 x3, .int .u64 x4, .int .u64 x5, .int .u64 x6, .int .u64 x7, .int .u64 x8, .int .u64 x9, .int .u64 x10, .int .u64 x11, .int .u64 x12, .int .u64 x13, .int .u64 x14, .int .u64 x15], .int .i64 n] w fun e w' => e = .returned (.int .u64 (x13 / 2 ^ (n % 32).toNat % 2)) ∧ Below w.heap.size w w' := by
  have hq : n / 32 = 13 := by omega
  go_enter Try.func51, Try.ntmps51
  go_wp2
  rw [Int.tmod_eq_emod_of_nonneg (Int.ediv_nonneg p (Int.le_of_lt (Int.pow_pos (by decide))))]
  go_ret
  exact ⟨rfl, (Below.refl _ _).alloc (Nat.le_refl _) _⟩
set_option maxHeartbeats 400000 in
theorem lbit_14 (x0 x1 x2 x3 x4 x5 x6 x7 x8 x9 x10 x11 x12 x13 x14 x15 n : Int) (w : World) (h0 : 448 ≤ n) (h1 : n < 480) (p : 0 ≤ x14) :
    Calls Try.prog 51 #[.agg #[.int .u64 x0, .int .u64 x1, .int .u64 x2, .int .u64 x3, .int .u64 x4, .int .u64 x5, .int .u64 x6, .int .u64 x7, .int .u64 x8, .int .u64 x9, .int .u64 x10, .int .u64 x11, .int .u64 x12, .int .u64 x13, .int .u64 x14, .int .u64 x15], .int .i64 n] w fun e w' => e = .returned (.int .u64 (x14 / 2 ^ (n % 32).toNat % 2)) ∧ Below w.heap.size w w' := by
  have hq : n / 32 = 14 := by omega
  go_enter Try.func51, Try.ntmps51
  go_wp2
  rw [Int.tmod_eq_emod_of_nonneg (Int.ediv_nonneg p (Int.le_of_lt (Int.pow_pos (by decide))))]
  go_ret
  exact ⟨rfl, (Below.refl _ _).alloc (Nat.le_refl _) _⟩
set_option maxHeartbeats 400000 in
theorem lbit_15 (x0 x1 x2 x3 x4 x5 x6 x7 x8 x9 x10 x11 x12 x13 x14 x15 n : Int) (w : World) (h0 : 480 ≤ n) (h1 : n < 512) (p : 0 ≤ x15) :
    Calls Try.prog 51 #[.agg #[.int .u64 x0, .int .u64 x1, .int .u64 x2, .int .u64 x3, .int .u64 x4, .int .u64 x5, .int .u64 x6, .int .u64 x7, .int .u64 x8, .int .u64 x9, .int .u64 x10, .int .u64 x11, .int .u64 x12, .int .u64 x13, .int .u64 x14, .int .u64 x15], .int .i64 n] w fun e w' => e = .returned (.int .u64 (x15 / 2 ^ (n % 32).toNat % 2)) ∧ Below w.heap.size w w' := by
  have hq : n / 32 = 15 := by omega
  go_enter Try.func51, Try.ntmps51
  go_wp2
  rw [Int.tmod_eq_emod_of_nonneg (Int.ediv_nonneg p (Int.le_of_lt (Int.pow_pos (by decide))))]
  go_ret
  exact ⟨rfl, (Below.refl _ _).alloc (Nat.le_refl _) _⟩

theorem dig_bit (n k j : Nat) (hj : j < 32) : dig n k / 2 ^ j % 2 = ((n / 2 ^ (32 * k + j) % 2 : Nat) : Int) := by
  unfold dig
  have e : (4294967296 : Nat) ^ k = 2 ^ (32 * k) := by rw [show (4294967296 : Nat) = 2 ^ 32 from rfl, ← Nat.pow_mul]
  rw [e, Nat.pow_add, ← Nat.div_div_eq_div_mul]
  generalize n / 2 ^ (32 * k) = q
  have h : q % 4294967296 / 2 ^ j % 2 = q / 2 ^ j % 2 := by
    have d : (4294967296 : Nat) = 2 ^ j * (2 ^ (31 - j) * 2) := by
      rw [← Nat.pow_succ, ← Nat.pow_add, show j + (31 - j + 1) = 32 by omega]
    rw [d, Nat.mod_mul_right_div_self, Nat.mod_mod_of_dvd _ ⟨_, Nat.mul_comm _ _⟩]
  rw [← h]
  simp

theorem lbit (n i : Nat) (h : i < 512) (w : World) :
    Calls Try.prog 51 #[lg n, .int .i64 i] w fun e w' => e = .returned (.int .u64 ((n / 2 ^ i % 2 : Nat) : Int)) ∧ Below w.heap.size w w' := by
  have hk : ∀ k : Nat, 32 * k ≤ i → i < 32 * k + 32 → dig n k / 2 ^ ((i : Int) % 32).toNat % 2 = ((n / 2 ^ i % 2 : Nat) : Int) := fun k h0 h1 => by
    have e : ((i : Int) % 32).toNat = i - 32 * k := by omega
    rw [e, dig_bit n k _ (by omega), show 32 * k + (i - 32 * k) = i by omega]
  have c : i / 32 < 16 := by omega
  generalize hc : i / 32 = k at c
  have k0 := hk k (by omega) (by omega)
  rw [← k0]
  clear hk k0
  rcases k with _ | k
  · exact lbit_0 _ _ _ _ _ _ _ _ _ _ _ _ _ _ _ _ i w (by omega) (by omega) (dig_nn n 0)
  rcases k with _ | k
  · exact lbit_1 _ _ _ _ _ _ _ _ _ _ _ _ _ _ _ _ i w (by omega) (by omega) (dig_nn n 1)
  rcases k with _ | k
  · exact lbit_2 _ _ _ _ _ _ _ _ _ _ _ _ _ _ _ _ i w (by omega) (by omega) (dig_nn n 2)
  rcases k with _ | k
  · exact lbit_3 _ _ _ _ _ _ _ _ _ _ _ _ _ _ _ _ i w (by omega) (by omega) (dig_nn n 3)
  rcases k with _ | k
  · exact lbit_4 _ _ _ _ _ _ _ _ _ _ _ _ _ _ _ _ i w (by omega) (by omega) (dig_nn n 4)
  rcases k with _ | k
  · exact lbit_5 _ _ _ _ _ _ _ _ _ _ _ _ _ _ _ _ i w (by omega) (by omega) (dig_nn n 5)
  rcases k with _ | k
  · exact lbit_6 _ _ _ _ _ _ _ _ _ _ _ _ _ _ _ _ i w (by omega) (by omega) (dig_nn n 6)
  rcases k with _ | k
  · exact lbit_7 _ _ _ _ _ _ _ _ _ _ _ _ _ _ _ _ i w (by omega) (by omega) (dig_nn n 7)
  rcases k with _ | k
  · exact lbit_8 _ _ _ _ _ _ _ _ _ _ _ _ _ _ _ _ i w (by omega) (by omega) (dig_nn n 8)
  rcases k with _ | k
  · exact lbit_9 _ _ _ _ _ _ _ _ _ _ _ _ _ _ _ _ i w (by omega) (by omega) (dig_nn n 9)
  rcases k with _ | k
  · exact lbit_10 _ _ _ _ _ _ _ _ _ _ _ _ _ _ _ _ i w (by omega) (by omega) (dig_nn n 10)
  rcases k with _ | k
  · exact lbit_11 _ _ _ _ _ _ _ _ _ _ _ _ _ _ _ _ i w (by omega) (by omega) (dig_nn n 11)
  rcases k with _ | k
  · exact lbit_12 _ _ _ _ _ _ _ _ _ _ _ _ _ _ _ _ i w (by omega) (by omega) (dig_nn n 12)
  rcases k with _ | k
  · exact lbit_13 _ _ _ _ _ _ _ _ _ _ _ _ _ _ _ _ i w (by omega) (by omega) (dig_nn n 13)
  rcases k with _ | k
  · exact lbit_14 _ _ _ _ _ _ _ _ _ _ _ _ _ _ _ _ i w (by omega) (by omega) (dig_nn n 14)
  rcases k with _ | k
  · exact lbit_15 _ _ _ _ _ _ _ _ _ _ _ _ _ _ _ _ i w (by omega) (by omega) (dig_nn n 15)
  omega

end Go.Proofs.Ytbephahokhnccaa
