/-
  number.bit at this program: what it returns.
  number.partLength and bitLength at this program: what they return.
-/
import Derived.Test.YtbephahokhnccaaSum
import Derived.Test.YtbephahokhnccaaLen
namespace Go.Proofs.Ytbephahokhnccaa
open Go.RowKit Go.Shelf

theorem tb_of (x : Int) (j : Nat) (p : 0 ≤ x) (u : x < 18446744073709551616) : (bits .and .u64 (x / 2 ^ j) 1 == 1) = x.toNat.testBit j := by
  obtain ⟨x, rfl⟩ := Int.eq_ofNat_of_zero_le p
  have e : ((x : Int) / 2 ^ j) = ((x / 2 ^ j : Nat) : Int) := by simp
  have l : x / 2 ^ j < 18446744073709551616 := Nat.lt_of_le_of_lt (Nat.div_le_self _ _) (by omega)
  have h := bits_and_u64_nat (x / 2 ^ j) 1 l (by decide)
  rw [e]
  have h1 : bits .and .u64 ((x / 2 ^ j : Nat) : Int) 1 = ((x / 2 ^ j &&& 1 : Nat) : Int) := h
  rw [h1, Nat.and_one_is_mod, Int.toNat_natCast, Nat.testBit_eq_decide_div_mod_eq]
  have : x / 2 ^ j % 2 = 0 ∨ x / 2 ^ j % 2 = 1 := by omega
  rcases this with h | h <;> rw [h] <;> rfl

set_option maxHeartbeats 400000 in
theorem bit_0 (x0 x1 x2 x3 n : Int) (w : World) (h0 : 0 ≤ n) (h1 : n < 64) (p : 0 ≤ x0) (u : x0 < 18446744073709551616) :
    Calls Try.prog 65 #[.agg #[.int .u64 x0, .int .u64 x1, .int .u64 x2, .int .u64 x3], .int .i64 n] w fun e w' => e = .returned (.bool (x0.toNat.testBit (n % 64).toNat)) ∧ Below w.heap.size w w' := by
  have hq : n / 64 = 0 := by omega
  go_enter Try.func65, Try.ntmps65
  go_wp2
  rw [tb_of x0 _ p u]
  go_ret
  exact ⟨rfl, (Below.refl _ _).alloc (Nat.le_refl _) _⟩
set_option maxHeartbeats 400000 in
theorem bit_1 (x0 x1 x2 x3 n : Int) (w : World) (h0 : 64 ≤ n) (h1 : n < 128) (p : 0 ≤ x1) (u : x1 < 18446744073709551616) :
    Calls Try.prog 65 #[.agg #[.int .u64 x0, .int .u64 x1, .int .u64 x2, .int .u64 x3], .int .i64 n] w fun e w' => e = .returned (.bool (x1.toNat.testBit (n % 64).toNat)) ∧ Below w.heap.size w w' := by
  have hq : n / 64 = 1 := by omega
  go_enter Try.func65, Try.ntmps65
  go_wp2
  rw [tb_of x1 _ p u]
  go_ret
  exact ⟨rfl, (Below.refl _ _).alloc (Nat.le_refl _) _⟩
set_option maxHeartbeats 400000 in
theorem bit_2 (x0 x1 x2 x3 n : Int) (w : World) (h0 : 128 ≤ n) (h1 : n < 192) (p : 0 ≤ x2) (u : x2 < 18446744073709551616) :
    Calls Try.prog 65 #[.agg #[.int .u64 x0, .int .u64 x1, .int .u64 x2, .int .u64 x3], .int .i64 n] w fun e w' => e = .returned (.bool (x2.toNat.testBit (n % 64).toNat)) ∧ Below w.heap.size w w' := by
  have hq : n / 64 = 2 := by omega
  go_enter Try.func65, Try.ntmps65
  go_wp2
  rw [tb_of x2 _ p u]
  go_ret
  exact ⟨rfl, (Below.refl _ _).alloc (Nat.le_refl _) _⟩
set_option maxHeartbeats 400000 in
theorem bit_3 (x0 x1 x2 x3 n : Int) (w : World) (h0 : 192 ≤ n) (h1 : n < 256) (p : 0 ≤ x3) (u : x3 < 18446744073709551616) :
    Calls Try.prog 65 #[.agg #[.int .u64 x0, .int .u64 x1, .int .u64 x2, .int .u64 x3], .int .i64 n] w fun e w' => e = .returned (.bool (x3.toNat.testBit (n % 64).toNat)) ∧ Below w.heap.size w w' := by
  have hq : n / 64 = 3 := by omega
  go_enter Try.func65, Try.ntmps65
  go_wp2
  rw [tb_of x3 _ p u]
  go_ret
  exact ⟨rfl, (Below.refl _ _).alloc (Nat.le_refl _) _⟩

theorem lim_tb (b k j : Nat) (hj : j < 64) : (lim b k).toNat.testBit j = b.testBit (64 * k + j) := by
  unfold lim
  have e : (18446744073709551616 : Nat) ^ k = 2 ^ (64 * k) := by
    rw [show (18446744073709551616 : Nat) = 2 ^ 64 from rfl, ← Nat.pow_mul]
  rw [Int.toNat_natCast, e, show (18446744073709551616 : Nat) = 2 ^ 64 from rfl, Nat.testBit_mod_two_pow, Nat.testBit_div_two_pow]
  simp [hj, Nat.add_comm]

theorem bit (b n : Nat) (h : n < 256) (w : World) :
    Calls Try.prog 65 #[wd b, .int .i64 n] w fun e w' => e = .returned (.bool (b.testBit n)) ∧ Below w.heap.size w w' := by
  have c : n < 64 ∨ (64 ≤ n ∧ n < 128) ∨ (128 ≤ n ∧ n < 192) ∨ 192 ≤ n := by omega
  rcases c with c | c | c | c
  · refine (bit_0 _ _ _ _ n w (by omega) (by omega) (lim_nn b 0) (lim_lt b 0)).mono fun e w' ⟨he, hb⟩ => ⟨?_, hb⟩
    rw [he, lim_tb b 0 _ (by omega)]
    congr 3
    omega
  · refine (bit_1 _ _ _ _ n w (by omega) (by omega) (lim_nn b 1) (lim_lt b 1)).mono fun e w' ⟨he, hb⟩ => ⟨?_, hb⟩
    rw [he, lim_tb b 1 _ (by omega)]
    congr 3
    omega
  · refine (bit_2 _ _ _ _ n w (by omega) (by omega) (lim_nn b 2) (lim_lt b 2)).mono fun e w' ⟨he, hb⟩ => ⟨?_, hb⟩
    rw [he, lim_tb b 2 _ (by omega)]
    congr 3
    omega
  · refine (bit_3 _ _ _ _ n w (by omega) (by omega) (lim_nn b 3) (lim_lt b 3)).mono fun e w' ⟨he, hb⟩ => ⟨?_, hb⟩
    rw [he, lim_tb b 3 _ (by omega)]
    congr 3
    omega

end Go.Proofs.Ytbephahokhnccaa

namespace Go.Proofs.Ytbephahokhnccaa
open Go.RowKit Go.Shelf

set_option maxHeartbeats 400000 in
theorem pl0 (w : World) : Calls Try.prog 70 #[.agg #[.int .u64 0, .int .u64 0, .int .u64 0, .int .u64 0]] w fun e w' => e = .returned (.int .i64 0) ∧ Below w.heap.size w w' := by
  go_enter Try.func70, Try.ntmps70
  go_wp2
  refine wp_loop_rounds 5 ?_
  rw [rounds_succ]
  go_wp2
  rw [rounds_succ]
  go_wp2
  rw [rounds_succ]
  go_wp2
  rw [rounds_succ]
  go_wp2
  rw [rounds_succ]
  go_wp2
  go_ret
  exact ⟨rfl, (Below.refl _ _).alloc (Nat.le_refl _) _⟩
set_option maxHeartbeats 400000 in
theorem pl1 (x0 : Int) (h : (x0 == 0) = false) (w : World) : Calls Try.prog 70 #[.agg #[.int .u64 x0, .int .u64 0, .int .u64 0, .int .u64 0]] w fun e w' => e = .returned (.int .i64 1) ∧ Below w.heap.size w w' := by
  go_enter Try.func70, Try.ntmps70
  go_wp2
  refine wp_loop_rounds 5 ?_
  rw [rounds_succ]
  go_wp2
  rw [rounds_succ]
  go_wp2
  rw [rounds_succ]
  go_wp2
  rw [rounds_succ]
  go_wp2
  go_ret
  exact ⟨rfl, (Below.refl _ _).alloc (Nat.le_refl _) _⟩
set_option maxHeartbeats 400000 in
theorem pl2 (x0 x1 : Int) (h : (x1 == 0) = false) (w : World) : Calls Try.prog 70 #[.agg #[.int .u64 x0, .int .u64 x1, .int .u64 0, .int .u64 0]] w fun e w' => e = .returned (.int .i64 2) ∧ Below w.heap.size w w' := by
  go_enter Try.func70, Try.ntmps70
  go_wp2
  refine wp_loop_rounds 5 ?_
  rw [rounds_succ]
  go_wp2
  rw [rounds_succ]
  go_wp2
  rw [rounds_succ]
  go_wp2
  go_ret
  exact ⟨rfl, (Below.refl _ _).alloc (Nat.le_refl _) _⟩
set_option maxHeartbeats 400000 in
theorem pl3 (x0 x1 x2 : Int) (h : (x2 == 0) = false) (w : World) : Calls Try.prog 70 #[.agg #[.int .u64 x0, .int .u64 x1, .int .u64 x2, .int .u64 0]] w fun e w' => e = .returned (.int .i64 3) ∧ Below w.heap.size w w' := by
  go_enter Try.func70, Try.ntmps70
  go_wp2
  refine wp_loop_rounds 5 ?_
  rw [rounds_succ]
  go_wp2
  rw [rounds_succ]
  go_wp2
  go_ret
  exact ⟨rfl, (Below.refl _ _).alloc (Nat.le_refl _) _⟩
set_option maxHeartbeats 400000 in
theorem pl4 (x0 x1 x2 x3 : Int) (h : (x3 == 0) = false) (w : World) : Calls Try.prog 70 #[.agg #[.int .u64 x0, .int .u64 x1, .int .u64 x2, .int .u64 x3]] w fun e w' => e = .returned (.int .i64 4) ∧ Below w.heap.size w w' := by
  go_enter Try.func70, Try.ntmps70
  go_wp2
  refine wp_loop_rounds 5 ?_
  rw [rounds_succ]
  go_wp2
  go_ret
  exact ⟨rfl, (Below.refl _ _).alloc (Nat.le_refl _) _⟩

set_option maxHeartbeats 400000 in
theorem bl0 (w : World) : Calls Try.prog 64 #[.agg #[.int .u64 0, .int .u64 0, .int .u64 0, .int .u64 0]] w fun e w' => e = .returned (.int .i64 0) ∧ Below w.heap.size w w' := by
  go_enter Try.func64, Try.ntmps64
  go_wp2_with fail
  refine (pl0 _).mono ?_
  rintro e w1 ⟨rfl, hb1⟩
  obtain ⟨hc, hf⟩ := bcell hb1
  go_wp2
  go_ret
  exact ⟨rfl, ((Below.refl _ _).alloc (Nat.le_refl _) _).trans (hb1.mono (by simp))⟩
set_option maxHeartbeats 400000 in
theorem bl4 (x0 x1 x2 x3 : Int) (h : (x3 == 0) = false) (p3 : 0 ≤ x3) (u3 : x3 < 18446744073709551616) (w : World) : Calls Try.prog 64 #[.agg #[.int .u64 x0, .int .u64 x1, .int .u64 x2, .int .u64 x3]] w fun e w' => e = .returned (.int .i64 (192 + Lib.bitLen x3.toNat)) ∧ Below w.heap.size w w' := by
  have hl := Lib.bitLen_le x3.toNat 64 (Nat.le_refl _) (by omega)
  go_enter Try.func64, Try.ntmps64
  go_wp2_with fail
  refine (pl4 x0 x1 x2 x3 h _).mono ?_
  rintro e w1 ⟨rfl, hb1⟩
  obtain ⟨hc, hf⟩ := bcell hb1
  go_wp2_with (go_at_call 75; refine (len64 x3 _ p3 (by omega)).mono ?_; rintro e w' ⟨rfl, rfl⟩)
  go_ret
  exact ⟨rfl, ((Below.refl _ _).alloc (Nat.le_refl _) _).trans (hb1.mono (by simp))⟩

set_option maxHeartbeats 400000 in
theorem bl1 (x0 : Int) (h : (x0 == 0) = false) (p3 : 0 ≤ x0) (u3 : x0 < 18446744073709551616) (w : World) : Calls Try.prog 64 #[.agg #[.int .u64 x0, .int .u64 0, .int .u64 0, .int .u64 0]] w fun e w' => e = .returned (.int .i64 (Lib.bitLen x0.toNat)) ∧ Below w.heap.size w w' := by
  have hl := Lib.bitLen_le x0.toNat 64 (Nat.le_refl _) (by omega)
  go_enter Try.func64, Try.ntmps64
  go_wp2_with fail
  refine (pl1 x0 h _).mono ?_
  rintro e w1 ⟨rfl, hb1⟩
  obtain ⟨hc, hf⟩ := bcell hb1
  go_wp2_with (go_at_call 75; refine (len64 x0 _ p3 (by omega)).mono ?_; rintro e w' ⟨rfl, rfl⟩)
  go_ret
  exact ⟨rfl, ((Below.refl _ _).alloc (Nat.le_refl _) _).trans (hb1.mono (by simp))⟩
set_option maxHeartbeats 400000 in
theorem bl2 (x0 x1 : Int) (h : (x1 == 0) = false) (p3 : 0 ≤ x1) (u3 : x1 < 18446744073709551616) (w : World) : Calls Try.prog 64 #[.agg #[.int .u64 x0, .int .u64 x1, .int .u64 0, .int .u64 0]] w fun e w' => e = .returned (.int .i64 (64 + Lib.bitLen x1.toNat)) ∧ Below w.heap.size w w' := by
  have hl := Lib.bitLen_le x1.toNat 64 (Nat.le_refl _) (by omega)
  go_enter Try.func64, Try.ntmps64
  go_wp2_with fail
  refine (pl2 x0 x1 h _).mono ?_
  rintro e w1 ⟨rfl, hb1⟩
  obtain ⟨hc, hf⟩ := bcell hb1
  go_wp2_with (go_at_call 75; refine (len64 x1 _ p3 (by omega)).mono ?_; rintro e w' ⟨rfl, rfl⟩)
  go_ret
  exact ⟨rfl, ((Below.refl _ _).alloc (Nat.le_refl _) _).trans (hb1.mono (by simp))⟩
set_option maxHeartbeats 400000 in
theorem bl3 (x0 x1 x2 : Int) (h : (x2 == 0) = false) (p3 : 0 ≤ x2) (u3 : x2 < 18446744073709551616) (w : World) : Calls Try.prog 64 #[.agg #[.int .u64 x0, .int .u64 x1, .int .u64 x2, .int .u64 0]] w fun e w' => e = .returned (.int .i64 (128 + Lib.bitLen x2.toNat)) ∧ Below w.heap.size w w' := by
  have hl := Lib.bitLen_le x2.toNat 64 (Nat.le_refl _) (by omega)
  go_enter Try.func64, Try.ntmps64
  go_wp2_with fail
  refine (pl3 x0 x1 x2 h _).mono ?_
  rintro e w1 ⟨rfl, hb1⟩
  obtain ⟨hc, hf⟩ := bcell hb1
  go_wp2_with (go_at_call 75; refine (len64 x2 _ p3 (by omega)).mono ?_; rintro e w' ⟨rfl, rfl⟩)
  go_ret
  exact ⟨rfl, ((Below.refl _ _).alloc (Nat.le_refl _) _).trans (hb1.mono (by simp))⟩

end Go.Proofs.Ytbephahokhnccaa

