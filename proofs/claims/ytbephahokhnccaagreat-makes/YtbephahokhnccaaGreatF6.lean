/-
 purserref.spread at the stripped program.
-/
import Derived.Test.YtbephahokhnccaaGreatXE7toF4
import Derived.Test.YtbephahokhnccaaGreatXF10toF3
import Derived.Deep.QuietTactic
import Derived.BigQuiet
import Derived.Handy
namespace Go.Mark
open Go.RowKit Go.Proofs
attribute [local go_sem] wd lg
set_option maxRecDepth 100000 in
set_option maxHeartbeats 1000000 in
theorem uw (x : Int) (h0 : 0 ≤ x) (h1 : x < 18446744073709551616) : IntKind.u64.wrap x = x := by rw [IntKind.wrap_u64]; omega
set_option maxRecDepth 100000 in
set_option maxHeartbeats 1000000 in
theorem lim_dig0 (a i : Nat) : lim a i % 4294967296 = dig a (2 * i) := by
 unfold lim dig
 rw [show (4294967296 : Nat) ^ (2 * i) = 18446744073709551616 ^ i by rw [Nat.pow_mul]]
 omega
set_option maxRecDepth 100000 in
set_option maxHeartbeats 1000000 in
theorem lim_dig1 (a i : Nat) : lim a i / 4294967296 = dig a (2 * i + 1) := by
 unfold lim dig
 rw [Nat.pow_succ, show (4294967296 : Nat) ^ (2 * i) = 18446744073709551616 ^ i by rw [Nat.pow_mul], ← Nat.div_div_eq_div_mul]
 omega
set_option maxRecDepth 100000 in
set_option maxHeartbeats 1000000 in
theorem dig_hi (a i : Nat) (ha : a < M) (hi : 8 ≤ i) : dig a i = 0 := by
 unfold dig
 have h : (4294967296 : Nat) ^ 8 ≤ 4294967296 ^ i := Nat.pow_le_pow_right (by decide) hi
 have e : M = 4294967296 ^ 8 := by decide
 rw [Nat.div_eq_of_lt (by omega)]
 rfl
set_option maxRecDepth 100000 in
set_option maxHeartbeats 1000000 in
theorem qt (a : Int) (p : 0 ≤ a) (u : a < 18446744073709551616) : IntKind.u64.wrap (a.tdiv 4294967296) = a / 4294967296 := by
 rw [Int.tdiv_eq_ediv_of_nonneg p]
 exact uw _ (by omega) (by omega)
set_option maxRecDepth 100000 in
set_option maxHeartbeats 1000000 in
theorem spread_l (a0 a1 a2 a3 : Int) (w : World) (p0 : 0 ≤ a0) (p1 : 0 ≤ a1) (p2 : 0 ≤ a2) (p3 : 0 ≤ a3)
  (u0 : a0 < 18446744073709551616) (u1 : a1 < 18446744073709551616) (u2 : a2 < 18446744073709551616) (u3 : a3 < 18446744073709551616) :
  Calls TryQ.prog 29 #[.agg #[.int .u64 a0, .int .u64 a1, .int .u64 a2, .int .u64 a3]] w fun e w' => e = .returned (.agg #[.int .u64 (a0 % 4294967296), .int .u64 (a0 / 4294967296), .int .u64 (a1 % 4294967296), .int .u64 (a1 / 4294967296), .int .u64 (a2 % 4294967296), .int .u64 (a2 / 4294967296), .int .u64 (a3 % 4294967296), .int .u64 (a3 / 4294967296), .int .u64 0, .int .u64 0, .int .u64 0, .int .u64 0, .int .u64 0, .int .u64 0, .int .u64 0, .int .u64 0]) ∧ Below w.heap.size w w' := by
 have q0 := qt a0 p0 u0; have q1 := qt a1 p1 u1; have q2 := qt a2 p2 u2; have q3 := qt a3 p3 u3
 go_enter TryQ.func29, Tryz.ntmps29
 go_wp2
 refine wp_loop_rounds 5 ?_
 rw [rounds_succ]
 go_wp2
 rw [rounds_succ]
 go_wp2
 rw [rounds_succ]
 go_wp2
 rw [rounds_succ]
 go_wp2
 rw [rounds_succ]
 go_wp2
 simp [bodyPost, results, Tryz.results29, go_sem]
 exact below3 _ _ _ _
set_option maxRecDepth 100000 in
set_option maxHeartbeats 1000000 in
theorem spread (a : Nat) (ha : a < M) (w : World) : Calls TryQ.prog 29 #[wd a] w fun e w' => e = .returned (lg a) ∧ Below w.heap.size w w' := by
 refine (spread_l _ _ _ _ w (lim_nn a 0) (lim_nn a 1) (lim_nn a 2) (lim_nn a 3) (lim_lt a 0) (lim_lt a 1) (lim_lt a 2) (lim_lt a 3)).mono fun e w' ⟨he, hb'⟩ => ⟨?_, hb'⟩
 rw [he, lim_dig0, lim_dig0, lim_dig0, lim_dig0, lim_dig1, lim_dig1, lim_dig1, lim_dig1]
 unfold lg
 rw [dig_hi a 8 ha (by decide), dig_hi a 9 ha (by decide), dig_hi a 10 ha (by decide), dig_hi a 11 ha (by decide), dig_hi a 12 ha (by decide), dig_hi a 13 ha (by decide), dig_hi a 14 ha (by decide), dig_hi a 15 ha (by decide)]
end Go.Mark
