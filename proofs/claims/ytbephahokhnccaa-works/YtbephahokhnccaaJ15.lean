/-
  number.And, Or, Xor, Compare, Less, truth, negative, negate, size at this program: what they return.
  number.size and SLess at this program: what they return.
-/
import Derived.Test.YtbephahokhnccaaSum
import Derived.Test.YtbephahokhnccaaCells
import Derived.Test.YtbephahokhnccaaExp
import Derived.Test.YtbephahokhnccaaHeld
import Derived.Deep.QuietTactic
import Derived.BigQuiet
import Derived.Deep.RegionWith
import Derived.Handy
import Derived.Deep.RegionHeld3
namespace Go.Proofs.Ytbephahokhnccaa
open Go.RowKit Go.Shelf
attribute [local go_sem] wd

set_option maxHeartbeats 1000000 in
theorem and_l (a0 a1 a2 a3 b0 b1 b2 b3 : Int) (w : World) :
    Calls Try.prog 41 #[.agg #[.int .u64 a0, .int .u64 a1, .int .u64 a2, .int .u64 a3], .agg #[.int .u64 b0, .int .u64 b1, .int .u64 b2, .int .u64 b3]] w fun e w' => e = .returned (.agg #[.int .u64 (bits .and .u64 a0 b0), .int .u64 (bits .and .u64 a1 b1), .int .u64 (bits .and .u64 a2 b2), .int .u64 (bits .and .u64 a3 b3)]) ∧ Below w.heap.size w w' := by
  go_enter Try.func41, Try.ntmps41
  go_wp2
  refine wp_loop_rounds 5 ?_
  rw [rounds_succ]
  go_wp2
  go_region
  go_wp2
  rw [rounds_succ]
  go_wp2
  go_region
  go_wp2
  rw [rounds_succ]
  go_wp2
  go_region
  go_wp2
  rw [rounds_succ]
  go_wp2
  go_region
  go_wp2
  rw [rounds_succ]
  go_wp2
  simp [bodyPost, results, Try.results41, go_sem]
  exact (below3 _ _ _ _).drew.drew.drew.drew

theorem lim_and (a b i : Nat) : bits .and .u64 (lim a i) (lim b i) = lim (a &&& b) i := by
  unfold lim
  have e : (18446744073709551616 : Nat) ^ i = 2 ^ (64 * i) := by
    rw [show (18446744073709551616 : Nat) = 2 ^ 64 from rfl, ← Nat.pow_mul]
  have m : ∀ x : Nat, x % 18446744073709551616 < 18446744073709551616 := fun x => Nat.mod_lt x (by decide)
  rw [bits_and_u64_nat _ _ (m _) (m _), e, Nat.and_div_two_pow]
  congr 1
  exact (Nat.and_mod_two_pow (n := 64)).symm

theorem and_ (a b : Nat) (w : World) :
    Calls Try.prog 41 #[wd a, wd b] w fun e w' => e = .returned (wd (a &&& b)) ∧ Below w.heap.size w w' := by
  refine (and_l _ _ _ _ _ _ _ _ w).mono fun e w' ⟨he, hb⟩ => ⟨?_, hb⟩
  rw [he, lim_and, lim_and, lim_and, lim_and]

set_option maxHeartbeats 1000000 in
theorem or_l (a0 a1 a2 a3 b0 b1 b2 b3 : Int) (w : World) :
    Calls Try.prog 42 #[.agg #[.int .u64 a0, .int .u64 a1, .int .u64 a2, .int .u64 a3], .agg #[.int .u64 b0, .int .u64 b1, .int .u64 b2, .int .u64 b3]] w fun e w' => e = .returned (.agg #[.int .u64 (bits .or .u64 a0 b0), .int .u64 (bits .or .u64 a1 b1), .int .u64 (bits .or .u64 a2 b2), .int .u64 (bits .or .u64 a3 b3)]) ∧ Below w.heap.size w w' := by
  go_enter Try.func42, Try.ntmps42
  go_wp2
  refine wp_loop_rounds 5 ?_
  rw [rounds_succ]
  go_wp2
  go_region
  go_wp2
  rw [rounds_succ]
  go_wp2
  go_region
  go_wp2
  rw [rounds_succ]
  go_wp2
  go_region
  go_wp2
  rw [rounds_succ]
  go_wp2
  go_region
  go_wp2
  rw [rounds_succ]
  go_wp2
  simp [bodyPost, results, Try.results42, go_sem]
  exact (below3 _ _ _ _).drew.drew.drew.drew

theorem lim_or (a b i : Nat) : bits .or .u64 (lim a i) (lim b i) = lim (a ||| b) i := by
  unfold lim
  have e : (18446744073709551616 : Nat) ^ i = 2 ^ (64 * i) := by
    rw [show (18446744073709551616 : Nat) = 2 ^ 64 from rfl, ← Nat.pow_mul]
  have m : ∀ x : Nat, x % 18446744073709551616 < 18446744073709551616 := fun x => Nat.mod_lt x (by decide)
  rw [bits_or_u64_nat _ _ (m _) (m _), e, Nat.or_div_two_pow]
  congr 1
  exact (Nat.or_mod_two_pow (n := 64)).symm

theorem or_ (a b : Nat) (w : World) :
    Calls Try.prog 42 #[wd a, wd b] w fun e w' => e = .returned (wd (a ||| b)) ∧ Below w.heap.size w w' := by
  refine (or_l _ _ _ _ _ _ _ _ w).mono fun e w' ⟨he, hb⟩ => ⟨?_, hb⟩
  rw [he, lim_or, lim_or, lim_or, lim_or]

set_option maxHeartbeats 1000000 in
theorem xor_l (a0 a1 a2 a3 b0 b1 b2 b3 : Int) (w : World) :
    Calls Try.prog 43 #[.agg #[.int .u64 a0, .int .u64 a1, .int .u64 a2, .int .u64 a3], .agg #[.int .u64 b0, .int .u64 b1, .int .u64 b2, .int .u64 b3]] w fun e w' => e = .returned (.agg #[.int .u64 (bits .xor .u64 a0 b0), .int .u64 (bits .xor .u64 a1 b1), .int .u64 (bits .xor .u64 a2 b2), .int .u64 (bits .xor .u64 a3 b3)]) ∧ Below w.heap.size w w' := by
  go_enter Try.func43, Try.ntmps43
  go_wp2
  refine wp_loop_rounds 5 ?_
  rw [rounds_succ]
  go_wp2
  go_region
  go_wp2
  rw [rounds_succ]
  go_wp2
  go_region
  go_wp2
  rw [rounds_succ]
  go_wp2
  go_region
  go_wp2
  rw [rounds_succ]
  go_wp2
  go_region
  go_wp2
  rw [rounds_succ]
  go_wp2
  simp [bodyPost, results, Try.results43, go_sem]
  exact (below3 _ _ _ _).drew.drew.drew.drew

theorem lim_xor (a b i : Nat) : bits .xor .u64 (lim a i) (lim b i) = lim (a ^^^ b) i := by
  unfold lim
  have e : (18446744073709551616 : Nat) ^ i = 2 ^ (64 * i) := by
    rw [show (18446744073709551616 : Nat) = 2 ^ 64 from rfl, ← Nat.pow_mul]
  have m : ∀ x : Nat, x % 18446744073709551616 < 18446744073709551616 := fun x => Nat.mod_lt x (by decide)
  rw [bits_xor_u64_nat _ _ (m _) (m _), e, Nat.xor_div_two_pow]
  congr 1
  exact (Nat.xor_mod_two_pow (n := 64)).symm

theorem xor_ (a b : Nat) (w : World) :
    Calls Try.prog 43 #[wd a, wd b] w fun e w' => e = .returned (wd (a ^^^ b)) ∧ Below w.heap.size w w' := by
  refine (xor_l _ _ _ _ _ _ _ _ w).mono fun e w' ⟨he, hb⟩ => ⟨?_, hb⟩
  rw [he, lim_xor, lim_xor, lim_xor, lim_xor]

def cmpI (x y : Int) : Int := if x < y then -1 else if y < x then 1 else 0
set_option maxHeartbeats 400000 in
theorem cmp64 (x y : Int) (w : World) : Calls Try.prog 76 #[.int .u64 x, .int .u64 y] w fun e w' => e = .returned (.int .i64 (cmpI x y)) ∧ w' = w := by
  by_cases h : x < y
  · have hc : cmpI x y = -1 := by unfold cmpI; rw [if_pos h]
    rw [hc]; clear hc
    go_enter Try.func76, Try.ntmps76
    go_wp2
    go_ret
    exact ⟨rfl, rfl⟩
  · by_cases h2 : y < x
    · have hc : cmpI x y = 1 := by unfold cmpI; rw [if_neg h, if_pos h2]
      rw [hc]; clear hc
      go_enter Try.func76, Try.ntmps76
      go_wp2
      go_ret
      exact ⟨rfl, rfl⟩
    · have hc : cmpI x y = 0 := by unfold cmpI; rw [if_neg h, if_neg h2]
      rw [hc]; clear hc
      go_enter Try.func76, Try.ntmps76
      go_wp2
      go_ret
      exact ⟨rfl, rfl⟩

set_option maxHeartbeats 1000000 in
theorem cmp_3 (a0 a1 a2 a3 b0 b1 b2 b3 : Int) (h : (a3 != b3) = true) (w : World) :
    Calls Try.prog 67 #[.agg #[.int .u64 a0, .int .u64 a1, .int .u64 a2, .int .u64 a3], .agg #[.int .u64 b0, .int .u64 b1, .int .u64 b2, .int .u64 b3]] w fun e w' => e = .returned (.int .i64 (cmpI a3 b3)) ∧ Below w.heap.size w w' := by
  go_enter Try.func67, Try.ntmps67
  go_wp2
  refine wp_loop_rounds 5 ?_
  rw [rounds_succ]
  go_wp2
  go_quiet (fail)
  go_wp2
  go_region_with (go_at_call 76; refine (cmp64 a3 b3 _).mono ?_; rintro e w' ⟨rfl, hw⟩; rw [hw])
  all_goals
    go_wp2
    go_ret
    exact ⟨rfl, below_drewN (by go_grown) _⟩

set_option maxHeartbeats 1000000 in
theorem cmp_2 (a0 a1 a2 b0 b1 b2 x3 : Int) (h : (a2 != b2) = true) (w : World) :
    Calls Try.prog 67 #[.agg #[.int .u64 a0, .int .u64 a1, .int .u64 a2, .int .u64 x3], .agg #[.int .u64 b0, .int .u64 b1, .int .u64 b2, .int .u64 x3]] w fun e w' => e = .returned (.int .i64 (cmpI a2 b2)) ∧ Below w.heap.size w w' := by
  go_enter Try.func67, Try.ntmps67
  go_wp2
  refine wp_loop_rounds 5 ?_
  rw [rounds_succ]
  go_wp2
  go_quiet (fail)
  go_wp2
  rw [rounds_succ]
  go_wp2
  go_quiet (fail)
  go_wp2
  go_region_with (go_at_call 76; refine (cmp64 a2 b2 _).mono ?_; rintro e w' ⟨rfl, hw⟩; rw [hw])
  all_goals
    go_wp2
    go_ret
    exact ⟨rfl, below_drewN (by go_grown) _⟩

set_option maxHeartbeats 1000000 in
theorem cmp_1 (a0 a1 b0 b1 x2 x3 : Int) (h : (a1 != b1) = true) (w : World) :
    Calls Try.prog 67 #[.agg #[.int .u64 a0, .int .u64 a1, .int .u64 x2, .int .u64 x3], .agg #[.int .u64 b0, .int .u64 b1, .int .u64 x2, .int .u64 x3]] w fun e w' => e = .returned (.int .i64 (cmpI a1 b1)) ∧ Below w.heap.size w w' := by
  go_enter Try.func67, Try.ntmps67
  go_wp2
  refine wp_loop_rounds 5 ?_
  rw [rounds_succ]
  go_wp2
  go_quiet (fail)
  go_wp2
  rw [rounds_succ]
  go_wp2
  go_quiet (fail)
  go_wp2
  rw [rounds_succ]
  go_wp2
  go_quiet (fail)
  go_wp2
  go_region_with (go_at_call 76; refine (cmp64 a1 b1 _).mono ?_; rintro e w' ⟨rfl, hw⟩; rw [hw])
  all_goals
    go_wp2
    go_ret
    exact ⟨rfl, below_drewN (by go_grown) _⟩

set_option maxHeartbeats 1000000 in
theorem cmp_0 (a0 b0 x1 x2 x3 : Int) (h : (a0 != b0) = true) (w : World) :
    Calls Try.prog 67 #[.agg #[.int .u64 a0, .int .u64 x1, .int .u64 x2, .int .u64 x3], .agg #[.int .u64 b0, .int .u64 x1, .int .u64 x2, .int .u64 x3]] w fun e w' => e = .returned (.int .i64 (cmpI a0 b0)) ∧ Below w.heap.size w w' := by
  go_enter Try.func67, Try.ntmps67
  go_wp2
  refine wp_loop_rounds 5 ?_
  rw [rounds_succ]
  go_wp2
  go_quiet (fail)
  go_wp2
  rw [rounds_succ]
  go_wp2
  go_quiet (fail)
  go_wp2
  rw [rounds_succ]
  go_wp2
  go_quiet (fail)
  go_wp2
  rw [rounds_succ]
  go_wp2
  go_quiet (fail)
  go_wp2
  go_region_with (go_at_call 76; refine (cmp64 a0 b0 _).mono ?_; rintro e w' ⟨rfl, hw⟩; rw [hw])
  all_goals
    go_wp2
    go_ret
    exact ⟨rfl, below_drewN (by go_grown) _⟩

set_option maxHeartbeats 1000000 in
theorem cmp_eq (x0 x1 x2 x3 : Int) (w : World) :
    Calls Try.prog 67 #[.agg #[.int .u64 x0, .int .u64 x1, .int .u64 x2, .int .u64 x3], .agg #[.int .u64 x0, .int .u64 x1, .int .u64 x2, .int .u64 x3]] w fun e w' => e = .returned (.int .i64 0) ∧ Below w.heap.size w w' := by
  go_enter Try.func67, Try.ntmps67
  go_wp2
  refine wp_loop_rounds 5 ?_
  rw [rounds_succ]
  go_wp2
  go_quiet (fail)
  go_wp2
  rw [rounds_succ]
  go_wp2
  go_quiet (fail)
  go_wp2
  rw [rounds_succ]
  go_wp2
  go_quiet (fail)
  go_wp2
  rw [rounds_succ]
  go_wp2
  go_quiet (fail)
  go_wp2
  rw [rounds_succ]
  go_wp2
  go_ret
  exact ⟨rfl, below_drewN ((((Below.refl _ _).alloc (Nat.le_refl _) _).alloc (by simp) _)) _⟩

/-- Compare, of numbers. -/
theorem compare (a b : Nat) (ha : a < M) (hb : b < M) (w : World) :
    Calls Try.prog 67 #[wd a, wd b] w fun e w' => e = .returned (.int .i64 (cmpI a b)) ∧ Below w.heap.size w w' := by
  have sa := lim_sum a ha
  have sb := lim_sum b hb
  have l0 := lim_nn a 0; have l1 := lim_nn a 1; have l2 := lim_nn a 2; have l3 := lim_nn a 3
  have u0 := lim_lt a 0; have u1 := lim_lt a 1; have u2 := lim_lt a 2; have u3 := lim_lt a 3
  have k0 := lim_nn b 0; have k1 := lim_nn b 1; have k2 := lim_nn b 2; have k3 := lim_nn b 3
  have v0 := lim_lt b 0; have v1 := lim_lt b 1; have v2 := lim_lt b 2; have v3 := lim_lt b 3
  unfold wd
  generalize lim a 0 = a0 at *; generalize lim a 1 = a1 at *; generalize lim a 2 = a2 at *; generalize lim a 3 = a3 at *
  generalize lim b 0 = b0 at *; generalize lim b 1 = b1 at *; generalize lim b 2 = b2 at *; generalize lim b 3 = b3 at *
  by_cases h3 : a3 = b3
  · subst h3
    by_cases h2 : a2 = b2
    · subst h2
      by_cases h1 : a1 = b1
      · subst h1
        by_cases h0 : a0 = b0
        · subst h0
          have e : cmpI a b = 0 := by unfold cmpI; rw [if_neg (by omega), if_neg (by omega)]
          rw [e]
          exact cmp_eq a0 a1 a2 a3 w
        · have e : cmpI a b = cmpI a0 b0 := by unfold cmpI; split <;> split <;> (try split) <;> (try split) <;> first | rfl | omega
          rw [e]
          exact cmp_0 a0 b0 a1 a2 a3 (by simpa using h0) w
      · have e : cmpI a b = cmpI a1 b1 := by unfold cmpI; split <;> split <;> (try split) <;> (try split) <;> first | rfl | omega
        rw [e]
        exact cmp_1 a0 a1 b0 b1 a2 a3 (by simpa using h1) w
    · have e : cmpI a b = cmpI a2 b2 := by unfold cmpI; split <;> split <;> (try split) <;> (try split) <;> first | rfl | omega
      rw [e]
      exact cmp_2 a0 a1 a2 b0 b1 b2 a3 (by simpa using h2) w
  · have e : cmpI a b = cmpI a3 b3 := by unfold cmpI; split <;> split <;> (try split) <;> (try split) <;> first | rfl | omega
    rw [e]
    exact cmp_3 a0 a1 a2 a3 b0 b1 b2 b3 (by simpa using h3) w

theorem cmpI_neg (a b : Nat) : decide (cmpI a b < 0) = decide (a < b) := by
  unfold cmpI
  by_cases h : (a : Int) < b
  · rw [if_pos h]; have : a < b := by omega
    simp [this]
  · rw [if_neg h]; have : ¬ a < b := by omega
    split <;> simp [this]

set_option maxHeartbeats 400000 in
/-- Less, of numbers. -/
theorem less (a b : Nat) (ha : a < M) (hb : b < M) (w : World) :
    Calls Try.prog 39 #[wd a, wd b] w fun e w' => e = .returned (.bool (decide (a < b))) ∧ Below w.heap.size w w' := by
  rw [← cmpI_neg]
  have hcmp := compare a b ha hb
  generalize cmpI (a : Int) (b : Int) = c at hcmp ⊢
  go_enter Try.func39, Try.ntmps39
  go_wp2_with fail
  refine (hcmp _).mono ?_
  rintro e w1 ⟨rfl, hb1⟩
  clear hcmp
  go_wp2
  go_ret
  exact ⟨rfl, Below.trans (((Below.refl _ _).alloc (Nat.le_refl _) _).alloc (by simp) _) (hb1.mono (by simp; omega))⟩

/-- The word of a truth. -/
def tw (t : Bool) : Nat := if t then 1 else 0
set_option maxHeartbeats 400000 in
theorem truth (t : Bool) (w : World) : Calls Try.prog 38 #[.bool t] w fun e w' => e = .returned (wd (tw t)) ∧ Below w.heap.size w w' := by
  cases t
  · have e : wd (tw false) = .agg #[.int .u64 0, .int .u64 0, .int .u64 0, .int .u64 0] := by unfold tw wd; simp [lim_z]
    rw [e]
    go_enter Try.func38, Try.ntmps38
    go_wp2
    simp [bodyPost, results, Try.results38, go_sem]
    exact (Below.refl _ _).alloc (Nat.le_refl _) _
  · have e : wd (tw true) = .agg #[.int .u64 1, .int .u64 0, .int .u64 0, .int .u64 0] := by unfold tw wd; simp [lim1_0, lim1_1, lim1_2, lim1_3]
    rw [e]
    go_enter Try.func38, Try.ntmps38
    go_wp2
    simp [bodyPost, results, Try.results38, go_sem]
    exact (Below.refl _ _).alloc (Nat.le_refl _) _

/-- Is a number's highest bit set? -/
def neg (a : Nat) : Bool := decide (57896044618658097711785492504343953926634992332820282019728792003956564819968 ≤ a)
theorem neg_lim (a : Nat) (ha : a < M) : (lim a 3 / 9223372036854775808 == 1) = neg a := by
  have s := lim_sum a ha
  have l0 := lim_nn a 0; have l1 := lim_nn a 1; have l2 := lim_nn a 2; have l3 := lim_nn a 3
  have u0 := lim_lt a 0; have u1 := lim_lt a 1; have u2 := lim_lt a 2; have u3 := lim_lt a 3
  unfold neg
  by_cases h : 57896044618658097711785492504343953926634992332820282019728792003956564819968 ≤ a
  · have : lim a 3 / 9223372036854775808 = 1 := by omega
    simp [h, this]
  · have : ¬ lim a 3 / 9223372036854775808 = 1 := by omega
    simp [h, this]
set_option maxHeartbeats 400000 in
theorem negative (a : Nat) (ha : a < M) (w : World) : Calls Try.prog 62 #[wd a] w fun e w' => e = .returned (.bool (neg a)) ∧ Below w.heap.size w w' := by
  rw [← neg_lim a ha]
  go_enter Try.func62, Try.ntmps62
  go_wp2
  go_ret
  exact ⟨rfl, (Below.refl _ _).alloc (Nat.le_refl _) _⟩

/-- The opposite. -/
def opp (a : Nat) : Nat := (M - a) % M
theorem opp_lt (a : Nat) : opp a < M := Nat.mod_lt _ M_pos
theorem wd0' : wd 0 = .agg #[.int .u64 0, .int .u64 0, .int .u64 0, .int .u64 0] := by unfold wd; simp [lim_z]
set_option maxHeartbeats 400000 in
theorem negate (a : Nat) (ha : a < M) (w : World) : Calls Try.prog 63 #[wd a] w fun e w' => e = .returned (wd (opp a)) ∧ Below w.heap.size w w' := by
  have hs := sub 0 a M_pos ha
  rw [Nat.zero_add, wd0', show (M - a) % M = opp a from rfl] at hs
  go_enter Try.func63, Try.ntmps63
  go_wp2_with fail
  refine (hs _).mono ?_
  rintro e w1 ⟨rfl, hb1⟩
  clear hs
  obtain ⟨hc, hf⟩ := bcell hb1
  have hz : w.heap.size + 1 < w1.heap.size := by have := hb1.size; simp at this; omega
  have hB : Below w.heap.size w w1 := Below.trans (((Below.refl _ _).alloc (Nat.le_refl _) _).alloc (by simp) _) (hb1.mono (by simp; omega))
  clear hb1
  go_wp2
  simp [bodyPost, results, Try.results63, go_sem, hc]
  exact set4_below hB (by omega) _

/-- The size of a signed number. -/
def siz (a : Nat) : Nat := if neg a then opp a else a

end Go.Proofs.Ytbephahokhnccaa

namespace Go.Proofs.Ytbephahokhnccaa
open Go.RowKit Go.Shelf
attribute [local go_sem] wd

theorem siz_lt (a : Nat) (ha : a < M) : siz a < M := by
  unfold siz
  split
  · exact opp_lt a
  · exact ha

set_option maxHeartbeats 400000 in
theorem size (a : Nat) (ha : a < M) (w : World) : Calls Try.prog 61 #[wd a] w fun e w' => e = .returned (wd (siz a)) ∧ Below w.heap.size w w' := by
  cases hn : neg a
  · have es : siz a = a := by unfold siz; rw [hn]; rfl
    rw [es]
    clear es
    go_enter Try.func61, Try.ntmps61
    go_wp2_with fail
    refine (negative a ha _).mono ?_
    rintro e w1 ⟨rfl, hb1⟩
    obtain ⟨hc, hf⟩ := bcell hb1
    have hB : Below w.heap.size w w1 := Below.trans (((Below.refl _ _).alloc (Nat.le_refl _) _).alloc (by simp) _) (hb1.mono (by simp; omega))
    clear hb1
    go_wp2
    simp [bodyPost, results, Try.results61, go_sem, hc]
    exact set4_below hB (by omega) _
  · have es : siz a = opp a := by unfold siz; rw [hn]; rfl
    rw [es]
    clear es
    go_enter Try.func61, Try.ntmps61
    go_wp2_with fail
    refine (negative a ha _).mono ?_
    rintro e w1 ⟨rfl, hb1⟩
    obtain ⟨hc, hf⟩ := bcell hb1
    have hB : Below w.heap.size w w1 := Below.trans (((Below.refl _ _).alloc (Nat.le_refl _) _).alloc (by simp) _) (hb1.mono (by simp; omega))
    have hz : w.heap.size + 1 < w1.heap.size := by have := hb1.size; simp at this; omega
    have C1 : Cells4 w1 (w.heap.size + 1) 0 := ⟨by simp [hc, go_sem, lim_z], by simp [hc, go_sem, lim_z], by simp [hc, go_sem, lim_z], by simp [hc, go_sem, lim_z], by simp [hf, go_sem], by simp [hf, go_sem], by simp [hf, go_sem], by simp [hf, go_sem]⟩
    clear hb1
    go_wp2_with fail
    refine (negate a ha _).mono ?_
    rintro e w2 ⟨rfl, hb2⟩
    replace hB := hB.trans (hb2.mono hB.size)
    obtain ⟨x0, x1, x2, x3, x4, x5, x6, x7⟩ := C1.below hb2 hz
    clear hb2 C1 hc hf
    go_wp2
    simp [bodyPost, results, Try.results61, go_sem, x0, x1, x2, x3]
    exact set4_below hB (by omega) _

/-- a below b as signed numbers. -/
def slt (a b : Nat) : Bool := if neg a != neg b then neg a else decide (a < b)

theorem held_start2 (w : World) (a b : Nat) : Held3 w (put4 (put4 w a) b) w.heap.size a (w.heap.size + 1) b w.heap.size a := by
  have h1 := put4_new w a
  have h2 := put4_new (put4 w a) b
  have s1 : (put4 w a).heap.size = w.heap.size + 1 := by simp
  have s2 : (put4 (put4 w a) b).heap.size = w.heap.size + 1 + 1 := by simp
  have k2 := put4_below (put4 w a) b
  have e1 := Eq4.keep h1 k2 (by omega)
  rw [s1] at h2
  exact ⟨e1, h2, e1, ⟨by omega, by omega, by omega⟩, (put4_below w a).trans (k2.mono (by omega))⟩

set_option maxHeartbeats 1000000 in
theorem sless (a b : Nat) (ha : a < M) (hb : b < M) (w : World) : Calls Try.prog 40 #[wd a, wd b] w fun e w' => e = .returned (.bool (slt a b)) ∧ Below w.heap.size w w' := by
  have hS := held_start2 w a b
  cases hna : neg a <;> cases hnb : neg b
  · have es : slt a b = decide (a < b) := by unfold slt; rw [hna, hnb]; rfl
    rw [es]
    clear es
    go_enter Try.func40, Try.ntmps40
    go_wp2
    go_region_held3 (fun W => Held3 w W w.heap.size a (w.heap.size + 1) b w.heap.size a) (first | exact Held3.drew hS | exact Held3.keep (by assumption) (by assumption))
      (first | (go_at_call 62; refine (negative a ha _).mono ?_; rintro e wq ⟨rfl, hbn⟩) | (go_at_call 62; refine (negative b hb _).mono ?_; rintro e wq ⟨rfl, hbn⟩))
    clear hS
    have hS : Held3 w wq w.heap.size a (w.heap.size + 1) b w.heap.size a := by assumption
    go_wp2_with fail
    refine (less a b ha hb _).mono ?_
    rintro e w2 ⟨rfl, hb2⟩
    go_wp2
    go_ret
    exact ⟨rfl, (Held3.keep hS hb2).2.2.2.2⟩
  · have es : slt a b = false := by unfold slt; rw [hna, hnb]; rfl
    rw [es]
    clear es
    go_enter Try.func40, Try.ntmps40
    go_wp2
    go_region_held3 (fun W => Held3 w W w.heap.size a (w.heap.size + 1) b w.heap.size a) (first | exact Held3.drew hS | exact Held3.keep (by assumption) (by assumption))
      (first | (go_at_call 62; refine (negative a ha _).mono ?_; rintro e wq ⟨rfl, hbn⟩) | (go_at_call 62; refine (negative b hb _).mono ?_; rintro e wq ⟨rfl, hbn⟩))
    clear hS
    have hS : Held3 w wq w.heap.size a (w.heap.size + 1) b w.heap.size a := by assumption
    go_wp2_with fail
    refine (negative a ha _).mono ?_
    rintro e w2 ⟨rfl, hb2⟩
    go_wp2
    go_ret
    exact ⟨rfl, (Held3.keep hS hb2).2.2.2.2⟩
  · have es : slt a b = true := by unfold slt; rw [hna, hnb]; rfl
    rw [es]
    clear es
    go_enter Try.func40, Try.ntmps40
    go_wp2
    go_region_held3 (fun W => Held3 w W w.heap.size a (w.heap.size + 1) b w.heap.size a) (first | exact Held3.drew hS | exact Held3.keep (by assumption) (by assumption))
      (first | (go_at_call 62; refine (negative a ha _).mono ?_; rintro e wq ⟨rfl, hbn⟩) | (go_at_call 62; refine (negative b hb _).mono ?_; rintro e wq ⟨rfl, hbn⟩))
    clear hS
    have hS : Held3 w wq w.heap.size a (w.heap.size + 1) b w.heap.size a := by assumption
    go_wp2_with fail
    refine (negative a ha _).mono ?_
    rintro e w2 ⟨rfl, hb2⟩
    go_wp2
    go_ret
    exact ⟨rfl, (Held3.keep hS hb2).2.2.2.2⟩
  · have es : slt a b = decide (a < b) := by unfold slt; rw [hna, hnb]; rfl
    rw [es]
    clear es
    go_enter Try.func40, Try.ntmps40
    go_wp2
    go_region_held3 (fun W => Held3 w W w.heap.size a (w.heap.size + 1) b w.heap.size a) (first | exact Held3.drew hS | exact Held3.keep (by assumption) (by assumption))
      (first | (go_at_call 62; refine (negative a ha _).mono ?_; rintro e wq ⟨rfl, hbn⟩) | (go_at_call 62; refine (negative b hb _).mono ?_; rintro e wq ⟨rfl, hbn⟩))
    clear hS
    have hS : Held3 w wq w.heap.size a (w.heap.size + 1) b w.heap.size a := by assumption
    go_wp2_with fail
    refine (less a b ha hb _).mono ?_
    rintro e w2 ⟨rfl, hb2⟩
    go_wp2
    go_ret
    exact ⟨rfl, (Held3.keep hS hb2).2.2.2.2⟩

end Go.Proofs.Ytbephahokhnccaa

