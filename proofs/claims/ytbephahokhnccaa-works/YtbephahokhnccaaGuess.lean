/-
  number.guess at this program: what it returns is never too small.
-/
import Derived.Test.YtbephahokhnccaaJ16
import Derived.RegionTactic
import Derived.Deep.Draws
import Derived.ChangeAlike
namespace Go.Proofs.Ytbephahokhnccaa
open Go.RowKit Go.Shelf

set_option maxHeartbeats 1000000 in
theorem div64_0 (lo y : Int) (w : World) (b0 : 0 ≤ lo) (b1 : lo < 18446744073709551616) (y0 : 9223372036854775808 ≤ y) (y1 : y < 18446744073709551616) :
    Calls Try.prog 82 #[.int .u64 0, .int .u64 lo, .int .u64 y] w fun e w' => ∃ q r : Int, e = .returned (.tuple #[.int .u64 q, .int .u64 r]) ∧ Hid (q = lo / y) ∧ w' = w.drew := by
  have c0 : (y == 0) = false := by simp; omega
  have c2 : decide (y ≤ 0) = false := by simp; omega
  go_enter Try.func82, Try.ntmps82
  go_wp2
  go_region
  all_goals go_wp2
  go_ret2
  exact ⟨_, _, rfl, rfl, rfl⟩

/-- What a guess g is good for. -/
def NotSmall (g high low d : Int) : Prop := ∀ q : Int, q < 18446744073709551616 → q * d ≤ high * 18446744073709551616 + low → q ≤ g

theorem notSmall_div {high low d : Int} (h : 0 < d) : NotSmall ((high * 18446744073709551616 + low) / d) high low d := fun _ _ hq => Int.le_ediv_of_mul_le h hq

/-- The guess. -/
def gOf (high low d : Int) : Int := if d ≤ high then 18446744073709551615 else (high * 18446744073709551616 + low) / d

theorem gOf_ok {high low d : Int} (a0 : 0 ≤ high) (b0 : 0 ≤ low) (b1 : low < 18446744073709551616) (d0 : 0 < d) : 0 ≤ gOf high low d ∧ gOf high low d < 18446744073709551616 ∧ NotSmall (gOf high low d) high low d := by
  unfold gOf
  split
  · exact ⟨by decide, by decide, fun q h _ => by omega⟩
  · refine ⟨Int.ediv_nonneg (by omega) (by omega), ?_, notSmall_div d0⟩
    apply Int.ediv_lt_of_lt_mul d0
    omega

set_option maxHeartbeats 400000 in
theorem guess (high low d : Int) (w : World) (a0 : 0 ≤ high) (b0 : 0 ≤ low) (b1 : low < 18446744073709551616) (d0 : 9223372036854775808 ≤ d) (d1 : d < 18446744073709551616) :
    Calls Try.prog 78 #[.int .u64 high, .int .u64 low, .int .u64 d] w fun e w' => e = .returned (.int .u64 (gOf high low d)) ∧ ∃ n : Nat, w' = w.drewN n := by
  by_cases c : d ≤ high
  · have hg : gOf high low d = 18446744073709551615 := by unfold gOf; rw [if_pos c]
    rw [hg]
    clear hg
    go_enter Try.func78, Try.ntmps78
    go_wp2
    go_ret
    exact ⟨rfl, 0, rfl⟩
  · have c' : high < d := by omega
    have hg : gOf high low d = (high * 18446744073709551616 + low) / d := by unfold gOf; rw [if_neg c]
    rw [hg]
    by_cases z : high = 0
    · subst z
      clear hg
      go_enter Try.func78, Try.ntmps78
      go_wp2_with (go_at_call 82; refine (div64_0 low d _ b0 b1 d0 d1).mono ?_; rintro e w' ⟨q, r, rfl, HQ, rfl⟩)
      go_ret
      have e : q = (0 * 18446744073709551616 + low) / d := by rw [HQ.out, Int.zero_mul, Int.zero_add]
      exact ⟨congrArg (fun z => Ending.returned (.int .u64 z)) e, 1, rfl⟩
    · obtain ⟨g, eg⟩ : ∃ g, g = (high * 18446744073709551616 + low) / d := ⟨_, rfl⟩
      have hd := div64 high low d w (by omega) c' b0 b1 d0 d1
      rw [← eg] at hd
      rw [← eg]
      clear eg hg
      go_enter Try.func78, Try.ntmps78
      go_wp2_with (go_at_call 82; refine hd.mono ?_; rintro e w' ⟨r, rfl, rfl⟩)
      go_ret
      exact ⟨rfl, 0, rfl⟩

end Go.Proofs.Ytbephahokhnccaa
