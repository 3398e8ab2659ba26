/-
  number.partLength and bitLength at this program: what they return.
-/
import Derived.Test.YtbephahokhnccaaSum
import Derived.Test.YtbephahokhnccaaLen
namespace Go.Proofs.Ytbephahokhnccaa
open Go.RowKit Go.Shelf

set_option maxHeartbeats 400000 in
theorem pl0 (w : World) : Calls Try.prog 70 #[.agg #[.int .u64 0, .int .u64 0, .int .u64 0, .int .u64 0]] w fun e w' => e = .returned (.int .i64 0) ∧ Below w.heap.size w w' := by
  go_enter Try.func70, Try.ntmps70
  go_wp2
  refine wp_loop_rounds 5 ?_
  rw [rounds_succ]
  go_wp2
  rw [rounds_succ]
  go_wp2
  rw [rounds_succ]
  go_wp2
  rw [rounds_succ]
  go_wp2
  rw [rounds_succ]
  go_wp2
  go_ret
  exact ⟨rfl, (Below.refl _ _).alloc (Nat.le_refl _) _⟩
set_option maxHeartbeats 400000 in
theorem pl1 (x0 : Int) (h : (x0 == 0) = false) (w : World) : Calls Try.prog 70 #[.agg #[.int .u64 x0, .int .u64 0, .int .u64 0, .int .u64 0]] w fun e w' => e = .returned (.int .i64 1) ∧ Below w.heap.size w w' := by
  go_enter Try.func70, Try.ntmps70
  go_wp2
  refine wp_loop_rounds 5 ?_
  rw [rounds_succ]
  go_wp2
  rw [rounds_succ]
  go_wp2
  rw [rounds_succ]
  go_wp2
  rw [rounds_succ]
  go_wp2
  go_ret
  exact ⟨rfl, (Below.refl _ _).alloc (Nat.le_refl _) _⟩
set_option maxHeartbeats 400000 in
theorem pl2 (x0 x1 : Int) (h : (x1 == 0) = false) (w : World) : Calls Try.prog 70 #[.agg #[.int .u64 x0, .int .u64 x1, .int .u64 0, .int .u64 0]] w fun e w' => e = .returned (.int .i64 2) ∧ Below w.heap.size w w' := by
  go_enter Try.func70, Try.ntmps70
  go_wp2
  refine wp_loop_rounds 5 ?_
  rw [rounds_succ]
  go_wp2
  rw [rounds_succ]
  go_wp2
  rw [rounds_succ]
  go_wp2
  go_ret
  exact ⟨rfl, (Below.refl _ _).alloc (Nat.le_refl _) _⟩
set_option maxHeartbeats 400000 in
theorem pl3 (x0 x1 x2 : Int) (h : (x2 == 0) = false) (w : World) : Calls Try.prog 70 #[.agg #[.int .u64 x0, .int .u64 x1, .int .u64 x2, .int .u64 0]] w fun e w' => e = .returned (.int .i64 3) ∧ Below w.heap.size w w' := by
  go_enter Try.func70, Try.ntmps70
  go_wp2
  refine wp_loop_rounds 5 ?_
  rw [rounds_succ]
  go_wp2
  rw [rounds_succ]
  go_wp2
  go_ret
  exact ⟨rfl, (Below.refl _ _).alloc (Nat.le_refl _) _⟩
set_option maxHeartbeats 400000 in
theorem pl4 (x0 x1 x2 x3 : Int) (h : (x3 == 0) = false) (w : World) : Calls Try.prog 70 #[.agg #[.int .u64 x0, .int .u64 x1, .int .u64 x2, .int .u64 x3]] w fun e w' => e = .returned (.int .i64 4) ∧ Below w.heap.size w w' := by
  go_enter Try.func70, Try.ntmps70
  go_wp2
  refine wp_loop_rounds 5 ?_
  rw [rounds_succ]
  go_wp2
  go_ret
  exact ⟨rfl, (Below.refl _ _).alloc (Nat.le_refl _) _⟩

set_option maxHeartbeats 400000 in
theorem bl0 (w : World) : Calls Try.prog 64 #[.agg #[.int .u64 0, .int .u64 0, .int .u64 0, .int .u64 0]] w fun e w' => e = .returned (.int .i64 0) ∧ Below w.heap.size w w' := by
  go_enter Try.func64, Try.ntmps64
  go_wp2_with fail
  refine (pl0 _).mono ?_
  rintro e w1 ⟨rfl, hb1⟩
  obtain ⟨hc, hf⟩ := bcell hb1
  go_wp2
  go_ret
  exact ⟨rfl, ((Below.refl _ _).alloc (Nat.le_refl _) _).trans (hb1.mono (by simp))⟩
set_option maxHeartbeats 400000 in
theorem bl4 (x0 x1 x2 x3 : Int) (h : (x3 == 0) = false) (p3 : 0 ≤ x3) (u3 : x3 < 18446744073709551616) (w : World) : Calls Try.prog 64 #[.agg #[.int .u64 x0, .int .u64 x1, .int .u64 x2, .int .u64 x3]] w fun e w' => e = .returned (.int .i64 (192 + Lib.bitLen x3.toNat)) ∧ Below w.heap.size w w' := by
  have hl := Lib.bitLen_le x3.toNat 64 (Nat.le_refl _) (by omega)
  go_enter Try.func64, Try.ntmps64
  go_wp2_with fail
  refine (pl4 x0 x1 x2 x3 h _).mono ?_
  rintro e w1 ⟨rfl, hb1⟩
  obtain ⟨hc, hf⟩ := bcell hb1
  go_wp2_with (go_at_call 75; refine (len64 x3 _ p3 (by omega)).mono ?_; rintro e w' ⟨rfl, rfl⟩)
  go_ret
  exact ⟨rfl, ((Below.refl _ _).alloc (Nat.le_refl _) _).trans (hb1.mono (by simp))⟩

set_option maxHeartbeats 400000 in
theorem bl1 (x0 : Int) (h : (x0 == 0) = false) (p3 : 0 ≤ x0) (u3 : x0 < 18446744073709551616) (w : World) : Calls Try.prog 64 #[.agg #[.int .u64 x0, .int .u64 0, .int .u64 0, .int .u64 0]] w fun e w' => e = .returned (.int .i64 (Lib.bitLen x0.toNat)) ∧ Below w.heap.size w w' := by
  have hl := Lib.bitLen_le x0.toNat 64 (Nat.le_refl _) (by omega)
  go_enter Try.func64, Try.ntmps64
  go_wp2_with fail
  refine (pl1 x0 h _).mono ?_
  rintro e w1 ⟨rfl, hb1⟩
  obtain ⟨hc, hf⟩ := bcell hb1
  go_wp2_with (go_at_call 75; refine (len64 x0 _ p3 (by omega)).mono ?_; rintro e w' ⟨rfl, rfl⟩)
  go_ret
  exact ⟨rfl, ((Below.refl _ _).alloc (Nat.le_refl _) _).trans (hb1.mono (by simp))⟩
set_option maxHeartbeats 400000 in
theorem bl2 (x0 x1 : Int) (h : (x1 == 0) = false) (p3 : 0 ≤ x1) (u3 : x1 < 18446744073709551616) (w : World) : Calls Try.prog 64 #[.agg #[.int .u64 x0, .int .u64 x1, .int .u64 0, .int .u64 0]] w fun e w' => e = .returned (.int .i64 (64 + Lib.bitLen x1.toNat)) ∧ Below w.heap.size w w' := by
  have hl := Lib.bitLen_le x1.toNat 64 (Nat.le_refl _) (by omega)
  go_enter Try.func64, Try.ntmps64
  go_wp2_with fail
  refine (pl2 x0 x1 h _).mono ?_
  rintro e w1 ⟨rfl, hb1⟩
  obtain ⟨hc, hf⟩ := bcell hb1
  go_wp2_with (go_at_call 75; refine (len64 x1 _ p3 (by omega)).mono ?_; rintro e w' ⟨rfl, rfl⟩)
  go_ret
  exact ⟨rfl, ((Below.refl _ _).alloc (Nat.le_refl _) _).trans (hb1.mono (by simp))⟩
set_option maxHeartbeats 400000 in
theorem bl3 (x0 x1 x2 : Int) (h : (x2 == 0) = false) (p3 : 0 ≤ x2) (u3 : x2 < 18446744073709551616) (w : World) : Calls Try.prog 64 #[.agg #[.int .u64 x0, .int .u64 x1, .int .u64 x2, .int .u64 0]] w fun e w' => e = .returned (.int .i64 (128 + Lib.bitLen x2.toNat)) ∧ Below w.heap.size w w' := by
  have hl := Lib.bitLen_le x2.toNat 64 (Nat.le_refl _) (by omega)
  go_enter Try.func64, Try.ntmps64
  go_wp2_with fail
  refine (pl3 x0 x1 x2 h _).mono ?_
  rintro e w1 ⟨rfl, hb1⟩
  obtain ⟨hc, hf⟩ := bcell hb1
  go_wp2_with (go_at_call 75; refine (len64 x2 _ p3 (by omega)).mono ?_; rintro e w' ⟨rfl, rfl⟩)
  go_ret
  exact ⟨rfl, ((Below.refl _ _).alloc (Nat.le_refl _) _).trans (hb1.mono (by simp))⟩

end Go.Proofs.Ytbephahokhnccaa
