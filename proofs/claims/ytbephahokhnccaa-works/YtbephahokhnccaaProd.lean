/-
  number.product at this program: what it returns.
-/
import Derived.Test.YtbephahokhnccaaJ1
import Derived.Test.YtbephahokhnccaaJ2
import Derived.Handy
namespace Go.Proofs.Ytbephahokhnccaa
open Go.RowKit Go.Shelf

theorem mulAdd_x (x y s t : Int) (px : 0 ≤ x) (py : 0 ≤ y) (ps : 0 ≤ s) (pt : 0 ≤ t) (hx : x < 18446744073709551616) (hy : y < 18446744073709551616) (hs : s < 18446744073709551616) (ht : t < 18446744073709551616) (w : World) :
    Calls Try.prog 69 #[.int .u64 x, .int .u64 y, .int .u64 s, .int .u64 t] w fun e w' => ∃ hi lo : Int, e = .returned (.tuple #[.int .u64 hi, .int .u64 lo]) ∧ 0 ≤ hi ∧ hi < 18446744073709551616 ∧ 0 ≤ lo ∧ lo < 18446744073709551616 ∧ Hid (hi * 18446744073709551616 + lo = x * y + s + t) ∧ w' = w := by
  obtain ⟨x, rfl⟩ := Int.eq_ofNat_of_zero_le px
  obtain ⟨y, rfl⟩ := Int.eq_ofNat_of_zero_le py
  obtain ⟨s, rfl⟩ := Int.eq_ofNat_of_zero_le ps
  obtain ⟨t, rfl⟩ := Int.eq_ofNat_of_zero_le pt
  refine (mulAdd x y s t (by omega) (by omega) (by omega) (by omega) w).mono fun _ _ ⟨he, hw⟩ => ⟨_, _, he, ?_⟩
  have hp : x * y ≤ 340282366920938463426481119284349108225 := Nat.mul_le_mul (show x ≤ 18446744073709551615 by omega) (show y ≤ 18446744073709551615 by omega)
  have e : ((x : Int) * y) = ((x * y : Nat) : Int) := (Int.natCast_mul x y).symm
  refine ⟨by omega, by omega, by omega, by omega, ?_, hw⟩
  show _ = _
  rw [e]
  omega

theorem idx0 (x0 x1 x2 x3 : Value) (w : World) : (Instr.index 24 (.agg #[x0, x1, x2, x3]) (.int .i64 0)).run Try.prog w = .ok x0 w := by kernel_rfl
theorem idx1 (x0 x1 x2 x3 : Value) (w : World) : (Instr.index 24 (.agg #[x0, x1, x2, x3]) (.int .i64 1)).run Try.prog w = .ok x1 w := by kernel_rfl
theorem idx2 (x0 x1 x2 x3 : Value) (w : World) : (Instr.index 24 (.agg #[x0, x1, x2, x3]) (.int .i64 2)).run Try.prog w = .ok x2 w := by kernel_rfl
theorem idx3 (x0 x1 x2 x3 : Value) (w : World) : (Instr.index 24 (.agg #[x0, x1, x2, x3]) (.int .i64 3)).run Try.prog w = .ok x3 w := by kernel_rfl
attribute [local go_sem] idx0 idx1 idx2 idx3

set_option maxHeartbeats 4000000 in
theorem product_l (a0 a1 a2 a3 b0 b1 b2 b3 : Int) (w : World)
    (p0 : 0 ≤ a0) (p1 : 0 ≤ a1) (p2 : 0 ≤ a2) (p3 : 0 ≤ a3) (q0 : 0 ≤ b0) (q1 : 0 ≤ b1) (q2 : 0 ≤ b2) (q3 : 0 ≤ b3)
    (u0 : a0 < 18446744073709551616) (u1 : a1 < 18446744073709551616) (u2 : a2 < 18446744073709551616) (u3 : a3 < 18446744073709551616)
    (v0 : b0 < 18446744073709551616) (v1 : b1 < 18446744073709551616) (v2 : b2 < 18446744073709551616) (v3 : b3 < 18446744073709551616) :
    Calls Try.prog 57 #[.agg #[.int .u64 a0, .int .u64 a1, .int .u64 a2, .int .u64 a3], .agg #[.int .u64 b0, .int .u64 b1, .int .u64 b2, .int .u64 b3]] w fun e w' =>
      ∃ r0 r1 r2 r3 r4 r5 r6 r7 : Int, e = .returned (.agg #[.int .u64 r0, .int .u64 r1, .int .u64 r2, .int .u64 r3, .int .u64 r4, .int .u64 r5, .int .u64 r6, .int .u64 r7]) ∧ Part8 r0 r1 r2 r3 r4 r5 r6 r7 ((a0 + a1 * 18446744073709551616 + a2 * 340282366920938463463374607431768211456 + a3 * 6277101735386680763835789423207666416102355444464034512896) * (b0 + b1 * 18446744073709551616 + b2 * 340282366920938463463374607431768211456 + b3 * 6277101735386680763835789423207666416102355444464034512896)) ∧ Below w.heap.size w w' := by
  go_enter Try.func57, Try.ntmps57
  go_wp2
  refine wp_loop_rounds 5 ?_
  rw [rounds_succ]
  go_wp2
  refine wp_loop_rounds 5 ?_
  rw [rounds_succ]
  go_wp2_with (go_at_call 69; refine (mulAdd_x _ _ _ _ (by first | assumption | decide) (by first | assumption | decide) (by first | assumption | decide) (by first | assumption | decide) (by first | assumption | decide) (by first | assumption | decide) (by first | assumption | decide) (by first | assumption | decide) _).mono ?_; rintro e w' ⟨h00, l00, rfl, ha00, hb00, hc00, hd00, H00, rfl⟩)
  rw [rounds_succ]
  go_wp2_with (go_at_call 69; refine (mulAdd_x _ _ _ _ (by first | assumption | decide) (by first | assumption | decide) (by first | assumption | decide) (by first | assumption | decide) (by first | assumption | decide) (by first | assumption | decide) (by first | assumption | decide) (by first | assumption | decide) _).mono ?_; rintro e w' ⟨h01, l01, rfl, ha01, hb01, hc01, hd01, H01, rfl⟩)
  rw [rounds_succ]
  go_wp2_with (go_at_call 69; refine (mulAdd_x _ _ _ _ (by first | assumption | decide) (by first | assumption | decide) (by first | assumption | decide) (by first | assumption | decide) (by first | assumption | decide) (by first | assumption | decide) (by first | assumption | decide) (by first | assumption | decide) _).mono ?_; rintro e w' ⟨h02, l02, rfl, ha02, hb02, hc02, hd02, H02, rfl⟩)
  rw [rounds_succ]
  go_wp2_with (go_at_call 69; refine (mulAdd_x _ _ _ _ (by first | assumption | decide) (by first | assumption | decide) (by first | assumption | decide) (by first | assumption | decide) (by first | assumption | decide) (by first | assumption | decide) (by first | assumption | decide) (by first | assumption | decide) _).mono ?_; rintro e w' ⟨h03, l03, rfl, ha03, hb03, hc03, hd03, H03, rfl⟩)
  rw [rounds_succ]
  go_wp2
  rw [rounds_succ]
  go_wp2
  refine wp_loop_rounds 5 ?_
  rw [rounds_succ]
  go_wp2_with (go_at_call 69; refine (mulAdd_x _ _ _ _ (by first | assumption | decide) (by first | assumption | decide) (by first | assumption | decide) (by first | assumption | decide) (by first | assumption | decide) (by first | assumption | decide) (by first | assumption | decide) (by first | assumption | decide) _).mono ?_; rintro e w' ⟨h10, l10, rfl, ha10, hb10, hc10, hd10, H10, rfl⟩)
  rw [rounds_succ]
  go_wp2_with (go_at_call 69; refine (mulAdd_x _ _ _ _ (by first | assumption | decide) (by first | assumption | decide) (by first | assumption | decide) (by first | assumption | decide) (by first | assumption | decide) (by first | assumption | decide) (by first | assumption | decide) (by first | assumption | decide) _).mono ?_; rintro e w' ⟨h11, l11, rfl, ha11, hb11, hc11, hd11, H11, rfl⟩)
  rw [rounds_succ]
  go_wp2_with (go_at_call 69; refine (mulAdd_x _ _ _ _ (by first | assumption | decide) (by first | assumption | decide) (by first | assumption | decide) (by first | assumption | decide) (by first | assumption | decide) (by first | assumption | decide) (by first | assumption | decide) (by first | assumption | decide) _).mono ?_; rintro e w' ⟨h12, l12, rfl, ha12, hb12, hc12, hd12, H12, rfl⟩)
  rw [rounds_succ]
  go_wp2_with (go_at_call 69; refine (mulAdd_x _ _ _ _ (by first | assumption | decide) (by first | assumption | decide) (by first | assumption | decide) (by first | assumption | decide) (by first | assumption | decide) (by first | assumption | decide) (by first | assumption | decide) (by first | assumption | decide) _).mono ?_; rintro e w' ⟨h13, l13, rfl, ha13, hb13, hc13, hd13, H13, rfl⟩)
  rw [rounds_succ]
  go_wp2
  rw [rounds_succ]
  go_wp2
  refine wp_loop_rounds 5 ?_
  rw [rounds_succ]
  go_wp2_with (go_at_call 69; refine (mulAdd_x _ _ _ _ (by first | assumption | decide) (by first | assumption | decide) (by first | assumption | decide) (by first | assumption | decide) (by first | assumption | decide) (by first | assumption | decide) (by first | assumption | decide) (by first | assumption | decide) _).mono ?_; rintro e w' ⟨h20, l20, rfl, ha20, hb20, hc20, hd20, H20, rfl⟩)
  rw [rounds_succ]
  go_wp2_with (go_at_call 69; refine (mulAdd_x _ _ _ _ (by first | assumption | decide) (by first | assumption | decide) (by first | assumption | decide) (by first | assumption | decide) (by first | assumption | decide) (by first | assumption | decide) (by first | assumption | decide) (by first | assumption | decide) _).mono ?_; rintro e w' ⟨h21, l21, rfl, ha21, hb21, hc21, hd21, H21, rfl⟩)
  rw [rounds_succ]
  go_wp2_with (go_at_call 69; refine (mulAdd_x _ _ _ _ (by first | assumption | decide) (by first | assumption | decide) (by first | assumption | decide) (by first | assumption | decide) (by first | assumption | decide) (by first | assumption | decide) (by first | assumption | decide) (by first | assumption | decide) _).mono ?_; rintro e w' ⟨h22, l22, rfl, ha22, hb22, hc22, hd22, H22, rfl⟩)
  rw [rounds_succ]
  go_wp2_with (go_at_call 69; refine (mulAdd_x _ _ _ _ (by first | assumption | decide) (by first | assumption | decide) (by first | assumption | decide) (by first | assumption | decide) (by first | assumption | decide) (by first | assumption | decide) (by first | assumption | decide) (by first | assumption | decide) _).mono ?_; rintro e w' ⟨h23, l23, rfl, ha23, hb23, hc23, hd23, H23, rfl⟩)
  rw [rounds_succ]
  go_wp2
  rw [rounds_succ]
  go_wp2
  refine wp_loop_rounds 5 ?_
  rw [rounds_succ]
  go_wp2_with (go_at_call 69; refine (mulAdd_x _ _ _ _ (by first | assumption | decide) (by first | assumption | decide) (by first | assumption | decide) (by first | assumption | decide) (by first | assumption | decide) (by first | assumption | decide) (by first | assumption | decide) (by first | assumption | decide) _).mono ?_; rintro e w' ⟨h30, l30, rfl, ha30, hb30, hc30, hd30, H30, rfl⟩)
  rw [rounds_succ]
  go_wp2_with (go_at_call 69; refine (mulAdd_x _ _ _ _ (by first | assumption | decide) (by first | assumption | decide) (by first | assumption | decide) (by first | assumption | decide) (by first | assumption | decide) (by first | assumption | decide) (by first | assumption | decide) (by first | assumption | decide) _).mono ?_; rintro e w' ⟨h31, l31, rfl, ha31, hb31, hc31, hd31, H31, rfl⟩)
  rw [rounds_succ]
  go_wp2_with (go_at_call 69; refine (mulAdd_x _ _ _ _ (by first | assumption | decide) (by first | assumption | decide) (by first | assumption | decide) (by first | assumption | decide) (by first | assumption | decide) (by first | assumption | decide) (by first | assumption | decide) (by first | assumption | decide) _).mono ?_; rintro e w' ⟨h32, l32, rfl, ha32, hb32, hc32, hd32, H32, rfl⟩)
  rw [rounds_succ]
  go_wp2_with (go_at_call 69; refine (mulAdd_x _ _ _ _ (by first | assumption | decide) (by first | assumption | decide) (by first | assumption | decide) (by first | assumption | decide) (by first | assumption | decide) (by first | assumption | decide) (by first | assumption | decide) (by first | assumption | decide) _).mono ?_; rintro e w' ⟨h33, l33, rfl, ha33, hb33, hc33, hd33, H33, rfl⟩)
  rw [rounds_succ]
  go_wp2
  rw [rounds_succ]
  go_wp2
  refine bodyPost_ret (v := .agg #[.int .u64 l00, .int .u64 l10, .int .u64 l20, .int .u64 l30, .int .u64 l31, .int .u64 l32, .int .u64 l33, .int .u64 h33]) (by simp [results, Try.results57, go_sem]) rfl ⟨l00, l10, l20, l30, l31, l32, l33, h33, rfl, ?_, ((((Below.refl _ _).alloc (Nat.le_refl _) _).alloc (by simp) _).alloc (by simp; omega) _).alloc (by simp; omega) _⟩
  exact prod_plain a0 a1 a2 a3 b0 b1 b2 b3 h00 l00 h01 l01 h02 l02 h03 l03 h10 l10 h11 l11 h12 l12 h13 l13 h20 l20 h21 l21 h22 l22 h23 l23 h30 l30 h31 l31 h32 l32 h33 l33
    ⟨hc00, hc10, hc20, hc30, hc31, hc32, hc33, ha33⟩ ⟨hd00, hd10, hd20, hd30, hd31, hd32, hd33, hb33⟩
    H00.out H01.out H02.out H03.out H10.out H11.out H12.out H13.out H20.out H21.out H22.out H23.out H30.out H31.out H32.out H33.out

end Go.Proofs.Ytbephahokhnccaa
