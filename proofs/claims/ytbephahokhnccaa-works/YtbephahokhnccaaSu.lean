/-
  number.shiftUp and shiftDown at this program: what they write and return.
-/
import Derived.Test.YtbephahokhnccaaShift
import Derived.Test.YtbephahokhnccaaMem
namespace Go.Proofs.Ytbephahokhnccaa
open Go.RowKit Go.Shelf

theorem up_sum44 (s : Nat) (x0 x1 x2 x3 : Int) (hs : s ≤ 64) (p0 : 0 ≤ x0) (u0 : x0 < 18446744073709551616) (p1 : 0 ≤ x1) (u1 : x1 < 18446744073709551616) (p2 : 0 ≤ x2) (u2 : x2 < 18446744073709551616) (p3 : 0 ≤ x3) (u3 : x3 < 18446744073709551616) :
    (upL s x0) + (upL s x1 + upH s x0) * 18446744073709551616 + (upL s x2 + upH s x1) * 340282366920938463463374607431768211456 + (upL s x3 + upH s x2) * 6277101735386680763835789423207666416102355444464034512896 + upH s x3 * 115792089237316195423570985008687907853269984665640564039457584007913129639936 = (x0 + x1 * 18446744073709551616 + x2 * 340282366920938463463374607431768211456 + x3 * 6277101735386680763835789423207666416102355444464034512896) * 2 ^ s := by
  obtain ⟨_, _, _, _, e0⟩ := up_facts s x0 hs p0 u0
  obtain ⟨_, _, _, _, e1⟩ := up_facts s x1 hs p1 u1
  obtain ⟨_, _, _, _, e2⟩ := up_facts s x2 hs p2 u2
  obtain ⟨_, _, _, _, e3⟩ := up_facts s x3 hs p3 u3
  have ex : (x0 + x1 * 18446744073709551616 + x2 * 340282366920938463463374607431768211456 + x3 * 6277101735386680763835789423207666416102355444464034512896) * 2 ^ s = x0 * 2 ^ s + x1 * 2 ^ s * 18446744073709551616 + x2 * 2 ^ s * 340282366920938463463374607431768211456 + x3 * 2 ^ s * 6277101735386680763835789423207666416102355444464034512896 := by
    rw [Int.add_mul, Int.add_mul, Int.add_mul, Int.mul_right_comm x1, Int.mul_right_comm x2, Int.mul_right_comm x3]
  rw [ex, e0, e1, e2, e3]
  clear ex
  generalize upL s x0 = L0 at *
  generalize upH s x0 = H0 at *
  generalize upL s x1 = L1 at *
  generalize upH s x1 = H1 at *
  generalize upL s x2 = L2 at *
  generalize upH s x2 = H2 at *
  generalize upL s x3 = L3 at *
  generalize upH s x3 = H3 at *
  clear e0 p0 u0 e1 p1 u1 e2 p2 u2 e3 p3 u3
  omega

set_option maxHeartbeats 1000000 in
theorem shiftUp44 (bt bf ct cf : Nat) (x0 x1 x2 x3 : Int) (s : Nat) (w : World) (_hne : bf ≠ bt) (hs : s < 64)
    (c0 : w.cell? ⟨bt, 0, none⟩ = some (.int .u64 0)) (c1 : w.cell? ⟨bt, 1, none⟩ = some (.int .u64 0)) (c2 : w.cell? ⟨bt, 2, none⟩ = some (.int .u64 0)) (c3 : w.cell? ⟨bt, 3, none⟩ = some (.int .u64 0)) (f0 : w.frozen? ⟨bt, 0, none⟩ = false) (f1 : w.frozen? ⟨bt, 1, none⟩ = false) (f2 : w.frozen? ⟨bt, 2, none⟩ = false) (f3 : w.frozen? ⟨bt, 3, none⟩ = false) (g0 : w.cell? ⟨bf, 0, none⟩ = some (.int .u64 x0)) (g1 : w.cell? ⟨bf, 1, none⟩ = some (.int .u64 x1)) (g2 : w.cell? ⟨bf, 2, none⟩ = some (.int .u64 x2)) (g3 : w.cell? ⟨bf, 3, none⟩ = some (.int .u64 x3))
    (p0 : 0 ≤ x0) (u0 : x0 < 18446744073709551616) (p1 : 0 ≤ x1) (u1 : x1 < 18446744073709551616) (p2 : 0 ≤ x2) (u2 : x2 < 18446744073709551616) (p3 : 0 ≤ x3) (u3 : x3 < 18446744073709551616) :
    Calls Try.prog 72 #[.slice (some ⟨bt, 0, none⟩) 4 ct, .slice (some ⟨bf, 0, none⟩) 4 cf, .int .i64 s] w fun e w' => ∃ t0 t1 t2 t3 ov : Int, e = .returned (.tuple #[]) ∧ (0 ≤ t0 ∧ t0 < 18446744073709551616 ∧ 0 ≤ t1 ∧ t1 < 18446744073709551616 ∧ 0 ≤ t2 ∧ t2 < 18446744073709551616 ∧ 0 ≤ t3 ∧ t3 < 18446744073709551616) ∧ Hid (t0 + t1 * 18446744073709551616 + t2 * 340282366920938463463374607431768211456 + t3 * 6277101735386680763835789423207666416102355444464034512896 + ov * 115792089237316195423570985008687907853269984665640564039457584007913129639936 = (x0 + x1 * 18446744073709551616 + x2 * 340282366920938463463374607431768211456 + x3 * 6277101735386680763835789423207666416102355444464034512896) * 2 ^ s) ∧ 0 ≤ ov ∧ ov < 2 ^ s ∧
      (w'.cell? ⟨bt, 0, none⟩ = some (.int .u64 t0) ∧ w'.cell? ⟨bt, 1, none⟩ = some (.int .u64 t1) ∧ w'.cell? ⟨bt, 2, none⟩ = some (.int .u64 t2) ∧ w'.cell? ⟨bt, 3, none⟩ = some (.int .u64 t3)) ∧ Only w w' bt 0 4 := by
  have r0 := up_or0 s x0 (by omega) p0 u0
  have r1 := up_or s x1 x0 (by omega) p1 u1 p0 u0
  have r2 := up_or s x2 x1 (by omega) p2 u2 p1 u1
  have r3 := up_or s x3 x2 (by omega) p3 u3 p2 u2
  go_enter Try.func72, Try.ntmps72
  go_wp2
  refine wp_loop_rounds 5 ?_
  rw [rounds_succ]
  go_wp2
  rw [rounds_succ]
  go_wp2
  rw [rounds_succ]
  go_wp2
  rw [rounds_succ]
  go_wp2
  rw [rounds_succ]
  go_wp2
  go_end0
  obtain ⟨a0, b0, k0, l0, _⟩ := up_facts s x0 (by omega) p0 u0
  obtain ⟨a1, b1, k1, l1, _⟩ := up_facts s x1 (by omega) p1 u1
  obtain ⟨a2, b2, k2, l2, _⟩ := up_facts s x2 (by omega) p2 u2
  obtain ⟨a3, b3, k3, l3, _⟩ := up_facts s x3 (by omega) p3 u3
  have hc : (0 : Int) < 2 ^ s := Int.pow_pos (by decide)
  have hb64 : (2 : Int) ^ s ≤ 18446744073709551616 := by omega
  refine ⟨upL s x0, upL s x1 + upH s x0, upL s x2 + upH s x1, upL s x3 + upH s x2, upH s x3, rfl, ⟨by omega, by omega, by omega, by omega, by omega, by omega, by omega, by omega⟩, up_sum44 s x0 x1 x2 x3 (by omega) p0 u0 p1 u1 p2 u2 p3 u3, k3, l3, ⟨?_, ?_, ?_, ?_⟩, ?_⟩
  · simp [go_sem, c0]
  · simp [go_sem, c1]
  · simp [go_sem, c2]
  · simp [go_sem, c3]
  · exact ((((Only.refl _ _ _ _).setCell _ _ (by omega) (by omega)).setCell _ _ (by omega) (by omega)).setCell _ _ (by omega) (by omega)).setCell _ _ (by omega) (by omega)

theorem up_sum98 (s : Nat) (x0 x1 x2 x3 x4 x5 x6 x7 : Int) (hs : s ≤ 64) (p0 : 0 ≤ x0) (u0 : x0 < 18446744073709551616) (p1 : 0 ≤ x1) (u1 : x1 < 18446744073709551616) (p2 : 0 ≤ x2) (u2 : x2 < 18446744073709551616) (p3 : 0 ≤ x3) (u3 : x3 < 18446744073709551616) (p4 : 0 ≤ x4) (u4 : x4 < 18446744073709551616) (p5 : 0 ≤ x5) (u5 : x5 < 18446744073709551616) (p6 : 0 ≤ x6) (u6 : x6 < 18446744073709551616) (p7 : 0 ≤ x7) (u7 : x7 < 18446744073709551616) :
    (upL s x0) + (upL s x1 + upH s x0) * 18446744073709551616 + (upL s x2 + upH s x1) * 340282366920938463463374607431768211456 + (upL s x3 + upH s x2) * 6277101735386680763835789423207666416102355444464034512896 + (upL s x4 + upH s x3) * 115792089237316195423570985008687907853269984665640564039457584007913129639936 + (upL s x5 + upH s x4) * 2135987035920910082395021706169552114602704522356652769947041607822219725780640550022962086936576 + (upL s x6 + upH s x5) * 39402006196394479212279040100143613805079739270465446667948293404245721771497210611414266254884915640806627990306816 + (upL s x7 + upH s x6) * 726838724295606890549323807888004534353641360687318060281490199180639288113397923326191050713763565560762521606266177933534601628614656 + (upH s x7) * 13407807929942597099574024998205846127479365820592393377723561443721764030073546976801874298166903427690031858186486050853753882811946569946433649006084096 = (x0 + x1 * 18446744073709551616 + x2 * 340282366920938463463374607431768211456 + x3 * 6277101735386680763835789423207666416102355444464034512896 + x4 * 115792089237316195423570985008687907853269984665640564039457584007913129639936 + x5 * 2135987035920910082395021706169552114602704522356652769947041607822219725780640550022962086936576 + x6 * 39402006196394479212279040100143613805079739270465446667948293404245721771497210611414266254884915640806627990306816 + x7 * 726838724295606890549323807888004534353641360687318060281490199180639288113397923326191050713763565560762521606266177933534601628614656) * 2 ^ s := by
  obtain ⟨_, _, _, _, e0⟩ := up_facts s x0 hs p0 u0
  obtain ⟨_, _, _, _, e1⟩ := up_facts s x1 hs p1 u1
  obtain ⟨_, _, _, _, e2⟩ := up_facts s x2 hs p2 u2
  obtain ⟨_, _, _, _, e3⟩ := up_facts s x3 hs p3 u3
  obtain ⟨_, _, _, _, e4⟩ := up_facts s x4 hs p4 u4
  obtain ⟨_, _, _, _, e5⟩ := up_facts s x5 hs p5 u5
  obtain ⟨_, _, _, _, e6⟩ := up_facts s x6 hs p6 u6
  obtain ⟨_, _, _, _, e7⟩ := up_facts s x7 hs p7 u7
  have ex : (x0 + x1 * 18446744073709551616 + x2 * 340282366920938463463374607431768211456 + x3 * 6277101735386680763835789423207666416102355444464034512896 + x4 * 115792089237316195423570985008687907853269984665640564039457584007913129639936 + x5 * 2135987035920910082395021706169552114602704522356652769947041607822219725780640550022962086936576 + x6 * 39402006196394479212279040100143613805079739270465446667948293404245721771497210611414266254884915640806627990306816 + x7 * 726838724295606890549323807888004534353641360687318060281490199180639288113397923326191050713763565560762521606266177933534601628614656) * 2 ^ s = x0 * 2 ^ s + x1 * 2 ^ s * 18446744073709551616 + x2 * 2 ^ s * 340282366920938463463374607431768211456 + x3 * 2 ^ s * 6277101735386680763835789423207666416102355444464034512896 + x4 * 2 ^ s * 115792089237316195423570985008687907853269984665640564039457584007913129639936 + x5 * 2 ^ s * 2135987035920910082395021706169552114602704522356652769947041607822219725780640550022962086936576 + x6 * 2 ^ s * 39402006196394479212279040100143613805079739270465446667948293404245721771497210611414266254884915640806627990306816 + x7 * 2 ^ s * 726838724295606890549323807888004534353641360687318060281490199180639288113397923326191050713763565560762521606266177933534601628614656 := by
    rw [Int.add_mul, Int.add_mul, Int.add_mul, Int.add_mul, Int.add_mul, Int.add_mul, Int.add_mul, Int.mul_right_comm x1, Int.mul_right_comm x2, Int.mul_right_comm x3, Int.mul_right_comm x4, Int.mul_right_comm x5, Int.mul_right_comm x6, Int.mul_right_comm x7]
  rw [ex, e0, e1, e2, e3, e4, e5, e6, e7]
  clear ex
  generalize upL s x0 = L0 at *
  generalize upH s x0 = H0 at *
  generalize upL s x1 = L1 at *
  generalize upH s x1 = H1 at *
  generalize upL s x2 = L2 at *
  generalize upH s x2 = H2 at *
  generalize upL s x3 = L3 at *
  generalize upH s x3 = H3 at *
  generalize upL s x4 = L4 at *
  generalize upH s x4 = H4 at *
  generalize upL s x5 = L5 at *
  generalize upH s x5 = H5 at *
  generalize upL s x6 = L6 at *
  generalize upH s x6 = H6 at *
  generalize upL s x7 = L7 at *
  generalize upH s x7 = H7 at *
  clear e0 p0 u0 e1 p1 u1 e2 p2 u2 e3 p3 u3 e4 p4 u4 e5 p5 u5 e6 p6 u6 e7 p7 u7
  omega

set_option maxHeartbeats 1000000 in
theorem shiftUp98 (bt bf ct cf : Nat) (x0 x1 x2 x3 x4 x5 x6 x7 : Int) (s : Nat) (w : World) (_hne : bf ≠ bt) (hs : s < 64)
    (c0 : w.cell? ⟨bt, 0, none⟩ = some (.int .u64 0)) (c1 : w.cell? ⟨bt, 1, none⟩ = some (.int .u64 0)) (c2 : w.cell? ⟨bt, 2, none⟩ = some (.int .u64 0)) (c3 : w.cell? ⟨bt, 3, none⟩ = some (.int .u64 0)) (c4 : w.cell? ⟨bt, 4, none⟩ = some (.int .u64 0)) (c5 : w.cell? ⟨bt, 5, none⟩ = some (.int .u64 0)) (c6 : w.cell? ⟨bt, 6, none⟩ = some (.int .u64 0)) (c7 : w.cell? ⟨bt, 7, none⟩ = some (.int .u64 0)) (c8 : w.cell? ⟨bt, 8, none⟩ = some (.int .u64 0)) (f0 : w.frozen? ⟨bt, 0, none⟩ = false) (f1 : w.frozen? ⟨bt, 1, none⟩ = false) (f2 : w.frozen? ⟨bt, 2, none⟩ = false) (f3 : w.frozen? ⟨bt, 3, none⟩ = false) (f4 : w.frozen? ⟨bt, 4, none⟩ = false) (f5 : w.frozen? ⟨bt, 5, none⟩ = false) (f6 : w.frozen? ⟨bt, 6, none⟩ = false) (f7 : w.frozen? ⟨bt, 7, none⟩ = false) (f8 : w.frozen? ⟨bt, 8, none⟩ = false) (g0 : w.cell? ⟨bf, 0, none⟩ = some (.int .u64 x0)) (g1 : w.cell? ⟨bf, 1, none⟩ = some (.int .u64 x1)) (g2 : w.cell? ⟨bf, 2, none⟩ = some (.int .u64 x2)) (g3 : w.cell? ⟨bf, 3, none⟩ = some (.int .u64 x3)) (g4 : w.cell? ⟨bf, 4, none⟩ = some (.int .u64 x4)) (g5 : w.cell? ⟨bf, 5, none⟩ = some (.int .u64 x5)) (g6 : w.cell? ⟨bf, 6, none⟩ = some (.int .u64 x6)) (g7 : w.cell? ⟨bf, 7, none⟩ = some (.int .u64 x7))
    (p0 : 0 ≤ x0) (u0 : x0 < 18446744073709551616) (p1 : 0 ≤ x1) (u1 : x1 < 18446744073709551616) (p2 : 0 ≤ x2) (u2 : x2 < 18446744073709551616) (p3 : 0 ≤ x3) (u3 : x3 < 18446744073709551616) (p4 : 0 ≤ x4) (u4 : x4 < 18446744073709551616) (p5 : 0 ≤ x5) (u5 : x5 < 18446744073709551616) (p6 : 0 ≤ x6) (u6 : x6 < 18446744073709551616) (p7 : 0 ≤ x7) (u7 : x7 < 18446744073709551616) :
    Calls Try.prog 72 #[.slice (some ⟨bt, 0, none⟩) 9 ct, .slice (some ⟨bf, 0, none⟩) 8 cf, .int .i64 s] w fun e w' => ∃ t0 t1 t2 t3 t4 t5 t6 t7 t8 : Int, e = .returned (.tuple #[]) ∧ (0 ≤ t0 ∧ t0 < 18446744073709551616 ∧ 0 ≤ t1 ∧ t1 < 18446744073709551616 ∧ 0 ≤ t2 ∧ t2 < 18446744073709551616 ∧ 0 ≤ t3 ∧ t3 < 18446744073709551616 ∧ 0 ≤ t4 ∧ t4 < 18446744073709551616 ∧ 0 ≤ t5 ∧ t5 < 18446744073709551616 ∧ 0 ≤ t6 ∧ t6 < 18446744073709551616 ∧ 0 ≤ t7 ∧ t7 < 18446744073709551616 ∧ 0 ≤ t8 ∧ t8 < 18446744073709551616) ∧ Hid (t0 + t1 * 18446744073709551616 + t2 * 340282366920938463463374607431768211456 + t3 * 6277101735386680763835789423207666416102355444464034512896 + t4 * 115792089237316195423570985008687907853269984665640564039457584007913129639936 + t5 * 2135987035920910082395021706169552114602704522356652769947041607822219725780640550022962086936576 + t6 * 39402006196394479212279040100143613805079739270465446667948293404245721771497210611414266254884915640806627990306816 + t7 * 726838724295606890549323807888004534353641360687318060281490199180639288113397923326191050713763565560762521606266177933534601628614656 + t8 * 13407807929942597099574024998205846127479365820592393377723561443721764030073546976801874298166903427690031858186486050853753882811946569946433649006084096 = (x0 + x1 * 18446744073709551616 + x2 * 340282366920938463463374607431768211456 + x3 * 6277101735386680763835789423207666416102355444464034512896 + x4 * 115792089237316195423570985008687907853269984665640564039457584007913129639936 + x5 * 2135987035920910082395021706169552114602704522356652769947041607822219725780640550022962086936576 + x6 * 39402006196394479212279040100143613805079739270465446667948293404245721771497210611414266254884915640806627990306816 + x7 * 726838724295606890549323807888004534353641360687318060281490199180639288113397923326191050713763565560762521606266177933534601628614656) * 2 ^ s) ∧ t8 < 2 ^ s ∧
      (w'.cell? ⟨bt, 0, none⟩ = some (.int .u64 t0) ∧ w'.cell? ⟨bt, 1, none⟩ = some (.int .u64 t1) ∧ w'.cell? ⟨bt, 2, none⟩ = some (.int .u64 t2) ∧ w'.cell? ⟨bt, 3, none⟩ = some (.int .u64 t3) ∧ w'.cell? ⟨bt, 4, none⟩ = some (.int .u64 t4) ∧ w'.cell? ⟨bt, 5, none⟩ = some (.int .u64 t5) ∧ w'.cell? ⟨bt, 6, none⟩ = some (.int .u64 t6) ∧ w'.cell? ⟨bt, 7, none⟩ = some (.int .u64 t7) ∧ w'.cell? ⟨bt, 8, none⟩ = some (.int .u64 t8)) ∧ Only w w' bt 0 9 := by
  have r0 := up_or0 s x0 (by omega) p0 u0
  have r1 := up_or s x1 x0 (by omega) p1 u1 p0 u0
  have r2 := up_or s x2 x1 (by omega) p2 u2 p1 u1
  have r3 := up_or s x3 x2 (by omega) p3 u3 p2 u2
  have r4 := up_or s x4 x3 (by omega) p4 u4 p3 u3
  have r5 := up_or s x5 x4 (by omega) p5 u5 p4 u4
  have r6 := up_or s x6 x5 (by omega) p6 u6 p5 u5
  have r7 := up_or s x7 x6 (by omega) p7 u7 p6 u6
  have rh : x7 / 2 ^ (64 - s) = upH s x7 := rfl
  go_enter Try.func72, Try.ntmps72
  go_wp2
  refine wp_loop_rounds 9 ?_
  rw [rounds_succ]
  go_wp2
  rw [rounds_succ]
  go_wp2
  rw [rounds_succ]
  go_wp2
  rw [rounds_succ]
  go_wp2
  rw [rounds_succ]
  go_wp2
  rw [rounds_succ]
  go_wp2
  rw [rounds_succ]
  go_wp2
  rw [rounds_succ]
  go_wp2
  rw [rounds_succ]
  go_wp2
  go_end0
  obtain ⟨a0, b0, k0, l0, _⟩ := up_facts s x0 (by omega) p0 u0
  obtain ⟨a1, b1, k1, l1, _⟩ := up_facts s x1 (by omega) p1 u1
  obtain ⟨a2, b2, k2, l2, _⟩ := up_facts s x2 (by omega) p2 u2
  obtain ⟨a3, b3, k3, l3, _⟩ := up_facts s x3 (by omega) p3 u3
  obtain ⟨a4, b4, k4, l4, _⟩ := up_facts s x4 (by omega) p4 u4
  obtain ⟨a5, b5, k5, l5, _⟩ := up_facts s x5 (by omega) p5 u5
  obtain ⟨a6, b6, k6, l6, _⟩ := up_facts s x6 (by omega) p6 u6
  obtain ⟨a7, b7, k7, l7, _⟩ := up_facts s x7 (by omega) p7 u7
  have hc : (0 : Int) < 2 ^ s := Int.pow_pos (by decide)
  have hb64 : (2 : Int) ^ s ≤ 18446744073709551616 := by omega
  refine ⟨upL s x0, upL s x1 + upH s x0, upL s x2 + upH s x1, upL s x3 + upH s x2, upL s x4 + upH s x3, upL s x5 + upH s x4, upL s x6 + upH s x5, upL s x7 + upH s x6, upH s x7, rfl, ⟨by omega, by omega, by omega, by omega, by omega, by omega, by omega, by omega, by omega, by omega, by omega, by omega, by omega, by omega, by omega, by omega, by omega, by omega⟩, up_sum98 s x0 x1 x2 x3 x4 x5 x6 x7 (by omega) p0 u0 p1 u1 p2 u2 p3 u3 p4 u4 p5 u5 p6 u6 p7 u7, l7, ⟨?_, ?_, ?_, ?_, ?_, ?_, ?_, ?_, ?_⟩, ?_⟩
  · simp [go_sem, c0]
  · simp [go_sem, c1]
  · simp [go_sem, c2]
  · simp [go_sem, c3]
  · simp [go_sem, c4]
  · simp [go_sem, c5]
  · simp [go_sem, c6]
  · simp [go_sem, c7]
  · simp [go_sem, c8]
  · exact (((((((((Only.refl _ _ _ _).setCell _ _ (by omega) (by omega)).setCell _ _ (by omega) (by omega)).setCell _ _ (by omega) (by omega)).setCell _ _ (by omega) (by omega)).setCell _ _ (by omega) (by omega)).setCell _ _ (by omega) (by omega)).setCell _ _ (by omega) (by omega)).setCell _ _ (by omega) (by omega)).setCell _ _ (by omega) (by omega)

theorem down_sum (s : Nat) (x0 x1 x2 x3 : Int) (hs : s ≤ 64) (p0 : 0 ≤ x0) (u0 : x0 < 18446744073709551616) (p1 : 0 ≤ x1) (u1 : x1 < 18446744073709551616) (p2 : 0 ≤ x2) (u2 : x2 < 18446744073709551616) (p3 : 0 ≤ x3) (u3 : x3 < 18446744073709551616) :
    ∃ z : Int, 0 ≤ z ∧ z < 18446744073709551616 ∧ (upH (64 - s) x0 + upL (64 - s) x1) * 18446744073709551616 + (upH (64 - s) x1 + upL (64 - s) x2) * 340282366920938463463374607431768211456 + (upH (64 - s) x2 + upL (64 - s) x3) * 6277101735386680763835789423207666416102355444464034512896 + upH (64 - s) x3 * 115792089237316195423570985008687907853269984665640564039457584007913129639936 + z = (x0 + x1 * 18446744073709551616 + x2 * 340282366920938463463374607431768211456 + x3 * 6277101735386680763835789423207666416102355444464034512896) * 2 ^ (64 - s) ∧
      (0 ≤ upH (64 - s) x0 + upL (64 - s) x1 ∧ 0 ≤ upH (64 - s) x1 + upL (64 - s) x2 ∧ 0 ≤ upH (64 - s) x2 + upL (64 - s) x3 ∧ 0 ≤ upH (64 - s) x3) ∧
      (upH (64 - s) x0 + upL (64 - s) x1 < 18446744073709551616 ∧ upH (64 - s) x1 + upL (64 - s) x2 < 18446744073709551616 ∧ upH (64 - s) x2 + upL (64 - s) x3 < 18446744073709551616 ∧ upH (64 - s) x3 < 18446744073709551616) := by
  obtain ⟨a0, b0, k0, l0, e0⟩ := up_facts (64 - s) x0 (by omega) p0 u0
  obtain ⟨a1, b1, k1, l1, e1⟩ := up_facts (64 - s) x1 (by omega) p1 u1
  obtain ⟨a2, b2, k2, l2, e2⟩ := up_facts (64 - s) x2 (by omega) p2 u2
  obtain ⟨a3, b3, k3, l3, e3⟩ := up_facts (64 - s) x3 (by omega) p3 u3
  have ex : (x0 + x1 * 18446744073709551616 + x2 * 340282366920938463463374607431768211456 + x3 * 6277101735386680763835789423207666416102355444464034512896) * 2 ^ (64 - s) = x0 * 2 ^ (64 - s) + x1 * 2 ^ (64 - s) * 18446744073709551616 + x2 * 2 ^ (64 - s) * 340282366920938463463374607431768211456 + x3 * 2 ^ (64 - s) * 6277101735386680763835789423207666416102355444464034512896 := by
    rw [Int.add_mul, Int.add_mul, Int.add_mul, Int.mul_right_comm x1, Int.mul_right_comm x2, Int.mul_right_comm x3]
  rw [ex, e0, e1, e2, e3]
  clear ex e0 e1 e2 e3
  generalize (2 : Int) ^ (64 - s) = c at *
  refine ⟨upL (64 - s) x0, a0, by omega, by omega, ⟨by omega, by omega, by omega, k3⟩, ⟨by omega, by omega, by omega, by omega⟩⟩

set_option maxHeartbeats 1000000 in
theorem shiftDown_l (x0 x1 x2 x3 : Int) (s : Nat) (w : World) (hs : s < 64) (p0 : 0 ≤ x0) (u0 : x0 < 18446744073709551616) (p1 : 0 ≤ x1) (u1 : x1 < 18446744073709551616) (p2 : 0 ≤ x2) (u2 : x2 < 18446744073709551616) (p3 : 0 ≤ x3) (u3 : x3 < 18446744073709551616) :
    Calls Try.prog 74 #[.agg #[.int .u64 x0, .int .u64 x1, .int .u64 x2, .int .u64 x3], .int .i64 s] w fun e w' => e = .returned (.agg #[.int .u64 (upH (64 - s) x0 + upL (64 - s) x1), .int .u64 (upH (64 - s) x1 + upL (64 - s) x2), .int .u64 (upH (64 - s) x2 + upL (64 - s) x3), .int .u64 (upH (64 - s) x3)]) ∧ Below w.heap.size w w' := by
  have r3 := down_or0 s x3 (by omega) p3 u3
  have r2 := down_or s x2 x3 (by omega) p2 u2 p3 u3
  have r1 := down_or s x1 x2 (by omega) p1 u1 p2 u2
  have r0 := down_or s x0 x1 (by omega) p0 u0 p1 u1
  go_enter Try.func74, Try.ntmps74
  go_wp2
  refine wp_loop_rounds 5 ?_
  rw [rounds_succ]
  go_wp2
  go_region
  go_wp2
  rw [rounds_succ]
  go_wp2
  go_region
  go_wp2
  rw [rounds_succ]
  go_wp2
  go_region
  go_wp2
  rw [rounds_succ]
  go_wp2
  go_region
  go_wp2
  rw [rounds_succ]
  go_wp2
  simp [bodyPost, results, Try.results74, go_sem]
  exact (((Below.refl _ _).alloc (Nat.le_refl _) _).alloc (by simp) _).drew.drew.drew.drew

theorem shiftDown (n s : Nat) (hn : n < M) (hs : s < 64) (w : World) :
    Calls Try.prog 74 #[wd n, .int .i64 s] w fun e w' => e = .returned (wd (n / 2 ^ s)) ∧ Below w.heap.size w w' := by
  refine (shiftDown_l _ _ _ _ s w hs (lim_nn n 0) (lim_lt n 0) (lim_nn n 1) (lim_lt n 1) (lim_nn n 2) (lim_lt n 2) (lim_nn n 3) (lim_lt n 3)).mono fun e w' ⟨he, hb⟩ => ?_
  obtain ⟨z, z0, z1, hz, ⟨a0, a1, a2, a3⟩, ⟨b0, b1, b2, b3⟩⟩ := down_sum s (lim n 0) (lim n 1) (lim n 2) (lim n 3) (by omega) (lim_nn n 0) (lim_lt n 0) (lim_nn n 1) (lim_lt n 1) (lim_nn n 2) (lim_lt n 2) (lim_nn n 3) (lim_lt n 3)
  rw [← lim_sum n hn] at hz
  have hsp := pow_split s (by omega)
  have hq : ((n / 2 ^ s : Nat) : Int) = (upH (64 - s) (lim n 0) + upL (64 - s) (lim n 1)) + (upH (64 - s) (lim n 1) + upL (64 - s) (lim n 2)) * 18446744073709551616 + (upH (64 - s) (lim n 2) + upL (64 - s) (lim n 3)) * 340282366920938463463374607431768211456 + upH (64 - s) (lim n 3) * 6277101735386680763835789423207666416102355444464034512896 := by
    have e1 : (n : Int) * 2 ^ (64 - s) = ((n * 2 ^ (64 - s) : Nat) : Int) := by rw [Int.natCast_mul, Int.natCast_pow]; rfl
    have e2 : n * 2 ^ (64 - s) / 18446744073709551616 = n / 2 ^ s := by
      rw [← hsp, Nat.mul_comm (2 ^ s), Nat.mul_comm n, Nat.mul_div_mul_left _ _ (Nat.two_pow_pos _)]
    rw [e1] at hz
    rw [← e2]
    generalize n * 2 ^ (64 - s) = P at *
    omega
  obtain ⟨h0, h1, h2, h3⟩ := lim_of _ _ _ _ _ a0 a1 a2 a3 b0 b1 b2 b3 hq
  unfold wd
  rw [h0, h1, h2, h3]
  exact ⟨he, hb⟩

end Go.Proofs.Ytbephahokhnccaa
