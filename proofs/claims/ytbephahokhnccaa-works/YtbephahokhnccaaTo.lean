/-
  number.takeOff and putBack at this program, for a divisor of 1 to 4 parts: what they return, and what they write.
-/
import Derived.Test.YtbephahokhnccaaProd
import Derived.Test.YtbephahokhnccaaMem
namespace Go.Proofs.Ytbephahokhnccaa
open Go.RowKit Go.Shelf

theorem off_plain1 (r0 r1 d0 t h0 l0 : Int) (p0 : 0 ≤ r0) (u0 : r0 < 18446744073709551616) (p1 : 0 ≤ r1) (u1 : r1 < 18446744073709551616) (x0 : 0 ≤ l0) (y0 : l0 < 18446744073709551616) (x1 : 0 ≤ h0) (y1 : h0 < 18446744073709551616) (e0 : h0 * 18446744073709551616 + l0 = d0 * t + 0 + 0) :
    (sL r0 l0 0) + (sL r1 h0 (sH r0 l0 0)) * 18446744073709551616 = r0 + r1 * 18446744073709551616 - (d0) * t + (sH r1 h0 (sH r0 l0 0)) * 340282366920938463463374607431768211456 := by
  have q0 := sE r0 l0 0 p0 x0 (by decide) u0 y0 (by decide)
  have q1 := sE r1 h0 (sH r0 l0 0) p1 x1 (sH0 _ _ _) u1 y1 (sH1 _ _ _)
  generalize (sH r1 h0 (sH r0 l0 0)) = b2 at *
  generalize (sL r1 h0 (sH r0 l0 0)) = z1 at *
  generalize (sH r0 l0 0) = b1 at *
  generalize (sL r0 l0 0) = z0 at *
  generalize d0 * t = m0 at *
  clear p0 u0 x0 y0 p1 u1 x1 y1
  omega

set_option maxHeartbeats 1000000 in
theorem takeOff1 (br bd o cr cd : Nat) (r0 r1 d0 t : Int) (w : World) (_hne : bd ≠ br)
    (c0 : w.cell? ⟨br, o, none⟩ = some (.int .u64 r0)) (c1 : w.cell? ⟨br, o + 1, none⟩ = some (.int .u64 r1)) (f0 : w.frozen? ⟨br, o, none⟩ = false) (f1 : w.frozen? ⟨br, o + 1, none⟩ = false) (g0 : w.cell? ⟨bd, 0, none⟩ = some (.int .u64 d0))
    (p0 : 0 ≤ r0) (u0 : r0 < 18446744073709551616) (p1 : 0 ≤ r1) (u1 : r1 < 18446744073709551616) (dp0 : 0 ≤ d0) (du0 : d0 < 18446744073709551616) (t0 : 0 ≤ t) (t1 : t < 18446744073709551616) :
    Calls Try.prog 79 #[.slice (some ⟨br, o, none⟩) 2 cr, .slice (some ⟨bd, 0, none⟩) 1 cd, .int .u64 t] w fun e w' => ∃ b s0 s1 : Int, e = .returned (.int .u64 b) ∧ 0 ≤ b ∧ b ≤ 1 ∧ (0 ≤ s0 ∧ s0 < 18446744073709551616 ∧ 0 ≤ s1 ∧ s1 < 18446744073709551616) ∧ Hid (s0 + s1 * 18446744073709551616 = r0 + r1 * 18446744073709551616 - (d0) * t + b * 340282366920938463463374607431768211456) ∧
      (w'.cell? ⟨br, o, none⟩ = some (.int .u64 s0) ∧ w'.cell? ⟨br, o + 1, none⟩ = some (.int .u64 s1)) ∧ Only w w' br o (o + 2) := by
  go_enter Try.func79, Try.ntmps79
  go_wp2
  refine wp_loop_rounds 2 ?_
  rw [rounds_succ]
  go_wp2_with (go_at_call 69; refine (mulAdd_x d0 t 0 0 dp0 t0 (by first | assumption | decide) (by decide) du0 t1 (by first | assumption | decide) (by decide) _).mono ?_; rintro e w' ⟨h0, l0, rfl, ha0, hb0, hc0, hd0, H0, rfl⟩; have fs0 := subN64 r0 l0 0 p0 hc0 hd0 (by decide) (by decide); have fs1 := subN64 r1 h0 (sH r0 l0 0) p1 ha0 hb0 (sH0 _ _ _) (sH1 _ _ _))
  rw [rounds_succ]
  go_wp2
  go_ret
  refine ⟨(sH r1 h0 (sH r0 l0 0)), (sL r0 l0 0), (sL r1 h0 (sH r0 l0 0)), rfl, sH0 _ _ _, sH1 _ _ _, ⟨sL0 _ _ _, sL1 _ _ _, sL0 _ _ _, sL1 _ _ _⟩, ?_, ⟨?_, ?_⟩, ?_⟩
  · exact off_plain1 r0 r1 d0 t h0 l0 p0 u0 p1 u1 hc0 hd0 ha0 hb0 H0.out
  · simp [go_sem, c0]
  · simp [go_sem, c1]
  · exact ((Only.refl _ _ _ _).setCell _ _ (by omega) (by omega)).setCell _ _ (by omega) (by omega)

theorem back_plain1 (r0 r1 d0 : Int) :
    (aL r0 d0 0) + (aL r1 0 (aH r0 d0 0)) * 18446744073709551616 = r0 + r1 * 18446744073709551616 + (d0) - (aH r1 0 (aH r0 d0 0)) * 340282366920938463463374607431768211456 := by
  have q0 := aE r0 d0 0
  have q1 := aE r1 0 (aH r0 d0 0)
  generalize (aH r1 0 (aH r0 d0 0)) = b2 at *
  generalize (aL r1 0 (aH r0 d0 0)) = z1 at *
  generalize (aH r0 d0 0) = b1 at *
  generalize (aL r0 d0 0) = z0 at *
  omega

set_option maxHeartbeats 1000000 in
theorem putBack1 (br bd o cr cd : Nat) (r0 r1 d0 : Int) (w : World) (_hne : bd ≠ br)
    (c0 : w.cell? ⟨br, o, none⟩ = some (.int .u64 r0)) (c1 : w.cell? ⟨br, o + 1, none⟩ = some (.int .u64 r1)) (f0 : w.frozen? ⟨br, o, none⟩ = false) (f1 : w.frozen? ⟨br, o + 1, none⟩ = false) (g0 : w.cell? ⟨bd, 0, none⟩ = some (.int .u64 d0))
    (p0 : 0 ≤ r0) (u0 : r0 < 18446744073709551616) (p1 : 0 ≤ r1) (u1 : r1 < 18446744073709551616) (dp0 : 0 ≤ d0) (du0 : d0 < 18446744073709551616) :
    Calls Try.prog 80 #[.slice (some ⟨br, o, none⟩) 2 cr, .slice (some ⟨bd, 0, none⟩) 1 cd] w fun e w' => ∃ b s0 s1 : Int, e = .returned (.int .u64 b) ∧ 0 ≤ b ∧ b ≤ 1 ∧ (0 ≤ s0 ∧ s0 < 18446744073709551616 ∧ 0 ≤ s1 ∧ s1 < 18446744073709551616) ∧ Hid (s0 + s1 * 18446744073709551616 = r0 + r1 * 18446744073709551616 + (d0) - b * 340282366920938463463374607431768211456) ∧
      (w'.cell? ⟨br, o, none⟩ = some (.int .u64 s0) ∧ w'.cell? ⟨br, o + 1, none⟩ = some (.int .u64 s1)) ∧ Only w w' br o (o + 2) := by
  have fs0 := addN64 r0 d0 0 p0 dp0 (Int.le_refl 0) (by decide)
  have k0 := aH0 r0 d0 0 p0 dp0 (Int.le_refl 0)
  have m0 := aH1 r0 d0 0 u0 du0 (by decide)
  have fs1 := addN64 r1 0 (aH r0 d0 0) p1 (Int.le_refl 0) k0 m0
  have k1 := aH0 r1 0 (aH r0 d0 0) p1 (Int.le_refl 0) k0
  have m1 := aH1 r1 0 (aH r0 d0 0) u1 (by decide) m0
  go_enter Try.func80, Try.ntmps80
  go_wp2
  refine wp_loop_rounds 2 ?_
  rw [rounds_succ]
  go_wp2
  rw [rounds_succ]
  go_wp2
  go_ret
  refine ⟨(aH r1 0 (aH r0 d0 0)), (aL r0 d0 0), (aL r1 0 (aH r0 d0 0)), rfl, k1, m1, ⟨aL0 _ _ _, aL1 _ _ _, aL0 _ _ _, aL1 _ _ _⟩, back_plain1 r0 r1 d0, ⟨?_, ?_⟩, ?_⟩
  · simp [go_sem, c0]
  · simp [go_sem, c1]
  · exact ((Only.refl _ _ _ _).setCell _ _ (by omega) (by omega)).setCell _ _ (by omega) (by omega)

theorem off_plain2 (r0 r1 r2 d0 d1 t h0 l0 h1 l1 : Int) (p0 : 0 ≤ r0) (u0 : r0 < 18446744073709551616) (p1 : 0 ≤ r1) (u1 : r1 < 18446744073709551616) (p2 : 0 ≤ r2) (u2 : r2 < 18446744073709551616) (x0 : 0 ≤ l0) (y0 : l0 < 18446744073709551616) (x1 : 0 ≤ l1) (y1 : l1 < 18446744073709551616) (x2 : 0 ≤ h1) (y2 : h1 < 18446744073709551616) (e0 : h0 * 18446744073709551616 + l0 = d0 * t + 0 + 0) (e1 : h1 * 18446744073709551616 + l1 = d1 * t + h0 + 0) :
    (sL r0 l0 0) + (sL r1 l1 (sH r0 l0 0)) * 18446744073709551616 + (sL r2 h1 (sH r1 l1 (sH r0 l0 0))) * 340282366920938463463374607431768211456 = r0 + r1 * 18446744073709551616 + r2 * 340282366920938463463374607431768211456 - (d0 + d1 * 18446744073709551616) * t + (sH r2 h1 (sH r1 l1 (sH r0 l0 0))) * 6277101735386680763835789423207666416102355444464034512896 := by
  have q0 := sE r0 l0 0 p0 x0 (by decide) u0 y0 (by decide)
  have q1 := sE r1 l1 (sH r0 l0 0) p1 x1 (sH0 _ _ _) u1 y1 (sH1 _ _ _)
  have q2 := sE r2 h1 (sH r1 l1 (sH r0 l0 0)) p2 x2 (sH0 _ _ _) u2 y2 (sH1 _ _ _)
  rw [Int.add_mul, Int.mul_right_comm d1]
  generalize (sH r2 h1 (sH r1 l1 (sH r0 l0 0))) = b3 at *
  generalize (sL r2 h1 (sH r1 l1 (sH r0 l0 0))) = z2 at *
  generalize (sH r1 l1 (sH r0 l0 0)) = b2 at *
  generalize (sL r1 l1 (sH r0 l0 0)) = z1 at *
  generalize (sH r0 l0 0) = b1 at *
  generalize (sL r0 l0 0) = z0 at *
  generalize d0 * t = m0 at *
  generalize d1 * t = m1 at *
  clear p0 u0 x0 y0 p1 u1 x1 y1 p2 u2 x2 y2
  omega

set_option maxHeartbeats 1000000 in
theorem takeOff2 (br bd o cr cd : Nat) (r0 r1 r2 d0 d1 t : Int) (w : World) (hne : bd ≠ br)
    (c0 : w.cell? ⟨br, o, none⟩ = some (.int .u64 r0)) (c1 : w.cell? ⟨br, o + 1, none⟩ = some (.int .u64 r1)) (c2 : w.cell? ⟨br, o + 2, none⟩ = some (.int .u64 r2)) (f0 : w.frozen? ⟨br, o, none⟩ = false) (f1 : w.frozen? ⟨br, o + 1, none⟩ = false) (f2 : w.frozen? ⟨br, o + 2, none⟩ = false) (g0 : w.cell? ⟨bd, 0, none⟩ = some (.int .u64 d0)) (g1 : w.cell? ⟨bd, 1, none⟩ = some (.int .u64 d1))
    (p0 : 0 ≤ r0) (u0 : r0 < 18446744073709551616) (p1 : 0 ≤ r1) (u1 : r1 < 18446744073709551616) (p2 : 0 ≤ r2) (u2 : r2 < 18446744073709551616) (dp0 : 0 ≤ d0) (du0 : d0 < 18446744073709551616) (dp1 : 0 ≤ d1) (du1 : d1 < 18446744073709551616) (t0 : 0 ≤ t) (t1 : t < 18446744073709551616) :
    Calls Try.prog 79 #[.slice (some ⟨br, o, none⟩) 3 cr, .slice (some ⟨bd, 0, none⟩) 2 cd, .int .u64 t] w fun e w' => ∃ b s0 s1 s2 : Int, e = .returned (.int .u64 b) ∧ 0 ≤ b ∧ b ≤ 1 ∧ (0 ≤ s0 ∧ s0 < 18446744073709551616 ∧ 0 ≤ s1 ∧ s1 < 18446744073709551616 ∧ 0 ≤ s2 ∧ s2 < 18446744073709551616) ∧ Hid (s0 + s1 * 18446744073709551616 + s2 * 340282366920938463463374607431768211456 = r0 + r1 * 18446744073709551616 + r2 * 340282366920938463463374607431768211456 - (d0 + d1 * 18446744073709551616) * t + b * 6277101735386680763835789423207666416102355444464034512896) ∧
      (w'.cell? ⟨br, o, none⟩ = some (.int .u64 s0) ∧ w'.cell? ⟨br, o + 1, none⟩ = some (.int .u64 s1) ∧ w'.cell? ⟨br, o + 2, none⟩ = some (.int .u64 s2)) ∧ Only w w' br o (o + 3) := by
  go_enter Try.func79, Try.ntmps79
  go_wp2
  refine wp_loop_rounds 3 ?_
  rw [rounds_succ]
  go_wp2_with (go_at_call 69; refine (mulAdd_x d0 t 0 0 dp0 t0 (by first | assumption | decide) (by decide) du0 t1 (by first | assumption | decide) (by decide) _).mono ?_; rintro e w' ⟨h0, l0, rfl, ha0, hb0, hc0, hd0, H0, rfl⟩; have fs0 := subN64 r0 l0 0 p0 hc0 hd0 (by decide) (by decide))
  rw [rounds_succ]
  go_wp2_with (go_at_call 69; refine (mulAdd_x d1 t h0 0 dp1 t0 (by first | assumption | decide) (by decide) du1 t1 (by first | assumption | decide) (by decide) _).mono ?_; rintro e w' ⟨h1, l1, rfl, ha1, hb1, hc1, hd1, H1, rfl⟩; have fs1 := subN64 r1 l1 (sH r0 l0 0) p1 hc1 hd1 (sH0 _ _ _) (sH1 _ _ _); have fs2 := subN64 r2 h1 (sH r1 l1 (sH r0 l0 0)) p2 ha1 hb1 (sH0 _ _ _) (sH1 _ _ _))
  rw [rounds_succ]
  go_wp2
  go_ret
  refine ⟨(sH r2 h1 (sH r1 l1 (sH r0 l0 0))), (sL r0 l0 0), (sL r1 l1 (sH r0 l0 0)), (sL r2 h1 (sH r1 l1 (sH r0 l0 0))), rfl, sH0 _ _ _, sH1 _ _ _, ⟨sL0 _ _ _, sL1 _ _ _, sL0 _ _ _, sL1 _ _ _, sL0 _ _ _, sL1 _ _ _⟩, ?_, ⟨?_, ?_, ?_⟩, ?_⟩
  · exact off_plain2 r0 r1 r2 d0 d1 t h0 l0 h1 l1 p0 u0 p1 u1 p2 u2 hc0 hd0 hc1 hd1 ha1 hb1 H0.out H1.out
  · simp [go_sem, c0]
  · simp [go_sem, c1]
  · simp [go_sem, c2]
  · exact (((Only.refl _ _ _ _).setCell _ _ (by omega) (by omega)).setCell _ _ (by omega) (by omega)).setCell _ _ (by omega) (by omega)

theorem back_plain2 (r0 r1 r2 d0 d1 : Int) :
    (aL r0 d0 0) + (aL r1 d1 (aH r0 d0 0)) * 18446744073709551616 + (aL r2 0 (aH r1 d1 (aH r0 d0 0))) * 340282366920938463463374607431768211456 = r0 + r1 * 18446744073709551616 + r2 * 340282366920938463463374607431768211456 + (d0 + d1 * 18446744073709551616) - (aH r2 0 (aH r1 d1 (aH r0 d0 0))) * 6277101735386680763835789423207666416102355444464034512896 := by
  have q0 := aE r0 d0 0
  have q1 := aE r1 d1 (aH r0 d0 0)
  have q2 := aE r2 0 (aH r1 d1 (aH r0 d0 0))
  generalize (aH r2 0 (aH r1 d1 (aH r0 d0 0))) = b3 at *
  generalize (aL r2 0 (aH r1 d1 (aH r0 d0 0))) = z2 at *
  generalize (aH r1 d1 (aH r0 d0 0)) = b2 at *
  generalize (aL r1 d1 (aH r0 d0 0)) = z1 at *
  generalize (aH r0 d0 0) = b1 at *
  generalize (aL r0 d0 0) = z0 at *
  omega

set_option maxHeartbeats 1000000 in
theorem putBack2 (br bd o cr cd : Nat) (r0 r1 r2 d0 d1 : Int) (w : World) (hne : bd ≠ br)
    (c0 : w.cell? ⟨br, o, none⟩ = some (.int .u64 r0)) (c1 : w.cell? ⟨br, o + 1, none⟩ = some (.int .u64 r1)) (c2 : w.cell? ⟨br, o + 2, none⟩ = some (.int .u64 r2)) (f0 : w.frozen? ⟨br, o, none⟩ = false) (f1 : w.frozen? ⟨br, o + 1, none⟩ = false) (f2 : w.frozen? ⟨br, o + 2, none⟩ = false) (g0 : w.cell? ⟨bd, 0, none⟩ = some (.int .u64 d0)) (g1 : w.cell? ⟨bd, 1, none⟩ = some (.int .u64 d1))
    (p0 : 0 ≤ r0) (u0 : r0 < 18446744073709551616) (p1 : 0 ≤ r1) (u1 : r1 < 18446744073709551616) (p2 : 0 ≤ r2) (u2 : r2 < 18446744073709551616) (dp0 : 0 ≤ d0) (du0 : d0 < 18446744073709551616) (dp1 : 0 ≤ d1) (du1 : d1 < 18446744073709551616) :
    Calls Try.prog 80 #[.slice (some ⟨br, o, none⟩) 3 cr, .slice (some ⟨bd, 0, none⟩) 2 cd] w fun e w' => ∃ b s0 s1 s2 : Int, e = .returned (.int .u64 b) ∧ 0 ≤ b ∧ b ≤ 1 ∧ (0 ≤ s0 ∧ s0 < 18446744073709551616 ∧ 0 ≤ s1 ∧ s1 < 18446744073709551616 ∧ 0 ≤ s2 ∧ s2 < 18446744073709551616) ∧ Hid (s0 + s1 * 18446744073709551616 + s2 * 340282366920938463463374607431768211456 = r0 + r1 * 18446744073709551616 + r2 * 340282366920938463463374607431768211456 + (d0 + d1 * 18446744073709551616) - b * 6277101735386680763835789423207666416102355444464034512896) ∧
      (w'.cell? ⟨br, o, none⟩ = some (.int .u64 s0) ∧ w'.cell? ⟨br, o + 1, none⟩ = some (.int .u64 s1) ∧ w'.cell? ⟨br, o + 2, none⟩ = some (.int .u64 s2)) ∧ Only w w' br o (o + 3) := by
  have fs0 := addN64 r0 d0 0 p0 dp0 (Int.le_refl 0) (by decide)
  have k0 := aH0 r0 d0 0 p0 dp0 (Int.le_refl 0)
  have m0 := aH1 r0 d0 0 u0 du0 (by decide)
  have fs1 := addN64 r1 d1 (aH r0 d0 0) p1 dp1 k0 m0
  have k1 := aH0 r1 d1 (aH r0 d0 0) p1 dp1 k0
  have m1 := aH1 r1 d1 (aH r0 d0 0) u1 du1 m0
  have fs2 := addN64 r2 0 (aH r1 d1 (aH r0 d0 0)) p2 (Int.le_refl 0) k1 m1
  have k2 := aH0 r2 0 (aH r1 d1 (aH r0 d0 0)) p2 (Int.le_refl 0) k1
  have m2 := aH1 r2 0 (aH r1 d1 (aH r0 d0 0)) u2 (by decide) m1
  go_enter Try.func80, Try.ntmps80
  go_wp2
  refine wp_loop_rounds 3 ?_
  rw [rounds_succ]
  go_wp2
  rw [rounds_succ]
  go_wp2
  rw [rounds_succ]
  go_wp2
  go_ret
  refine ⟨(aH r2 0 (aH r1 d1 (aH r0 d0 0))), (aL r0 d0 0), (aL r1 d1 (aH r0 d0 0)), (aL r2 0 (aH r1 d1 (aH r0 d0 0))), rfl, k2, m2, ⟨aL0 _ _ _, aL1 _ _ _, aL0 _ _ _, aL1 _ _ _, aL0 _ _ _, aL1 _ _ _⟩, back_plain2 r0 r1 r2 d0 d1, ⟨?_, ?_, ?_⟩, ?_⟩
  · simp [go_sem, c0]
  · simp [go_sem, c1]
  · simp [go_sem, c2]
  · exact (((Only.refl _ _ _ _).setCell _ _ (by omega) (by omega)).setCell _ _ (by omega) (by omega)).setCell _ _ (by omega) (by omega)

theorem off_plain3 (r0 r1 r2 r3 d0 d1 d2 t h0 l0 h1 l1 h2 l2 : Int) (p0 : 0 ≤ r0) (u0 : r0 < 18446744073709551616) (p1 : 0 ≤ r1) (u1 : r1 < 18446744073709551616) (p2 : 0 ≤ r2) (u2 : r2 < 18446744073709551616) (p3 : 0 ≤ r3) (u3 : r3 < 18446744073709551616) (x0 : 0 ≤ l0) (y0 : l0 < 18446744073709551616) (x1 : 0 ≤ l1) (y1 : l1 < 18446744073709551616) (x2 : 0 ≤ l2) (y2 : l2 < 18446744073709551616) (x3 : 0 ≤ h2) (y3 : h2 < 18446744073709551616) (e0 : h0 * 18446744073709551616 + l0 = d0 * t + 0 + 0) (e1 : h1 * 18446744073709551616 + l1 = d1 * t + h0 + 0) (e2 : h2 * 18446744073709551616 + l2 = d2 * t + h1 + 0) :
    (sL r0 l0 0) + (sL r1 l1 (sH r0 l0 0)) * 18446744073709551616 + (sL r2 l2 (sH r1 l1 (sH r0 l0 0))) * 340282366920938463463374607431768211456 + (sL r3 h2 (sH r2 l2 (sH r1 l1 (sH r0 l0 0)))) * 6277101735386680763835789423207666416102355444464034512896 = r0 + r1 * 18446744073709551616 + r2 * 340282366920938463463374607431768211456 + r3 * 6277101735386680763835789423207666416102355444464034512896 - (d0 + d1 * 18446744073709551616 + d2 * 340282366920938463463374607431768211456) * t + (sH r3 h2 (sH r2 l2 (sH r1 l1 (sH r0 l0 0)))) * 115792089237316195423570985008687907853269984665640564039457584007913129639936 := by
  have q0 := sE r0 l0 0 p0 x0 (by decide) u0 y0 (by decide)
  have q1 := sE r1 l1 (sH r0 l0 0) p1 x1 (sH0 _ _ _) u1 y1 (sH1 _ _ _)
  have q2 := sE r2 l2 (sH r1 l1 (sH r0 l0 0)) p2 x2 (sH0 _ _ _) u2 y2 (sH1 _ _ _)
  have q3 := sE r3 h2 (sH r2 l2 (sH r1 l1 (sH r0 l0 0))) p3 x3 (sH0 _ _ _) u3 y3 (sH1 _ _ _)
  rw [Int.add_mul, Int.add_mul, Int.mul_right_comm d1, Int.mul_right_comm d2]
  generalize (sH r3 h2 (sH r2 l2 (sH r1 l1 (sH r0 l0 0)))) = b4 at *
  generalize (sL r3 h2 (sH r2 l2 (sH r1 l1 (sH r0 l0 0)))) = z3 at *
  generalize (sH r2 l2 (sH r1 l1 (sH r0 l0 0))) = b3 at *
  generalize (sL r2 l2 (sH r1 l1 (sH r0 l0 0))) = z2 at *
  generalize (sH r1 l1 (sH r0 l0 0)) = b2 at *
  generalize (sL r1 l1 (sH r0 l0 0)) = z1 at *
  generalize (sH r0 l0 0) = b1 at *
  generalize (sL r0 l0 0) = z0 at *
  generalize d0 * t = m0 at *
  generalize d1 * t = m1 at *
  generalize d2 * t = m2 at *
  clear p0 u0 x0 y0 p1 u1 x1 y1 p2 u2 x2 y2 p3 u3 x3 y3
  omega

set_option maxHeartbeats 1000000 in
theorem takeOff3 (br bd o cr cd : Nat) (r0 r1 r2 r3 d0 d1 d2 t : Int) (w : World) (hne : bd ≠ br)
    (c0 : w.cell? ⟨br, o, none⟩ = some (.int .u64 r0)) (c1 : w.cell? ⟨br, o + 1, none⟩ = some (.int .u64 r1)) (c2 : w.cell? ⟨br, o + 2, none⟩ = some (.int .u64 r2)) (c3 : w.cell? ⟨br, o + 3, none⟩ = some (.int .u64 r3)) (f0 : w.frozen? ⟨br, o, none⟩ = false) (f1 : w.frozen? ⟨br, o + 1, none⟩ = false) (f2 : w.frozen? ⟨br, o + 2, none⟩ = false) (f3 : w.frozen? ⟨br, o + 3, none⟩ = false) (g0 : w.cell? ⟨bd, 0, none⟩ = some (.int .u64 d0)) (g1 : w.cell? ⟨bd, 1, none⟩ = some (.int .u64 d1)) (g2 : w.cell? ⟨bd, 2, none⟩ = some (.int .u64 d2))
    (p0 : 0 ≤ r0) (u0 : r0 < 18446744073709551616) (p1 : 0 ≤ r1) (u1 : r1 < 18446744073709551616) (p2 : 0 ≤ r2) (u2 : r2 < 18446744073709551616) (p3 : 0 ≤ r3) (u3 : r3 < 18446744073709551616) (dp0 : 0 ≤ d0) (du0 : d0 < 18446744073709551616) (dp1 : 0 ≤ d1) (du1 : d1 < 18446744073709551616) (dp2 : 0 ≤ d2) (du2 : d2 < 18446744073709551616) (t0 : 0 ≤ t) (t1 : t < 18446744073709551616) :
    Calls Try.prog 79 #[.slice (some ⟨br, o, none⟩) 4 cr, .slice (some ⟨bd, 0, none⟩) 3 cd, .int .u64 t] w fun e w' => ∃ b s0 s1 s2 s3 : Int, e = .returned (.int .u64 b) ∧ 0 ≤ b ∧ b ≤ 1 ∧ (0 ≤ s0 ∧ s0 < 18446744073709551616 ∧ 0 ≤ s1 ∧ s1 < 18446744073709551616 ∧ 0 ≤ s2 ∧ s2 < 18446744073709551616 ∧ 0 ≤ s3 ∧ s3 < 18446744073709551616) ∧ Hid (s0 + s1 * 18446744073709551616 + s2 * 340282366920938463463374607431768211456 + s3 * 6277101735386680763835789423207666416102355444464034512896 = r0 + r1 * 18446744073709551616 + r2 * 340282366920938463463374607431768211456 + r3 * 6277101735386680763835789423207666416102355444464034512896 - (d0 + d1 * 18446744073709551616 + d2 * 340282366920938463463374607431768211456) * t + b * 115792089237316195423570985008687907853269984665640564039457584007913129639936) ∧
      (w'.cell? ⟨br, o, none⟩ = some (.int .u64 s0) ∧ w'.cell? ⟨br, o + 1, none⟩ = some (.int .u64 s1) ∧ w'.cell? ⟨br, o + 2, none⟩ = some (.int .u64 s2) ∧ w'.cell? ⟨br, o + 3, none⟩ = some (.int .u64 s3)) ∧ Only w w' br o (o + 4) := by
  go_enter Try.func79, Try.ntmps79
  go_wp2
  refine wp_loop_rounds 4 ?_
  rw [rounds_succ]
  go_wp2_with (go_at_call 69; refine (mulAdd_x d0 t 0 0 dp0 t0 (by first | assumption | decide) (by decide) du0 t1 (by first | assumption | decide) (by decide) _).mono ?_; rintro e w' ⟨h0, l0, rfl, ha0, hb0, hc0, hd0, H0, rfl⟩; have fs0 := subN64 r0 l0 0 p0 hc0 hd0 (by decide) (by decide))
  rw [rounds_succ]
  go_wp2_with (go_at_call 69; refine (mulAdd_x d1 t h0 0 dp1 t0 (by first | assumption | decide) (by decide) du1 t1 (by first | assumption | decide) (by decide) _).mono ?_; rintro e w' ⟨h1, l1, rfl, ha1, hb1, hc1, hd1, H1, rfl⟩; have fs1 := subN64 r1 l1 (sH r0 l0 0) p1 hc1 hd1 (sH0 _ _ _) (sH1 _ _ _))
  rw [rounds_succ]
  go_wp2_with (go_at_call 69; refine (mulAdd_x d2 t h1 0 dp2 t0 (by first | assumption | decide) (by decide) du2 t1 (by first | assumption | decide) (by decide) _).mono ?_; rintro e w' ⟨h2, l2, rfl, ha2, hb2, hc2, hd2, H2, rfl⟩; have fs2 := subN64 r2 l2 (sH r1 l1 (sH r0 l0 0)) p2 hc2 hd2 (sH0 _ _ _) (sH1 _ _ _); have fs3 := subN64 r3 h2 (sH r2 l2 (sH r1 l1 (sH r0 l0 0))) p3 ha2 hb2 (sH0 _ _ _) (sH1 _ _ _))
  rw [rounds_succ]
  go_wp2
  go_ret
  refine ⟨(sH r3 h2 (sH r2 l2 (sH r1 l1 (sH r0 l0 0)))), (sL r0 l0 0), (sL r1 l1 (sH r0 l0 0)), (sL r2 l2 (sH r1 l1 (sH r0 l0 0))), (sL r3 h2 (sH r2 l2 (sH r1 l1 (sH r0 l0 0)))), rfl, sH0 _ _ _, sH1 _ _ _, ⟨sL0 _ _ _, sL1 _ _ _, sL0 _ _ _, sL1 _ _ _, sL0 _ _ _, sL1 _ _ _, sL0 _ _ _, sL1 _ _ _⟩, ?_, ⟨?_, ?_, ?_, ?_⟩, ?_⟩
  · exact off_plain3 r0 r1 r2 r3 d0 d1 d2 t h0 l0 h1 l1 h2 l2 p0 u0 p1 u1 p2 u2 p3 u3 hc0 hd0 hc1 hd1 hc2 hd2 ha2 hb2 H0.out H1.out H2.out
  · simp [go_sem, c0]
  · simp [go_sem, c1]
  · simp [go_sem, c2]
  · simp [go_sem, c3]
  · exact ((((Only.refl _ _ _ _).setCell _ _ (by omega) (by omega)).setCell _ _ (by omega) (by omega)).setCell _ _ (by omega) (by omega)).setCell _ _ (by omega) (by omega)

theorem back_plain3 (r0 r1 r2 r3 d0 d1 d2 : Int) :
    (aL r0 d0 0) + (aL r1 d1 (aH r0 d0 0)) * 18446744073709551616 + (aL r2 d2 (aH r1 d1 (aH r0 d0 0))) * 340282366920938463463374607431768211456 + (aL r3 0 (aH r2 d2 (aH r1 d1 (aH r0 d0 0)))) * 6277101735386680763835789423207666416102355444464034512896 = r0 + r1 * 18446744073709551616 + r2 * 340282366920938463463374607431768211456 + r3 * 6277101735386680763835789423207666416102355444464034512896 + (d0 + d1 * 18446744073709551616 + d2 * 340282366920938463463374607431768211456) - (aH r3 0 (aH r2 d2 (aH r1 d1 (aH r0 d0 0)))) * 115792089237316195423570985008687907853269984665640564039457584007913129639936 := by
  have q0 := aE r0 d0 0
  have q1 := aE r1 d1 (aH r0 d0 0)
  have q2 := aE r2 d2 (aH r1 d1 (aH r0 d0 0))
  have q3 := aE r3 0 (aH r2 d2 (aH r1 d1 (aH r0 d0 0)))
  generalize (aH r3 0 (aH r2 d2 (aH r1 d1 (aH r0 d0 0)))) = b4 at *
  generalize (aL r3 0 (aH r2 d2 (aH r1 d1 (aH r0 d0 0)))) = z3 at *
  generalize (aH r2 d2 (aH r1 d1 (aH r0 d0 0))) = b3 at *
  generalize (aL r2 d2 (aH r1 d1 (aH r0 d0 0))) = z2 at *
  generalize (aH r1 d1 (aH r0 d0 0)) = b2 at *
  generalize (aL r1 d1 (aH r0 d0 0)) = z1 at *
  generalize (aH r0 d0 0) = b1 at *
  generalize (aL r0 d0 0) = z0 at *
  omega

set_option maxHeartbeats 1000000 in
theorem putBack3 (br bd o cr cd : Nat) (r0 r1 r2 r3 d0 d1 d2 : Int) (w : World) (hne : bd ≠ br)
    (c0 : w.cell? ⟨br, o, none⟩ = some (.int .u64 r0)) (c1 : w.cell? ⟨br, o + 1, none⟩ = some (.int .u64 r1)) (c2 : w.cell? ⟨br, o + 2, none⟩ = some (.int .u64 r2)) (c3 : w.cell? ⟨br, o + 3, none⟩ = some (.int .u64 r3)) (f0 : w.frozen? ⟨br, o, none⟩ = false) (f1 : w.frozen? ⟨br, o + 1, none⟩ = false) (f2 : w.frozen? ⟨br, o + 2, none⟩ = false) (f3 : w.frozen? ⟨br, o + 3, none⟩ = false) (g0 : w.cell? ⟨bd, 0, none⟩ = some (.int .u64 d0)) (g1 : w.cell? ⟨bd, 1, none⟩ = some (.int .u64 d1)) (g2 : w.cell? ⟨bd, 2, none⟩ = some (.int .u64 d2))
    (p0 : 0 ≤ r0) (u0 : r0 < 18446744073709551616) (p1 : 0 ≤ r1) (u1 : r1 < 18446744073709551616) (p2 : 0 ≤ r2) (u2 : r2 < 18446744073709551616) (p3 : 0 ≤ r3) (u3 : r3 < 18446744073709551616) (dp0 : 0 ≤ d0) (du0 : d0 < 18446744073709551616) (dp1 : 0 ≤ d1) (du1 : d1 < 18446744073709551616) (dp2 : 0 ≤ d2) (du2 : d2 < 18446744073709551616) :
    Calls Try.prog 80 #[.slice (some ⟨br, o, none⟩) 4 cr, .slice (some ⟨bd, 0, none⟩) 3 cd] w fun e w' => ∃ b s0 s1 s2 s3 : Int, e = .returned (.int .u64 b) ∧ 0 ≤ b ∧ b ≤ 1 ∧ (0 ≤ s0 ∧ s0 < 18446744073709551616 ∧ 0 ≤ s1 ∧ s1 < 18446744073709551616 ∧ 0 ≤ s2 ∧ s2 < 18446744073709551616 ∧ 0 ≤ s3 ∧ s3 < 18446744073709551616) ∧ Hid (s0 + s1 * 18446744073709551616 + s2 * 340282366920938463463374607431768211456 + s3 * 6277101735386680763835789423207666416102355444464034512896 = r0 + r1 * 18446744073709551616 + r2 * 340282366920938463463374607431768211456 + r3 * 6277101735386680763835789423207666416102355444464034512896 + (d0 + d1 * 18446744073709551616 + d2 * 340282366920938463463374607431768211456) - b * 115792089237316195423570985008687907853269984665640564039457584007913129639936) ∧
      (w'.cell? ⟨br, o, none⟩ = some (.int .u64 s0) ∧ w'.cell? ⟨br, o + 1, none⟩ = some (.int .u64 s1) ∧ w'.cell? ⟨br, o + 2, none⟩ = some (.int .u64 s2) ∧ w'.cell? ⟨br, o + 3, none⟩ = some (.int .u64 s3)) ∧ Only w w' br o (o + 4) := by
  have fs0 := addN64 r0 d0 0 p0 dp0 (Int.le_refl 0) (by decide)
  have k0 := aH0 r0 d0 0 p0 dp0 (Int.le_refl 0)
  have m0 := aH1 r0 d0 0 u0 du0 (by decide)
  have fs1 := addN64 r1 d1 (aH r0 d0 0) p1 dp1 k0 m0
  have k1 := aH0 r1 d1 (aH r0 d0 0) p1 dp1 k0
  have m1 := aH1 r1 d1 (aH r0 d0 0) u1 du1 m0
  have fs2 := addN64 r2 d2 (aH r1 d1 (aH r0 d0 0)) p2 dp2 k1 m1
  have k2 := aH0 r2 d2 (aH r1 d1 (aH r0 d0 0)) p2 dp2 k1
  have m2 := aH1 r2 d2 (aH r1 d1 (aH r0 d0 0)) u2 du2 m1
  have fs3 := addN64 r3 0 (aH r2 d2 (aH r1 d1 (aH r0 d0 0))) p3 (Int.le_refl 0) k2 m2
  have k3 := aH0 r3 0 (aH r2 d2 (aH r1 d1 (aH r0 d0 0))) p3 (Int.le_refl 0) k2
  have m3 := aH1 r3 0 (aH r2 d2 (aH r1 d1 (aH r0 d0 0))) u3 (by decide) m2
  go_enter Try.func80, Try.ntmps80
  go_wp2
  refine wp_loop_rounds 4 ?_
  rw [rounds_succ]
  go_wp2
  rw [rounds_succ]
  go_wp2
  rw [rounds_succ]
  go_wp2
  rw [rounds_succ]
  go_wp2
  go_ret
  refine ⟨(aH r3 0 (aH r2 d2 (aH r1 d1 (aH r0 d0 0)))), (aL r0 d0 0), (aL r1 d1 (aH r0 d0 0)), (aL r2 d2 (aH r1 d1 (aH r0 d0 0))), (aL r3 0 (aH r2 d2 (aH r1 d1 (aH r0 d0 0)))), rfl, k3, m3, ⟨aL0 _ _ _, aL1 _ _ _, aL0 _ _ _, aL1 _ _ _, aL0 _ _ _, aL1 _ _ _, aL0 _ _ _, aL1 _ _ _⟩, back_plain3 r0 r1 r2 r3 d0 d1 d2, ⟨?_, ?_, ?_, ?_⟩, ?_⟩
  · simp [go_sem, c0]
  · simp [go_sem, c1]
  · simp [go_sem, c2]
  · simp [go_sem, c3]
  · exact ((((Only.refl _ _ _ _).setCell _ _ (by omega) (by omega)).setCell _ _ (by omega) (by omega)).setCell _ _ (by omega) (by omega)).setCell _ _ (by omega) (by omega)

theorem off_plain4 (r0 r1 r2 r3 r4 d0 d1 d2 d3 t h0 l0 h1 l1 h2 l2 h3 l3 : Int) (p0 : 0 ≤ r0) (u0 : r0 < 18446744073709551616) (p1 : 0 ≤ r1) (u1 : r1 < 18446744073709551616) (p2 : 0 ≤ r2) (u2 : r2 < 18446744073709551616) (p3 : 0 ≤ r3) (u3 : r3 < 18446744073709551616) (p4 : 0 ≤ r4) (u4 : r4 < 18446744073709551616) (x0 : 0 ≤ l0) (y0 : l0 < 18446744073709551616) (x1 : 0 ≤ l1) (y1 : l1 < 18446744073709551616) (x2 : 0 ≤ l2) (y2 : l2 < 18446744073709551616) (x3 : 0 ≤ l3) (y3 : l3 < 18446744073709551616) (x4 : 0 ≤ h3) (y4 : h3 < 18446744073709551616) (e0 : h0 * 18446744073709551616 + l0 = d0 * t + 0 + 0) (e1 : h1 * 18446744073709551616 + l1 = d1 * t + h0 + 0) (e2 : h2 * 18446744073709551616 + l2 = d2 * t + h1 + 0) (e3 : h3 * 18446744073709551616 + l3 = d3 * t + h2 + 0) :
    (sL r0 l0 0) + (sL r1 l1 (sH r0 l0 0)) * 18446744073709551616 + (sL r2 l2 (sH r1 l1 (sH r0 l0 0))) * 340282366920938463463374607431768211456 + (sL r3 l3 (sH r2 l2 (sH r1 l1 (sH r0 l0 0)))) * 6277101735386680763835789423207666416102355444464034512896 + (sL r4 h3 (sH r3 l3 (sH r2 l2 (sH r1 l1 (sH r0 l0 0))))) * 115792089237316195423570985008687907853269984665640564039457584007913129639936 = r0 + r1 * 18446744073709551616 + r2 * 340282366920938463463374607431768211456 + r3 * 6277101735386680763835789423207666416102355444464034512896 + r4 * 115792089237316195423570985008687907853269984665640564039457584007913129639936 - (d0 + d1 * 18446744073709551616 + d2 * 340282366920938463463374607431768211456 + d3 * 6277101735386680763835789423207666416102355444464034512896) * t + (sH r4 h3 (sH r3 l3 (sH r2 l2 (sH r1 l1 (sH r0 l0 0))))) * 2135987035920910082395021706169552114602704522356652769947041607822219725780640550022962086936576 := by
  have q0 := sE r0 l0 0 p0 x0 (by decide) u0 y0 (by decide)
  have q1 := sE r1 l1 (sH r0 l0 0) p1 x1 (sH0 _ _ _) u1 y1 (sH1 _ _ _)
  have q2 := sE r2 l2 (sH r1 l1 (sH r0 l0 0)) p2 x2 (sH0 _ _ _) u2 y2 (sH1 _ _ _)
  have q3 := sE r3 l3 (sH r2 l2 (sH r1 l1 (sH r0 l0 0))) p3 x3 (sH0 _ _ _) u3 y3 (sH1 _ _ _)
  have q4 := sE r4 h3 (sH r3 l3 (sH r2 l2 (sH r1 l1 (sH r0 l0 0)))) p4 x4 (sH0 _ _ _) u4 y4 (sH1 _ _ _)
  rw [Int.add_mul, Int.add_mul, Int.add_mul, Int.mul_right_comm d1, Int.mul_right_comm d2, Int.mul_right_comm d3]
  generalize (sH r4 h3 (sH r3 l3 (sH r2 l2 (sH r1 l1 (sH r0 l0 0))))) = b5 at *
  generalize (sL r4 h3 (sH r3 l3 (sH r2 l2 (sH r1 l1 (sH r0 l0 0))))) = z4 at *
  generalize (sH r3 l3 (sH r2 l2 (sH r1 l1 (sH r0 l0 0)))) = b4 at *
  generalize (sL r3 l3 (sH r2 l2 (sH r1 l1 (sH r0 l0 0)))) = z3 at *
  generalize (sH r2 l2 (sH r1 l1 (sH r0 l0 0))) = b3 at *
  generalize (sL r2 l2 (sH r1 l1 (sH r0 l0 0))) = z2 at *
  generalize (sH r1 l1 (sH r0 l0 0)) = b2 at *
  generalize (sL r1 l1 (sH r0 l0 0)) = z1 at *
  generalize (sH r0 l0 0) = b1 at *
  generalize (sL r0 l0 0) = z0 at *
  generalize d0 * t = m0 at *
  generalize d1 * t = m1 at *
  generalize d2 * t = m2 at *
  generalize d3 * t = m3 at *
  clear p0 u0 x0 y0 p1 u1 x1 y1 p2 u2 x2 y2 p3 u3 x3 y3 p4 u4 x4 y4
  omega

set_option maxHeartbeats 1000000 in
theorem takeOff4 (br bd o cr cd : Nat) (r0 r1 r2 r3 r4 d0 d1 d2 d3 t : Int) (w : World) (hne : bd ≠ br)
    (c0 : w.cell? ⟨br, o, none⟩ = some (.int .u64 r0)) (c1 : w.cell? ⟨br, o + 1, none⟩ = some (.int .u64 r1)) (c2 : w.cell? ⟨br, o + 2, none⟩ = some (.int .u64 r2)) (c3 : w.cell? ⟨br, o + 3, none⟩ = some (.int .u64 r3)) (c4 : w.cell? ⟨br, o + 4, none⟩ = some (.int .u64 r4)) (f0 : w.frozen? ⟨br, o, none⟩ = false) (f1 : w.frozen? ⟨br, o + 1, none⟩ = false) (f2 : w.frozen? ⟨br, o + 2, none⟩ = false) (f3 : w.frozen? ⟨br, o + 3, none⟩ = false) (f4 : w.frozen? ⟨br, o + 4, none⟩ = false) (g0 : w.cell? ⟨bd, 0, none⟩ = some (.int .u64 d0)) (g1 : w.cell? ⟨bd, 1, none⟩ = some (.int .u64 d1)) (g2 : w.cell? ⟨bd, 2, none⟩ = some (.int .u64 d2)) (g3 : w.cell? ⟨bd, 3, none⟩ = some (.int .u64 d3))
    (p0 : 0 ≤ r0) (u0 : r0 < 18446744073709551616) (p1 : 0 ≤ r1) (u1 : r1 < 18446744073709551616) (p2 : 0 ≤ r2) (u2 : r2 < 18446744073709551616) (p3 : 0 ≤ r3) (u3 : r3 < 18446744073709551616) (p4 : 0 ≤ r4) (u4 : r4 < 18446744073709551616) (dp0 : 0 ≤ d0) (du0 : d0 < 18446744073709551616) (dp1 : 0 ≤ d1) (du1 : d1 < 18446744073709551616) (dp2 : 0 ≤ d2) (du2 : d2 < 18446744073709551616) (dp3 : 0 ≤ d3) (du3 : d3 < 18446744073709551616) (t0 : 0 ≤ t) (t1 : t < 18446744073709551616) :
    Calls Try.prog 79 #[.slice (some ⟨br, o, none⟩) 5 cr, .slice (some ⟨bd, 0, none⟩) 4 cd, .int .u64 t] w fun e w' => ∃ b s0 s1 s2 s3 s4 : Int, e = .returned (.int .u64 b) ∧ 0 ≤ b ∧ b ≤ 1 ∧ (0 ≤ s0 ∧ s0 < 18446744073709551616 ∧ 0 ≤ s1 ∧ s1 < 18446744073709551616 ∧ 0 ≤ s2 ∧ s2 < 18446744073709551616 ∧ 0 ≤ s3 ∧ s3 < 18446744073709551616 ∧ 0 ≤ s4 ∧ s4 < 18446744073709551616) ∧ Hid (s0 + s1 * 18446744073709551616 + s2 * 340282366920938463463374607431768211456 + s3 * 6277101735386680763835789423207666416102355444464034512896 + s4 * 115792089237316195423570985008687907853269984665640564039457584007913129639936 = r0 + r1 * 18446744073709551616 + r2 * 340282366920938463463374607431768211456 + r3 * 6277101735386680763835789423207666416102355444464034512896 + r4 * 115792089237316195423570985008687907853269984665640564039457584007913129639936 - (d0 + d1 * 18446744073709551616 + d2 * 340282366920938463463374607431768211456 + d3 * 6277101735386680763835789423207666416102355444464034512896) * t + b * 2135987035920910082395021706169552114602704522356652769947041607822219725780640550022962086936576) ∧
      (w'.cell? ⟨br, o, none⟩ = some (.int .u64 s0) ∧ w'.cell? ⟨br, o + 1, none⟩ = some (.int .u64 s1) ∧ w'.cell? ⟨br, o + 2, none⟩ = some (.int .u64 s2) ∧ w'.cell? ⟨br, o + 3, none⟩ = some (.int .u64 s3) ∧ w'.cell? ⟨br, o + 4, none⟩ = some (.int .u64 s4)) ∧ Only w w' br o (o + 5) := by
  go_enter Try.func79, Try.ntmps79
  go_wp2
  refine wp_loop_rounds 5 ?_
  rw [rounds_succ]
  go_wp2_with (go_at_call 69; refine (mulAdd_x d0 t 0 0 dp0 t0 (by first | assumption | decide) (by decide) du0 t1 (by first | assumption | decide) (by decide) _).mono ?_; rintro e w' ⟨h0, l0, rfl, ha0, hb0, hc0, hd0, H0, rfl⟩; have fs0 := subN64 r0 l0 0 p0 hc0 hd0 (by decide) (by decide))
  rw [rounds_succ]
  go_wp2_with (go_at_call 69; refine (mulAdd_x d1 t h0 0 dp1 t0 (by first | assumption | decide) (by decide) du1 t1 (by first | assumption | decide) (by decide) _).mono ?_; rintro e w' ⟨h1, l1, rfl, ha1, hb1, hc1, hd1, H1, rfl⟩; have fs1 := subN64 r1 l1 (sH r0 l0 0) p1 hc1 hd1 (sH0 _ _ _) (sH1 _ _ _))
  rw [rounds_succ]
  go_wp2_with (go_at_call 69; refine (mulAdd_x d2 t h1 0 dp2 t0 (by first | assumption | decide) (by decide) du2 t1 (by first | assumption | decide) (by decide) _).mono ?_; rintro e w' ⟨h2, l2, rfl, ha2, hb2, hc2, hd2, H2, rfl⟩; have fs2 := subN64 r2 l2 (sH r1 l1 (sH r0 l0 0)) p2 hc2 hd2 (sH0 _ _ _) (sH1 _ _ _))
  rw [rounds_succ]
  go_wp2_with (go_at_call 69; refine (mulAdd_x d3 t h2 0 dp3 t0 (by first | assumption | decide) (by decide) du3 t1 (by first | assumption | decide) (by decide) _).mono ?_; rintro e w' ⟨h3, l3, rfl, ha3, hb3, hc3, hd3, H3, rfl⟩; have fs3 := subN64 r3 l3 (sH r2 l2 (sH r1 l1 (sH r0 l0 0))) p3 hc3 hd3 (sH0 _ _ _) (sH1 _ _ _); have fs4 := subN64 r4 h3 (sH r3 l3 (sH r2 l2 (sH r1 l1 (sH r0 l0 0)))) p4 ha3 hb3 (sH0 _ _ _) (sH1 _ _ _))
  rw [rounds_succ]
  go_wp2
  go_ret
  refine ⟨(sH r4 h3 (sH r3 l3 (sH r2 l2 (sH r1 l1 (sH r0 l0 0))))), (sL r0 l0 0), (sL r1 l1 (sH r0 l0 0)), (sL r2 l2 (sH r1 l1 (sH r0 l0 0))), (sL r3 l3 (sH r2 l2 (sH r1 l1 (sH r0 l0 0)))), (sL r4 h3 (sH r3 l3 (sH r2 l2 (sH r1 l1 (sH r0 l0 0))))), rfl, sH0 _ _ _, sH1 _ _ _, ⟨sL0 _ _ _, sL1 _ _ _, sL0 _ _ _, sL1 _ _ _, sL0 _ _ _, sL1 _ _ _, sL0 _ _ _, sL1 _ _ _, sL0 _ _ _, sL1 _ _ _⟩, ?_, ⟨?_, ?_, ?_, ?_, ?_⟩, ?_⟩
  · exact off_plain4 r0 r1 r2 r3 r4 d0 d1 d2 d3 t h0 l0 h1 l1 h2 l2 h3 l3 p0 u0 p1 u1 p2 u2 p3 u3 p4 u4 hc0 hd0 hc1 hd1 hc2 hd2 hc3 hd3 ha3 hb3 H0.out H1.out H2.out H3.out
  · simp [go_sem, c0]
  · simp [go_sem, c1]
  · simp [go_sem, c2]
  · simp [go_sem, c3]
  · simp [go_sem, c4]
  · exact (((((Only.refl _ _ _ _).setCell _ _ (by omega) (by omega)).setCell _ _ (by omega) (by omega)).setCell _ _ (by omega) (by omega)).setCell _ _ (by omega) (by omega)).setCell _ _ (by omega) (by omega)

theorem back_plain4 (r0 r1 r2 r3 r4 d0 d1 d2 d3 : Int) :
    (aL r0 d0 0) + (aL r1 d1 (aH r0 d0 0)) * 18446744073709551616 + (aL r2 d2 (aH r1 d1 (aH r0 d0 0))) * 340282366920938463463374607431768211456 + (aL r3 d3 (aH r2 d2 (aH r1 d1 (aH r0 d0 0)))) * 6277101735386680763835789423207666416102355444464034512896 + (aL r4 0 (aH r3 d3 (aH r2 d2 (aH r1 d1 (aH r0 d0 0))))) * 115792089237316195423570985008687907853269984665640564039457584007913129639936 = r0 + r1 * 18446744073709551616 + r2 * 340282366920938463463374607431768211456 + r3 * 6277101735386680763835789423207666416102355444464034512896 + r4 * 115792089237316195423570985008687907853269984665640564039457584007913129639936 + (d0 + d1 * 18446744073709551616 + d2 * 340282366920938463463374607431768211456 + d3 * 6277101735386680763835789423207666416102355444464034512896) - (aH r4 0 (aH r3 d3 (aH r2 d2 (aH r1 d1 (aH r0 d0 0))))) * 2135987035920910082395021706169552114602704522356652769947041607822219725780640550022962086936576 := by
  have q0 := aE r0 d0 0
  have q1 := aE r1 d1 (aH r0 d0 0)
  have q2 := aE r2 d2 (aH r1 d1 (aH r0 d0 0))
  have q3 := aE r3 d3 (aH r2 d2 (aH r1 d1 (aH r0 d0 0)))
  have q4 := aE r4 0 (aH r3 d3 (aH r2 d2 (aH r1 d1 (aH r0 d0 0))))
  generalize (aH r4 0 (aH r3 d3 (aH r2 d2 (aH r1 d1 (aH r0 d0 0))))) = b5 at *
  generalize (aL r4 0 (aH r3 d3 (aH r2 d2 (aH r1 d1 (aH r0 d0 0))))) = z4 at *
  generalize (aH r3 d3 (aH r2 d2 (aH r1 d1 (aH r0 d0 0)))) = b4 at *
  generalize (aL r3 d3 (aH r2 d2 (aH r1 d1 (aH r0 d0 0)))) = z3 at *
  generalize (aH r2 d2 (aH r1 d1 (aH r0 d0 0))) = b3 at *
  generalize (aL r2 d2 (aH r1 d1 (aH r0 d0 0))) = z2 at *
  generalize (aH r1 d1 (aH r0 d0 0)) = b2 at *
  generalize (aL r1 d1 (aH r0 d0 0)) = z1 at *
  generalize (aH r0 d0 0) = b1 at *
  generalize (aL r0 d0 0) = z0 at *
  omega

set_option maxHeartbeats 1000000 in
theorem putBack4 (br bd o cr cd : Nat) (r0 r1 r2 r3 r4 d0 d1 d2 d3 : Int) (w : World) (hne : bd ≠ br)
    (c0 : w.cell? ⟨br, o, none⟩ = some (.int .u64 r0)) (c1 : w.cell? ⟨br, o + 1, none⟩ = some (.int .u64 r1)) (c2 : w.cell? ⟨br, o + 2, none⟩ = some (.int .u64 r2)) (c3 : w.cell? ⟨br, o + 3, none⟩ = some (.int .u64 r3)) (c4 : w.cell? ⟨br, o + 4, none⟩ = some (.int .u64 r4)) (f0 : w.frozen? ⟨br, o, none⟩ = false) (f1 : w.frozen? ⟨br, o + 1, none⟩ = false) (f2 : w.frozen? ⟨br, o + 2, none⟩ = false) (f3 : w.frozen? ⟨br, o + 3, none⟩ = false) (f4 : w.frozen? ⟨br, o + 4, none⟩ = false) (g0 : w.cell? ⟨bd, 0, none⟩ = some (.int .u64 d0)) (g1 : w.cell? ⟨bd, 1, none⟩ = some (.int .u64 d1)) (g2 : w.cell? ⟨bd, 2, none⟩ = some (.int .u64 d2)) (g3 : w.cell? ⟨bd, 3, none⟩ = some (.int .u64 d3))
    (p0 : 0 ≤ r0) (u0 : r0 < 18446744073709551616) (p1 : 0 ≤ r1) (u1 : r1 < 18446744073709551616) (p2 : 0 ≤ r2) (u2 : r2 < 18446744073709551616) (p3 : 0 ≤ r3) (u3 : r3 < 18446744073709551616) (p4 : 0 ≤ r4) (u4 : r4 < 18446744073709551616) (dp0 : 0 ≤ d0) (du0 : d0 < 18446744073709551616) (dp1 : 0 ≤ d1) (du1 : d1 < 18446744073709551616) (dp2 : 0 ≤ d2) (du2 : d2 < 18446744073709551616) (dp3 : 0 ≤ d3) (du3 : d3 < 18446744073709551616) :
    Calls Try.prog 80 #[.slice (some ⟨br, o, none⟩) 5 cr, .slice (some ⟨bd, 0, none⟩) 4 cd] w fun e w' => ∃ b s0 s1 s2 s3 s4 : Int, e = .returned (.int .u64 b) ∧ 0 ≤ b ∧ b ≤ 1 ∧ (0 ≤ s0 ∧ s0 < 18446744073709551616 ∧ 0 ≤ s1 ∧ s1 < 18446744073709551616 ∧ 0 ≤ s2 ∧ s2 < 18446744073709551616 ∧ 0 ≤ s3 ∧ s3 < 18446744073709551616 ∧ 0 ≤ s4 ∧ s4 < 18446744073709551616) ∧ Hid (s0 + s1 * 18446744073709551616 + s2 * 340282366920938463463374607431768211456 + s3 * 6277101735386680763835789423207666416102355444464034512896 + s4 * 115792089237316195423570985008687907853269984665640564039457584007913129639936 = r0 + r1 * 18446744073709551616 + r2 * 340282366920938463463374607431768211456 + r3 * 6277101735386680763835789423207666416102355444464034512896 + r4 * 115792089237316195423570985008687907853269984665640564039457584007913129639936 + (d0 + d1 * 18446744073709551616 + d2 * 340282366920938463463374607431768211456 + d3 * 6277101735386680763835789423207666416102355444464034512896) - b * 2135987035920910082395021706169552114602704522356652769947041607822219725780640550022962086936576) ∧
      (w'.cell? ⟨br, o, none⟩ = some (.int .u64 s0) ∧ w'.cell? ⟨br, o + 1, none⟩ = some (.int .u64 s1) ∧ w'.cell? ⟨br, o + 2, none⟩ = some (.int .u64 s2) ∧ w'.cell? ⟨br, o + 3, none⟩ = some (.int .u64 s3) ∧ w'.cell? ⟨br, o + 4, none⟩ = some (.int .u64 s4)) ∧ Only w w' br o (o + 5) := by
  have fs0 := addN64 r0 d0 0 p0 dp0 (Int.le_refl 0) (by decide)
  have k0 := aH0 r0 d0 0 p0 dp0 (Int.le_refl 0)
  have m0 := aH1 r0 d0 0 u0 du0 (by decide)
  have fs1 := addN64 r1 d1 (aH r0 d0 0) p1 dp1 k0 m0
  have k1 := aH0 r1 d1 (aH r0 d0 0) p1 dp1 k0
  have m1 := aH1 r1 d1 (aH r0 d0 0) u1 du1 m0
  have fs2 := addN64 r2 d2 (aH r1 d1 (aH r0 d0 0)) p2 dp2 k1 m1
  have k2 := aH0 r2 d2 (aH r1 d1 (aH r0 d0 0)) p2 dp2 k1
  have m2 := aH1 r2 d2 (aH r1 d1 (aH r0 d0 0)) u2 du2 m1
  have fs3 := addN64 r3 d3 (aH r2 d2 (aH r1 d1 (aH r0 d0 0))) p3 dp3 k2 m2
  have k3 := aH0 r3 d3 (aH r2 d2 (aH r1 d1 (aH r0 d0 0))) p3 dp3 k2
  have m3 := aH1 r3 d3 (aH r2 d2 (aH r1 d1 (aH r0 d0 0))) u3 du3 m2
  have fs4 := addN64 r4 0 (aH r3 d3 (aH r2 d2 (aH r1 d1 (aH r0 d0 0)))) p4 (Int.le_refl 0) k3 m3
  have k4 := aH0 r4 0 (aH r3 d3 (aH r2 d2 (aH r1 d1 (aH r0 d0 0)))) p4 (Int.le_refl 0) k3
  have m4 := aH1 r4 0 (aH r3 d3 (aH r2 d2 (aH r1 d1 (aH r0 d0 0)))) u4 (by decide) m3
  go_enter Try.func80, Try.ntmps80
  go_wp2
  refine wp_loop_rounds 5 ?_
  rw [rounds_succ]
  go_wp2
  rw [rounds_succ]
  go_wp2
  rw [rounds_succ]
  go_wp2
  rw [rounds_succ]
  go_wp2
  rw [rounds_succ]
  go_wp2
  go_ret
  refine ⟨(aH r4 0 (aH r3 d3 (aH r2 d2 (aH r1 d1 (aH r0 d0 0))))), (aL r0 d0 0), (aL r1 d1 (aH r0 d0 0)), (aL r2 d2 (aH r1 d1 (aH r0 d0 0))), (aL r3 d3 (aH r2 d2 (aH r1 d1 (aH r0 d0 0)))), (aL r4 0 (aH r3 d3 (aH r2 d2 (aH r1 d1 (aH r0 d0 0))))), rfl, k4, m4, ⟨aL0 _ _ _, aL1 _ _ _, aL0 _ _ _, aL1 _ _ _, aL0 _ _ _, aL1 _ _ _, aL0 _ _ _, aL1 _ _ _, aL0 _ _ _, aL1 _ _ _⟩, back_plain4 r0 r1 r2 r3 r4 d0 d1 d2 d3, ⟨?_, ?_, ?_, ?_, ?_⟩, ?_⟩
  · simp [go_sem, c0]
  · simp [go_sem, c1]
  · simp [go_sem, c2]
  · simp [go_sem, c3]
  · simp [go_sem, c4]
  · exact (((((Only.refl _ _ _ _).setCell _ _ (by omega) (by omega)).setCell _ _ (by omega) (by omega)).setCell _ _ (by omega) (by omega)).setCell _ _ (by omega) (by omega)).setCell _ _ (by omega) (by omega)

end Go.Proofs.Ytbephahokhnccaa
