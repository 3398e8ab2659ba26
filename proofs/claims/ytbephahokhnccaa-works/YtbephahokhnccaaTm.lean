/-
  number.takeMost at this program, for a divisor of 1 to 4 parts: the quotient, and the rest that it leaves.
-/
import Derived.Test.YtbephahokhnccaaTo
import Derived.Test.YtbephahokhnccaaGuess
import Derived.Deep.QuietTactic
import Derived.BigQuiet
namespace Go.Proofs.Ytbephahokhnccaa
open Go.RowKit Go.Shelf

theorem Only.from_drewN {w w1 : World} {b lo hi n : Nat} (h : Only (w.drewN n) w1 b lo hi) : Only w w1 b lo hi := ⟨h.os, h.tape, h.output, h.size, h.block, h.cell, h.frozen⟩

theorem most_le {R D t q S : Int} (hD : 0 < D) (hl : R < q * D + D) (hS : S = R - D * t) (h0 : 0 ≤ S) : t ≤ q := by
  rcases Int.lt_or_le q t with c | c
  · exfalso
    have := Int.mul_le_mul_of_nonneg_right (show q + 1 ≤ t by omega) (show 0 ≤ D by omega)
    rw [Int.add_mul, Int.one_mul, Int.mul_comm t] at this
    omega
  · exact c
theorem most_lt {R D t q S X : Int} (hD : 0 < D) (hq : q * D ≤ R) (hS : S = R - D * t + X) (h0 : S < X) : q < t := by
  rcases Int.lt_or_le q t with c | c
  · exact c
  · exfalso
    have := Int.mul_le_mul_of_nonneg_right c (show 0 ≤ D by omega)
    rw [Int.mul_comm t] at this
    omega
theorem most_ex {R D : Int} (hD : 0 < D) (hR : 0 ≤ R) (h : R < D * 18446744073709551616) : ∃ q : Int, q * D ≤ R ∧ R < q * D + D ∧ 0 ≤ q ∧ q < 18446744073709551616 := by
  have e1 := Int.ediv_mul_add_emod R D
  have r0 := Int.emod_nonneg R (show D ≠ 0 by omega)
  have r1 := Int.emod_lt_of_pos R hD
  refine ⟨R / D, by omega, by omega, Int.ediv_nonneg hR (by omega), ?_⟩
  apply Int.ediv_lt_of_lt_mul hD
  rw [Int.mul_comm]; exact h

theorem top1 (r0 r1 d0 q : Int) (q0 : 0 ≤ q) (dp0 : 0 ≤ d0)  (h : q * (d0) ≤ r0 + r1 * 18446744073709551616) : q * d0 ≤ r1 * 18446744073709551616 + r0 := by
  have n0 := Int.mul_nonneg q0 dp0
  generalize q * d0 = m0 at *
  omega

set_option maxHeartbeats 1000000 in
theorem takeMost1 (br bd o cr cd : Nat) (r0 r1 d0 : Int) (w : World) (hne : bd ≠ br)
    (c0 : w.cell? ⟨br, o, none⟩ = some (.int .u64 r0)) (c1 : w.cell? ⟨br, o + 1, none⟩ = some (.int .u64 r1)) (f0 : w.frozen? ⟨br, o, none⟩ = false) (f1 : w.frozen? ⟨br, o + 1, none⟩ = false) (g0 : w.cell? ⟨bd, 0, none⟩ = some (.int .u64 d0))
    (p0 : 0 ≤ r0) (u0 : r0 < 18446744073709551616) (p1 : 0 ≤ r1) (u1 : r1 < 18446744073709551616) (dp0 : 0 ≤ d0) (du0 : d0 < 18446744073709551616) (dn : 9223372036854775808 ≤ d0) (HR : Hid (r0 + r1 * 18446744073709551616 < (d0) * 18446744073709551616)) :
    Calls Try.prog 73 #[.slice (some ⟨br, o, none⟩) 2 cr, .slice (some ⟨bd, 0, none⟩) 1 cd] w fun e w' => ∃ q s0 s1 : Int, e = .returned (.int .u64 q) ∧ 0 ≤ q ∧ q < 18446744073709551616 ∧ (0 ≤ s0 ∧ s0 < 18446744073709551616 ∧ 0 ≤ s1 ∧ s1 < 18446744073709551616) ∧ Hid (r0 + r1 * 18446744073709551616 = q * (d0) + (s0 + s1 * 18446744073709551616)) ∧ Hid (s0 + s1 * 18446744073709551616 < d0) ∧
      (w'.cell? ⟨br, o, none⟩ = some (.int .u64 s0) ∧ w'.cell? ⟨br, o + 1, none⟩ = some (.int .u64 s1)) ∧ Only w w' br o (o + 2) := by
  have hD : 0 < d0 := by omega
  obtain ⟨q, q1, q2, q3, q4⟩ := most_ex (R := r0 + r1 * 18446744073709551616) (D := d0) hD (by omega) HR.out
  have ht := top1 r0 r1 d0 q q3 dp0  q1
  have Q1 : Hid (q * (d0) ≤ r0 + r1 * 18446744073709551616) := q1
  have Q2 : Hid (r0 + r1 * 18446744073709551616 < q * (d0) + (d0)) := q2
  have HT : Hid (q * d0 ≤ r1 * 18446744073709551616 + r0) := ht
  have HD : Hid (0 < d0) := hD
  clear q1 q2 ht hD HR
  go_enter Try.func73, Try.ntmps73
  go_wp2
  go_quiet ((go_at_call 78; exact Calls.quiet_of (guess r1 r0 d0 _ p1 p0 u0 dn du0)))
  obtain ⟨gg0, gg1, gn⟩ := gOf_ok (high := r1) (low := r0) (d := d0) p1 p0 u0 (by omega)
  have hqg : q ≤ gOf r1 r0 d0 := gn q q4 HT.out
  generalize gOf r1 r0 d0 = g at *
  clear gn HT
  go_wp2_with fail
  refine (takeOff1 br bd o cr cd r0 r1 d0 g (w.drewN nq) hne c0 c1 f0 f1 g0 p0 u0 p1 u1 dp0 du0 gg0 gg1).mono ?_
  rintro e w1 ⟨b, s0, s1, rfl, b0, b1, ⟨sp0, su0, sp1, su1⟩, HS, ⟨sc0, sc1⟩, ho⟩
  replace ho := ho.from_drewN
  go_wp2
  go_loopw [6, 7] (fun x y wr => ∃ (t m s0 s1 : Int), x = .int .u64 t ∧ y = .int .u64 m ∧ 0 ≤ t ∧ t < 18446744073709551616 ∧ q ≤ t ∧ 0 ≤ m ∧ m ≤ 1 ∧ (0 ≤ s0 ∧ s0 < 18446744073709551616 ∧ 0 ≤ s1 ∧ s1 < 18446744073709551616) ∧ Hid (s0 + s1 * 18446744073709551616 = r0 + r1 * 18446744073709551616 - (d0) * t + m * 340282366920938463463374607431768211456) ∧ (wr.cell? ⟨br, o, none⟩ = some (.int .u64 s0) ∧ wr.cell? ⟨br, o + 1, none⟩ = some (.int .u64 s1)) ∧ Only w wr br o (o + 2)) (fun x _ _ => (intOf x).toNat)
  case atStart => exact ⟨g, b, s0, s1, rfl, rfl, gg0, gg1, hqg, b0, b1, ⟨sp0, su0, sp1, su1⟩, HS, ⟨sc0, sc1⟩, ho⟩
  case round =>
    clear b0 b1 sp0 su0 sc0 sp1 su1 sc1 HS ho
    obtain ⟨t, m, s0, s1, rfl, rfl, t0, t1, tq, m0, m1, ⟨sp0, su0, sp1, su1⟩, HS, ⟨sc0, sc1⟩, ho⟩ := hrel
    have hm : m = 0 ∨ m = 1 := by omega
    rcases hm with rfl | rfl
    · obtain rfl : t = q := by
        have := most_le (t := t) HD.out Q2.out (S := s0 + s1 * 18446744073709551616) (by have := HS.out; omega) (by omega)
        omega
      go_wp2
      go_ret
      refine ⟨t, s0, s1, rfl, t0, t1, ⟨sp0, su0, sp1, su1⟩, ?_, ?_, ⟨sc0, sc1⟩, ho⟩
      · have h := HS.out
        show _ = _
        rw [Int.mul_comm t]
        generalize (d0) * t = X at *
        omega
      · have h := HS.out
        have h2 := Q2.out
        show _ < _
        rw [Int.mul_comm t] at h2
        generalize (d0) * t = X at *
        omega
    · have hlt : q < t := most_lt (t := t) HD.out Q1.out (S := s0 + s1 * 18446744073709551616) (X := 340282366920938463463374607431768211456) (by have := HS.out; omega) (by omega)
      have t2 : 1 ≤ t := by omega
      have hfr : ∀ x, wr.frozen? ⟨br, x, none⟩ = w.frozen? ⟨br, x, none⟩ := ho.frozen
      go_wp2_with fail
      refine (putBack1 br bd o cr cd s0 s1 d0 wr hne sc0 sc1 ((hfr _).trans f0) ((hfr _).trans f1) ((ho.other hne _).trans g0) sp0 su0 sp1 su1 dp0 du0).mono ?_
      rintro e w2 ⟨b, x0, x1, rfl, b0, b1, hx, HX, hc, ho2⟩
      have HN : Hid (x0 + x1 * 18446744073709551616 = r0 + r1 * 18446744073709551616 - (d0) * (t - 1) + (1 - b) * 340282366920938463463374607431768211456) := by
        have a := HS.out
        have c := HX.out
        show _ = _
        rw [Int.mul_sub, Int.mul_one]
        generalize (d0) * t = X at *
        omega
      clear hfr
      go_wp2
      go_roundw
      case rel => exact ⟨t - 1, 1 - b, x0, x1, rfl, rfl, by omega, by omega, by omega, by omega, by omega, hx, HN, hc, ho.trans ho2⟩
      case measure => simp [intOf]; omega

theorem top2 (r0 r1 r2 d0 d1 q : Int) (q0 : 0 ≤ q) (dp0 : 0 ≤ d0) (dp1 : 0 ≤ d1) (p0 : 0 ≤ r0) (u0 : r0 < 18446744073709551616) (h : q * (d0 + d1 * 18446744073709551616) ≤ r0 + r1 * 18446744073709551616 + r2 * 340282366920938463463374607431768211456) : q * d1 ≤ r2 * 18446744073709551616 + r1 := by
  rw [Int.mul_add, ← Int.mul_assoc] at h
  have n0 := Int.mul_nonneg q0 dp0
  have n1 := Int.mul_nonneg q0 dp1
  generalize q * d0 = m0 at *
  generalize q * d1 = m1 at *
  omega

set_option maxHeartbeats 1000000 in
theorem takeMost2 (br bd o cr cd : Nat) (r0 r1 r2 d0 d1 : Int) (w : World) (hne : bd ≠ br)
    (c0 : w.cell? ⟨br, o, none⟩ = some (.int .u64 r0)) (c1 : w.cell? ⟨br, o + 1, none⟩ = some (.int .u64 r1)) (c2 : w.cell? ⟨br, o + 2, none⟩ = some (.int .u64 r2)) (f0 : w.frozen? ⟨br, o, none⟩ = false) (f1 : w.frozen? ⟨br, o + 1, none⟩ = false) (f2 : w.frozen? ⟨br, o + 2, none⟩ = false) (g0 : w.cell? ⟨bd, 0, none⟩ = some (.int .u64 d0)) (g1 : w.cell? ⟨bd, 1, none⟩ = some (.int .u64 d1))
    (p0 : 0 ≤ r0) (u0 : r0 < 18446744073709551616) (p1 : 0 ≤ r1) (u1 : r1 < 18446744073709551616) (p2 : 0 ≤ r2) (u2 : r2 < 18446744073709551616) (dp0 : 0 ≤ d0) (du0 : d0 < 18446744073709551616) (dp1 : 0 ≤ d1) (du1 : d1 < 18446744073709551616) (dn : 9223372036854775808 ≤ d1) (HR : Hid (r0 + r1 * 18446744073709551616 + r2 * 340282366920938463463374607431768211456 < (d0 + d1 * 18446744073709551616) * 18446744073709551616)) :
    Calls Try.prog 73 #[.slice (some ⟨br, o, none⟩) 3 cr, .slice (some ⟨bd, 0, none⟩) 2 cd] w fun e w' => ∃ q s0 s1 s2 : Int, e = .returned (.int .u64 q) ∧ 0 ≤ q ∧ q < 18446744073709551616 ∧ (0 ≤ s0 ∧ s0 < 18446744073709551616 ∧ 0 ≤ s1 ∧ s1 < 18446744073709551616 ∧ 0 ≤ s2 ∧ s2 < 18446744073709551616) ∧ Hid (r0 + r1 * 18446744073709551616 + r2 * 340282366920938463463374607431768211456 = q * (d0 + d1 * 18446744073709551616) + (s0 + s1 * 18446744073709551616 + s2 * 340282366920938463463374607431768211456)) ∧ Hid (s0 + s1 * 18446744073709551616 + s2 * 340282366920938463463374607431768211456 < d0 + d1 * 18446744073709551616) ∧
      (w'.cell? ⟨br, o, none⟩ = some (.int .u64 s0) ∧ w'.cell? ⟨br, o + 1, none⟩ = some (.int .u64 s1) ∧ w'.cell? ⟨br, o + 2, none⟩ = some (.int .u64 s2)) ∧ Only w w' br o (o + 3) := by
  have hD : 0 < d0 + d1 * 18446744073709551616 := by omega
  obtain ⟨q, q1, q2, q3, q4⟩ := most_ex (R := r0 + r1 * 18446744073709551616 + r2 * 340282366920938463463374607431768211456) (D := d0 + d1 * 18446744073709551616) hD (by omega) HR.out
  have ht := top2 r0 r1 r2 d0 d1 q q3 dp0 dp1 p0 u0 q1
  have Q1 : Hid (q * (d0 + d1 * 18446744073709551616) ≤ r0 + r1 * 18446744073709551616 + r2 * 340282366920938463463374607431768211456) := q1
  have Q2 : Hid (r0 + r1 * 18446744073709551616 + r2 * 340282366920938463463374607431768211456 < q * (d0 + d1 * 18446744073709551616) + (d0 + d1 * 18446744073709551616)) := q2
  have HT : Hid (q * d1 ≤ r2 * 18446744073709551616 + r1) := ht
  have HD : Hid (0 < d0 + d1 * 18446744073709551616) := hD
  clear q1 q2 ht hD HR
  go_enter Try.func73, Try.ntmps73
  go_wp2
  go_quiet ((go_at_call 78; exact Calls.quiet_of (guess r2 r1 d1 _ p2 p1 u1 dn du1)))
  obtain ⟨gg0, gg1, gn⟩ := gOf_ok (high := r2) (low := r1) (d := d1) p2 p1 u1 (by omega)
  have hqg : q ≤ gOf r2 r1 d1 := gn q q4 HT.out
  generalize gOf r2 r1 d1 = g at *
  clear gn HT
  go_wp2_with fail
  refine (takeOff2 br bd o cr cd r0 r1 r2 d0 d1 g (w.drewN nq) hne c0 c1 c2 f0 f1 f2 g0 g1 p0 u0 p1 u1 p2 u2 dp0 du0 dp1 du1 gg0 gg1).mono ?_
  rintro e w1 ⟨b, s0, s1, s2, rfl, b0, b1, ⟨sp0, su0, sp1, su1, sp2, su2⟩, HS, ⟨sc0, sc1, sc2⟩, ho⟩
  replace ho := ho.from_drewN
  go_wp2
  go_loopw [6, 7] (fun x y wr => ∃ (t m s0 s1 s2 : Int), x = .int .u64 t ∧ y = .int .u64 m ∧ 0 ≤ t ∧ t < 18446744073709551616 ∧ q ≤ t ∧ 0 ≤ m ∧ m ≤ 1 ∧ (0 ≤ s0 ∧ s0 < 18446744073709551616 ∧ 0 ≤ s1 ∧ s1 < 18446744073709551616 ∧ 0 ≤ s2 ∧ s2 < 18446744073709551616) ∧ Hid (s0 + s1 * 18446744073709551616 + s2 * 340282366920938463463374607431768211456 = r0 + r1 * 18446744073709551616 + r2 * 340282366920938463463374607431768211456 - (d0 + d1 * 18446744073709551616) * t + m * 6277101735386680763835789423207666416102355444464034512896) ∧ (wr.cell? ⟨br, o, none⟩ = some (.int .u64 s0) ∧ wr.cell? ⟨br, o + 1, none⟩ = some (.int .u64 s1) ∧ wr.cell? ⟨br, o + 2, none⟩ = some (.int .u64 s2)) ∧ Only w wr br o (o + 3)) (fun x _ _ => (intOf x).toNat)
  case atStart => exact ⟨g, b, s0, s1, s2, rfl, rfl, gg0, gg1, hqg, b0, b1, ⟨sp0, su0, sp1, su1, sp2, su2⟩, HS, ⟨sc0, sc1, sc2⟩, ho⟩
  case round =>
    clear b0 b1 sp0 su0 sc0 sp1 su1 sc1 sp2 su2 sc2 HS ho
    obtain ⟨t, m, s0, s1, s2, rfl, rfl, t0, t1, tq, m0, m1, ⟨sp0, su0, sp1, su1, sp2, su2⟩, HS, ⟨sc0, sc1, sc2⟩, ho⟩ := hrel
    have hm : m = 0 ∨ m = 1 := by omega
    rcases hm with rfl | rfl
    · obtain rfl : t = q := by
        have := most_le (t := t) HD.out Q2.out (S := s0 + s1 * 18446744073709551616 + s2 * 340282366920938463463374607431768211456) (by have := HS.out; omega) (by omega)
        omega
      go_wp2
      go_ret
      refine ⟨t, s0, s1, s2, rfl, t0, t1, ⟨sp0, su0, sp1, su1, sp2, su2⟩, ?_, ?_, ⟨sc0, sc1, sc2⟩, ho⟩
      · have h := HS.out
        show _ = _
        rw [Int.mul_comm t]
        generalize (d0 + d1 * 18446744073709551616) * t = X at *
        omega
      · have h := HS.out
        have h2 := Q2.out
        show _ < _
        rw [Int.mul_comm t] at h2
        generalize (d0 + d1 * 18446744073709551616) * t = X at *
        omega
    · have hlt : q < t := most_lt (t := t) HD.out Q1.out (S := s0 + s1 * 18446744073709551616 + s2 * 340282366920938463463374607431768211456) (X := 6277101735386680763835789423207666416102355444464034512896) (by have := HS.out; omega) (by omega)
      have t2 : 1 ≤ t := by omega
      have hfr : ∀ x, wr.frozen? ⟨br, x, none⟩ = w.frozen? ⟨br, x, none⟩ := ho.frozen
      go_wp2_with fail
      refine (putBack2 br bd o cr cd s0 s1 s2 d0 d1 wr hne sc0 sc1 sc2 ((hfr _).trans f0) ((hfr _).trans f1) ((hfr _).trans f2) ((ho.other hne _).trans g0) ((ho.other hne _).trans g1) sp0 su0 sp1 su1 sp2 su2 dp0 du0 dp1 du1).mono ?_
      rintro e w2 ⟨b, x0, x1, x2, rfl, b0, b1, hx, HX, hc, ho2⟩
      have HN : Hid (x0 + x1 * 18446744073709551616 + x2 * 340282366920938463463374607431768211456 = r0 + r1 * 18446744073709551616 + r2 * 340282366920938463463374607431768211456 - (d0 + d1 * 18446744073709551616) * (t - 1) + (1 - b) * 6277101735386680763835789423207666416102355444464034512896) := by
        have a := HS.out
        have c := HX.out
        show _ = _
        rw [Int.mul_sub, Int.mul_one]
        generalize (d0 + d1 * 18446744073709551616) * t = X at *
        omega
      clear hfr
      go_wp2
      go_roundw
      case rel => exact ⟨t - 1, 1 - b, x0, x1, x2, rfl, rfl, by omega, by omega, by omega, by omega, by omega, hx, HN, hc, ho.trans ho2⟩
      case measure => simp [intOf]; omega

theorem top3 (r0 r1 r2 r3 d0 d1 d2 q : Int) (q0 : 0 ≤ q) (dp0 : 0 ≤ d0) (dp1 : 0 ≤ d1) (dp2 : 0 ≤ d2) (p0 : 0 ≤ r0) (u0 : r0 < 18446744073709551616) (p1 : 0 ≤ r1) (u1 : r1 < 18446744073709551616) (h : q * (d0 + d1 * 18446744073709551616 + d2 * 340282366920938463463374607431768211456) ≤ r0 + r1 * 18446744073709551616 + r2 * 340282366920938463463374607431768211456 + r3 * 6277101735386680763835789423207666416102355444464034512896) : q * d2 ≤ r3 * 18446744073709551616 + r2 := by
  rw [Int.mul_add, Int.mul_add, ← Int.mul_assoc, ← Int.mul_assoc] at h
  have n0 := Int.mul_nonneg q0 dp0
  have n1 := Int.mul_nonneg q0 dp1
  have n2 := Int.mul_nonneg q0 dp2
  generalize q * d0 = m0 at *
  generalize q * d1 = m1 at *
  generalize q * d2 = m2 at *
  omega

set_option maxHeartbeats 1000000 in
theorem takeMost3 (br bd o cr cd : Nat) (r0 r1 r2 r3 d0 d1 d2 : Int) (w : World) (hne : bd ≠ br)
    (c0 : w.cell? ⟨br, o, none⟩ = some (.int .u64 r0)) (c1 : w.cell? ⟨br, o + 1, none⟩ = some (.int .u64 r1)) (c2 : w.cell? ⟨br, o + 2, none⟩ = some (.int .u64 r2)) (c3 : w.cell? ⟨br, o + 3, none⟩ = some (.int .u64 r3)) (f0 : w.frozen? ⟨br, o, none⟩ = false) (f1 : w.frozen? ⟨br, o + 1, none⟩ = false) (f2 : w.frozen? ⟨br, o + 2, none⟩ = false) (f3 : w.frozen? ⟨br, o + 3, none⟩ = false) (g0 : w.cell? ⟨bd, 0, none⟩ = some (.int .u64 d0)) (g1 : w.cell? ⟨bd, 1, none⟩ = some (.int .u64 d1)) (g2 : w.cell? ⟨bd, 2, none⟩ = some (.int .u64 d2))
    (p0 : 0 ≤ r0) (u0 : r0 < 18446744073709551616) (p1 : 0 ≤ r1) (u1 : r1 < 18446744073709551616) (p2 : 0 ≤ r2) (u2 : r2 < 18446744073709551616) (p3 : 0 ≤ r3) (u3 : r3 < 18446744073709551616) (dp0 : 0 ≤ d0) (du0 : d0 < 18446744073709551616) (dp1 : 0 ≤ d1) (du1 : d1 < 18446744073709551616) (dp2 : 0 ≤ d2) (du2 : d2 < 18446744073709551616) (dn : 9223372036854775808 ≤ d2) (HR : Hid (r0 + r1 * 18446744073709551616 + r2 * 340282366920938463463374607431768211456 + r3 * 6277101735386680763835789423207666416102355444464034512896 < (d0 + d1 * 18446744073709551616 + d2 * 340282366920938463463374607431768211456) * 18446744073709551616)) :
    Calls Try.prog 73 #[.slice (some ⟨br, o, none⟩) 4 cr, .slice (some ⟨bd, 0, none⟩) 3 cd] w fun e w' => ∃ q s0 s1 s2 s3 : Int, e = .returned (.int .u64 q) ∧ 0 ≤ q ∧ q < 18446744073709551616 ∧ (0 ≤ s0 ∧ s0 < 18446744073709551616 ∧ 0 ≤ s1 ∧ s1 < 18446744073709551616 ∧ 0 ≤ s2 ∧ s2 < 18446744073709551616 ∧ 0 ≤ s3 ∧ s3 < 18446744073709551616) ∧ Hid (r0 + r1 * 18446744073709551616 + r2 * 340282366920938463463374607431768211456 + r3 * 6277101735386680763835789423207666416102355444464034512896 = q * (d0 + d1 * 18446744073709551616 + d2 * 340282366920938463463374607431768211456) + (s0 + s1 * 18446744073709551616 + s2 * 340282366920938463463374607431768211456 + s3 * 6277101735386680763835789423207666416102355444464034512896)) ∧ Hid (s0 + s1 * 18446744073709551616 + s2 * 340282366920938463463374607431768211456 + s3 * 6277101735386680763835789423207666416102355444464034512896 < d0 + d1 * 18446744073709551616 + d2 * 340282366920938463463374607431768211456) ∧
      (w'.cell? ⟨br, o, none⟩ = some (.int .u64 s0) ∧ w'.cell? ⟨br, o + 1, none⟩ = some (.int .u64 s1) ∧ w'.cell? ⟨br, o + 2, none⟩ = some (.int .u64 s2) ∧ w'.cell? ⟨br, o + 3, none⟩ = some (.int .u64 s3)) ∧ Only w w' br o (o + 4) := by
  have hD : 0 < d0 + d1 * 18446744073709551616 + d2 * 340282366920938463463374607431768211456 := by omega
  obtain ⟨q, q1, q2, q3, q4⟩ := most_ex (R := r0 + r1 * 18446744073709551616 + r2 * 340282366920938463463374607431768211456 + r3 * 6277101735386680763835789423207666416102355444464034512896) (D := d0 + d1 * 18446744073709551616 + d2 * 340282366920938463463374607431768211456) hD (by omega) HR.out
  have ht := top3 r0 r1 r2 r3 d0 d1 d2 q q3 dp0 dp1 dp2 p0 u0 p1 u1 q1
  have Q1 : Hid (q * (d0 + d1 * 18446744073709551616 + d2 * 340282366920938463463374607431768211456) ≤ r0 + r1 * 18446744073709551616 + r2 * 340282366920938463463374607431768211456 + r3 * 6277101735386680763835789423207666416102355444464034512896) := q1
  have Q2 : Hid (r0 + r1 * 18446744073709551616 + r2 * 340282366920938463463374607431768211456 + r3 * 6277101735386680763835789423207666416102355444464034512896 < q * (d0 + d1 * 18446744073709551616 + d2 * 340282366920938463463374607431768211456) + (d0 + d1 * 18446744073709551616 + d2 * 340282366920938463463374607431768211456)) := q2
  have HT : Hid (q * d2 ≤ r3 * 18446744073709551616 + r2) := ht
  have HD : Hid (0 < d0 + d1 * 18446744073709551616 + d2 * 340282366920938463463374607431768211456) := hD
  clear q1 q2 ht hD HR
  go_enter Try.func73, Try.ntmps73
  go_wp2
  go_quiet ((go_at_call 78; exact Calls.quiet_of (guess r3 r2 d2 _ p3 p2 u2 dn du2)))
  obtain ⟨gg0, gg1, gn⟩ := gOf_ok (high := r3) (low := r2) (d := d2) p3 p2 u2 (by omega)
  have hqg : q ≤ gOf r3 r2 d2 := gn q q4 HT.out
  generalize gOf r3 r2 d2 = g at *
  clear gn HT
  go_wp2_with fail
  refine (takeOff3 br bd o cr cd r0 r1 r2 r3 d0 d1 d2 g (w.drewN nq) hne c0 c1 c2 c3 f0 f1 f2 f3 g0 g1 g2 p0 u0 p1 u1 p2 u2 p3 u3 dp0 du0 dp1 du1 dp2 du2 gg0 gg1).mono ?_
  rintro e w1 ⟨b, s0, s1, s2, s3, rfl, b0, b1, ⟨sp0, su0, sp1, su1, sp2, su2, sp3, su3⟩, HS, ⟨sc0, sc1, sc2, sc3⟩, ho⟩
  replace ho := ho.from_drewN
  go_wp2
  go_loopw [6, 7] (fun x y wr => ∃ (t m s0 s1 s2 s3 : Int), x = .int .u64 t ∧ y = .int .u64 m ∧ 0 ≤ t ∧ t < 18446744073709551616 ∧ q ≤ t ∧ 0 ≤ m ∧ m ≤ 1 ∧ (0 ≤ s0 ∧ s0 < 18446744073709551616 ∧ 0 ≤ s1 ∧ s1 < 18446744073709551616 ∧ 0 ≤ s2 ∧ s2 < 18446744073709551616 ∧ 0 ≤ s3 ∧ s3 < 18446744073709551616) ∧ Hid (s0 + s1 * 18446744073709551616 + s2 * 340282366920938463463374607431768211456 + s3 * 6277101735386680763835789423207666416102355444464034512896 = r0 + r1 * 18446744073709551616 + r2 * 340282366920938463463374607431768211456 + r3 * 6277101735386680763835789423207666416102355444464034512896 - (d0 + d1 * 18446744073709551616 + d2 * 340282366920938463463374607431768211456) * t + m * 115792089237316195423570985008687907853269984665640564039457584007913129639936) ∧ (wr.cell? ⟨br, o, none⟩ = some (.int .u64 s0) ∧ wr.cell? ⟨br, o + 1, none⟩ = some (.int .u64 s1) ∧ wr.cell? ⟨br, o + 2, none⟩ = some (.int .u64 s2) ∧ wr.cell? ⟨br, o + 3, none⟩ = some (.int .u64 s3)) ∧ Only w wr br o (o + 4)) (fun x _ _ => (intOf x).toNat)
  case atStart => exact ⟨g, b, s0, s1, s2, s3, rfl, rfl, gg0, gg1, hqg, b0, b1, ⟨sp0, su0, sp1, su1, sp2, su2, sp3, su3⟩, HS, ⟨sc0, sc1, sc2, sc3⟩, ho⟩
  case round =>
    clear b0 b1 sp0 su0 sc0 sp1 su1 sc1 sp2 su2 sc2 sp3 su3 sc3 HS ho
    obtain ⟨t, m, s0, s1, s2, s3, rfl, rfl, t0, t1, tq, m0, m1, ⟨sp0, su0, sp1, su1, sp2, su2, sp3, su3⟩, HS, ⟨sc0, sc1, sc2, sc3⟩, ho⟩ := hrel
    have hm : m = 0 ∨ m = 1 := by omega
    rcases hm with rfl | rfl
    · obtain rfl : t = q := by
        have := most_le (t := t) HD.out Q2.out (S := s0 + s1 * 18446744073709551616 + s2 * 340282366920938463463374607431768211456 + s3 * 6277101735386680763835789423207666416102355444464034512896) (by have := HS.out; omega) (by omega)
        omega
      go_wp2
      go_ret
      refine ⟨t, s0, s1, s2, s3, rfl, t0, t1, ⟨sp0, su0, sp1, su1, sp2, su2, sp3, su3⟩, ?_, ?_, ⟨sc0, sc1, sc2, sc3⟩, ho⟩
      · have h := HS.out
        show _ = _
        rw [Int.mul_comm t]
        generalize (d0 + d1 * 18446744073709551616 + d2 * 340282366920938463463374607431768211456) * t = X at *
        omega
      · have h := HS.out
        have h2 := Q2.out
        show _ < _
        rw [Int.mul_comm t] at h2
        generalize (d0 + d1 * 18446744073709551616 + d2 * 340282366920938463463374607431768211456) * t = X at *
        omega
    · have hlt : q < t := most_lt (t := t) HD.out Q1.out (S := s0 + s1 * 18446744073709551616 + s2 * 340282366920938463463374607431768211456 + s3 * 6277101735386680763835789423207666416102355444464034512896) (X := 115792089237316195423570985008687907853269984665640564039457584007913129639936) (by have := HS.out; omega) (by omega)
      have t2 : 1 ≤ t := by omega
      have hfr : ∀ x, wr.frozen? ⟨br, x, none⟩ = w.frozen? ⟨br, x, none⟩ := ho.frozen
      go_wp2_with fail
      refine (putBack3 br bd o cr cd s0 s1 s2 s3 d0 d1 d2 wr hne sc0 sc1 sc2 sc3 ((hfr _).trans f0) ((hfr _).trans f1) ((hfr _).trans f2) ((hfr _).trans f3) ((ho.other hne _).trans g0) ((ho.other hne _).trans g1) ((ho.other hne _).trans g2) sp0 su0 sp1 su1 sp2 su2 sp3 su3 dp0 du0 dp1 du1 dp2 du2).mono ?_
      rintro e w2 ⟨b, x0, x1, x2, x3, rfl, b0, b1, hx, HX, hc, ho2⟩
      have HN : Hid (x0 + x1 * 18446744073709551616 + x2 * 340282366920938463463374607431768211456 + x3 * 6277101735386680763835789423207666416102355444464034512896 = r0 + r1 * 18446744073709551616 + r2 * 340282366920938463463374607431768211456 + r3 * 6277101735386680763835789423207666416102355444464034512896 - (d0 + d1 * 18446744073709551616 + d2 * 340282366920938463463374607431768211456) * (t - 1) + (1 - b) * 115792089237316195423570985008687907853269984665640564039457584007913129639936) := by
        have a := HS.out
        have c := HX.out
        show _ = _
        rw [Int.mul_sub, Int.mul_one]
        generalize (d0 + d1 * 18446744073709551616 + d2 * 340282366920938463463374607431768211456) * t = X at *
        omega
      clear hfr
      go_wp2
      go_roundw
      case rel => exact ⟨t - 1, 1 - b, x0, x1, x2, x3, rfl, rfl, by omega, by omega, by omega, by omega, by omega, hx, HN, hc, ho.trans ho2⟩
      case measure => simp [intOf]; omega

theorem top4 (r0 r1 r2 r3 r4 d0 d1 d2 d3 q : Int) (q0 : 0 ≤ q) (dp0 : 0 ≤ d0) (dp1 : 0 ≤ d1) (dp2 : 0 ≤ d2) (dp3 : 0 ≤ d3) (p0 : 0 ≤ r0) (u0 : r0 < 18446744073709551616) (p1 : 0 ≤ r1) (u1 : r1 < 18446744073709551616) (p2 : 0 ≤ r2) (u2 : r2 < 18446744073709551616) (h : q * (d0 + d1 * 18446744073709551616 + d2 * 340282366920938463463374607431768211456 + d3 * 6277101735386680763835789423207666416102355444464034512896) ≤ r0 + r1 * 18446744073709551616 + r2 * 340282366920938463463374607431768211456 + r3 * 6277101735386680763835789423207666416102355444464034512896 + r4 * 115792089237316195423570985008687907853269984665640564039457584007913129639936) : q * d3 ≤ r4 * 18446744073709551616 + r3 := by
  rw [Int.mul_add, Int.mul_add, Int.mul_add, ← Int.mul_assoc, ← Int.mul_assoc, ← Int.mul_assoc] at h
  have n0 := Int.mul_nonneg q0 dp0
  have n1 := Int.mul_nonneg q0 dp1
  have n2 := Int.mul_nonneg q0 dp2
  have n3 := Int.mul_nonneg q0 dp3
  generalize q * d0 = m0 at *
  generalize q * d1 = m1 at *
  generalize q * d2 = m2 at *
  generalize q * d3 = m3 at *
  omega

set_option maxHeartbeats 1000000 in
theorem takeMost4 (br bd o cr cd : Nat) (r0 r1 r2 r3 r4 d0 d1 d2 d3 : Int) (w : World) (hne : bd ≠ br)
    (c0 : w.cell? ⟨br, o, none⟩ = some (.int .u64 r0)) (c1 : w.cell? ⟨br, o + 1, none⟩ = some (.int .u64 r1)) (c2 : w.cell? ⟨br, o + 2, none⟩ = some (.int .u64 r2)) (c3 : w.cell? ⟨br, o + 3, none⟩ = some (.int .u64 r3)) (c4 : w.cell? ⟨br, o + 4, none⟩ = some (.int .u64 r4)) (f0 : w.frozen? ⟨br, o, none⟩ = false) (f1 : w.frozen? ⟨br, o + 1, none⟩ = false) (f2 : w.frozen? ⟨br, o + 2, none⟩ = false) (f3 : w.frozen? ⟨br, o + 3, none⟩ = false) (f4 : w.frozen? ⟨br, o + 4, none⟩ = false) (g0 : w.cell? ⟨bd, 0, none⟩ = some (.int .u64 d0)) (g1 : w.cell? ⟨bd, 1, none⟩ = some (.int .u64 d1)) (g2 : w.cell? ⟨bd, 2, none⟩ = some (.int .u64 d2)) (g3 : w.cell? ⟨bd, 3, none⟩ = some (.int .u64 d3))
    (p0 : 0 ≤ r0) (u0 : r0 < 18446744073709551616) (p1 : 0 ≤ r1) (u1 : r1 < 18446744073709551616) (p2 : 0 ≤ r2) (u2 : r2 < 18446744073709551616) (p3 : 0 ≤ r3) (u3 : r3 < 18446744073709551616) (p4 : 0 ≤ r4) (u4 : r4 < 18446744073709551616) (dp0 : 0 ≤ d0) (du0 : d0 < 18446744073709551616) (dp1 : 0 ≤ d1) (du1 : d1 < 18446744073709551616) (dp2 : 0 ≤ d2) (du2 : d2 < 18446744073709551616) (dp3 : 0 ≤ d3) (du3 : d3 < 18446744073709551616) (dn : 9223372036854775808 ≤ d3) (HR : Hid (r0 + r1 * 18446744073709551616 + r2 * 340282366920938463463374607431768211456 + r3 * 6277101735386680763835789423207666416102355444464034512896 + r4 * 115792089237316195423570985008687907853269984665640564039457584007913129639936 < (d0 + d1 * 18446744073709551616 + d2 * 340282366920938463463374607431768211456 + d3 * 6277101735386680763835789423207666416102355444464034512896) * 18446744073709551616)) :
    Calls Try.prog 73 #[.slice (some ⟨br, o, none⟩) 5 cr, .slice (some ⟨bd, 0, none⟩) 4 cd] w fun e w' => ∃ q s0 s1 s2 s3 s4 : Int, e = .returned (.int .u64 q) ∧ 0 ≤ q ∧ q < 18446744073709551616 ∧ (0 ≤ s0 ∧ s0 < 18446744073709551616 ∧ 0 ≤ s1 ∧ s1 < 18446744073709551616 ∧ 0 ≤ s2 ∧ s2 < 18446744073709551616 ∧ 0 ≤ s3 ∧ s3 < 18446744073709551616 ∧ 0 ≤ s4 ∧ s4 < 18446744073709551616) ∧ Hid (r0 + r1 * 18446744073709551616 + r2 * 340282366920938463463374607431768211456 + r3 * 6277101735386680763835789423207666416102355444464034512896 + r4 * 115792089237316195423570985008687907853269984665640564039457584007913129639936 = q * (d0 + d1 * 18446744073709551616 + d2 * 340282366920938463463374607431768211456 + d3 * 6277101735386680763835789423207666416102355444464034512896) + (s0 + s1 * 18446744073709551616 + s2 * 340282366920938463463374607431768211456 + s3 * 6277101735386680763835789423207666416102355444464034512896 + s4 * 115792089237316195423570985008687907853269984665640564039457584007913129639936)) ∧ Hid (s0 + s1 * 18446744073709551616 + s2 * 340282366920938463463374607431768211456 + s3 * 6277101735386680763835789423207666416102355444464034512896 + s4 * 115792089237316195423570985008687907853269984665640564039457584007913129639936 < d0 + d1 * 18446744073709551616 + d2 * 340282366920938463463374607431768211456 + d3 * 6277101735386680763835789423207666416102355444464034512896) ∧
      (w'.cell? ⟨br, o, none⟩ = some (.int .u64 s0) ∧ w'.cell? ⟨br, o + 1, none⟩ = some (.int .u64 s1) ∧ w'.cell? ⟨br, o + 2, none⟩ = some (.int .u64 s2) ∧ w'.cell? ⟨br, o + 3, none⟩ = some (.int .u64 s3) ∧ w'.cell? ⟨br, o + 4, none⟩ = some (.int .u64 s4)) ∧ Only w w' br o (o + 5) := by
  have hD : 0 < d0 + d1 * 18446744073709551616 + d2 * 340282366920938463463374607431768211456 + d3 * 6277101735386680763835789423207666416102355444464034512896 := by omega
  obtain ⟨q, q1, q2, q3, q4⟩ := most_ex (R := r0 + r1 * 18446744073709551616 + r2 * 340282366920938463463374607431768211456 + r3 * 6277101735386680763835789423207666416102355444464034512896 + r4 * 115792089237316195423570985008687907853269984665640564039457584007913129639936) (D := d0 + d1 * 18446744073709551616 + d2 * 340282366920938463463374607431768211456 + d3 * 6277101735386680763835789423207666416102355444464034512896) hD (by omega) HR.out
  have ht := top4 r0 r1 r2 r3 r4 d0 d1 d2 d3 q q3 dp0 dp1 dp2 dp3 p0 u0 p1 u1 p2 u2 q1
  have Q1 : Hid (q * (d0 + d1 * 18446744073709551616 + d2 * 340282366920938463463374607431768211456 + d3 * 6277101735386680763835789423207666416102355444464034512896) ≤ r0 + r1 * 18446744073709551616 + r2 * 340282366920938463463374607431768211456 + r3 * 6277101735386680763835789423207666416102355444464034512896 + r4 * 115792089237316195423570985008687907853269984665640564039457584007913129639936) := q1
  have Q2 : Hid (r0 + r1 * 18446744073709551616 + r2 * 340282366920938463463374607431768211456 + r3 * 6277101735386680763835789423207666416102355444464034512896 + r4 * 115792089237316195423570985008687907853269984665640564039457584007913129639936 < q * (d0 + d1 * 18446744073709551616 + d2 * 340282366920938463463374607431768211456 + d3 * 6277101735386680763835789423207666416102355444464034512896) + (d0 + d1 * 18446744073709551616 + d2 * 340282366920938463463374607431768211456 + d3 * 6277101735386680763835789423207666416102355444464034512896)) := q2
  have HT : Hid (q * d3 ≤ r4 * 18446744073709551616 + r3) := ht
  have HD : Hid (0 < d0 + d1 * 18446744073709551616 + d2 * 340282366920938463463374607431768211456 + d3 * 6277101735386680763835789423207666416102355444464034512896) := hD
  clear q1 q2 ht hD HR
  go_enter Try.func73, Try.ntmps73
  go_wp2
  go_quiet ((go_at_call 78; exact Calls.quiet_of (guess r4 r3 d3 _ p4 p3 u3 dn du3)))
  obtain ⟨gg0, gg1, gn⟩ := gOf_ok (high := r4) (low := r3) (d := d3) p4 p3 u3 (by omega)
  have hqg : q ≤ gOf r4 r3 d3 := gn q q4 HT.out
  generalize gOf r4 r3 d3 = g at *
  clear gn HT
  go_wp2_with fail
  refine (takeOff4 br bd o cr cd r0 r1 r2 r3 r4 d0 d1 d2 d3 g (w.drewN nq) hne c0 c1 c2 c3 c4 f0 f1 f2 f3 f4 g0 g1 g2 g3 p0 u0 p1 u1 p2 u2 p3 u3 p4 u4 dp0 du0 dp1 du1 dp2 du2 dp3 du3 gg0 gg1).mono ?_
  rintro e w1 ⟨b, s0, s1, s2, s3, s4, rfl, b0, b1, ⟨sp0, su0, sp1, su1, sp2, su2, sp3, su3, sp4, su4⟩, HS, ⟨sc0, sc1, sc2, sc3, sc4⟩, ho⟩
  replace ho := ho.from_drewN
  go_wp2
  go_loopw [6, 7] (fun x y wr => ∃ (t m s0 s1 s2 s3 s4 : Int), x = .int .u64 t ∧ y = .int .u64 m ∧ 0 ≤ t ∧ t < 18446744073709551616 ∧ q ≤ t ∧ 0 ≤ m ∧ m ≤ 1 ∧ (0 ≤ s0 ∧ s0 < 18446744073709551616 ∧ 0 ≤ s1 ∧ s1 < 18446744073709551616 ∧ 0 ≤ s2 ∧ s2 < 18446744073709551616 ∧ 0 ≤ s3 ∧ s3 < 18446744073709551616 ∧ 0 ≤ s4 ∧ s4 < 18446744073709551616) ∧ Hid (s0 + s1 * 18446744073709551616 + s2 * 340282366920938463463374607431768211456 + s3 * 6277101735386680763835789423207666416102355444464034512896 + s4 * 115792089237316195423570985008687907853269984665640564039457584007913129639936 = r0 + r1 * 18446744073709551616 + r2 * 340282366920938463463374607431768211456 + r3 * 6277101735386680763835789423207666416102355444464034512896 + r4 * 115792089237316195423570985008687907853269984665640564039457584007913129639936 - (d0 + d1 * 18446744073709551616 + d2 * 340282366920938463463374607431768211456 + d3 * 6277101735386680763835789423207666416102355444464034512896) * t + m * 2135987035920910082395021706169552114602704522356652769947041607822219725780640550022962086936576) ∧ (wr.cell? ⟨br, o, none⟩ = some (.int .u64 s0) ∧ wr.cell? ⟨br, o + 1, none⟩ = some (.int .u64 s1) ∧ wr.cell? ⟨br, o + 2, none⟩ = some (.int .u64 s2) ∧ wr.cell? ⟨br, o + 3, none⟩ = some (.int .u64 s3) ∧ wr.cell? ⟨br, o + 4, none⟩ = some (.int .u64 s4)) ∧ Only w wr br o (o + 5)) (fun x _ _ => (intOf x).toNat)
  case atStart => exact ⟨g, b, s0, s1, s2, s3, s4, rfl, rfl, gg0, gg1, hqg, b0, b1, ⟨sp0, su0, sp1, su1, sp2, su2, sp3, su3, sp4, su4⟩, HS, ⟨sc0, sc1, sc2, sc3, sc4⟩, ho⟩
  case round =>
    clear b0 b1 sp0 su0 sc0 sp1 su1 sc1 sp2 su2 sc2 sp3 su3 sc3 sp4 su4 sc4 HS ho
    obtain ⟨t, m, s0, s1, s2, s3, s4, rfl, rfl, t0, t1, tq, m0, m1, ⟨sp0, su0, sp1, su1, sp2, su2, sp3, su3, sp4, su4⟩, HS, ⟨sc0, sc1, sc2, sc3, sc4⟩, ho⟩ := hrel
    have hm : m = 0 ∨ m = 1 := by omega
    rcases hm with rfl | rfl
    · obtain rfl : t = q := by
        have := most_le (t := t) HD.out Q2.out (S := s0 + s1 * 18446744073709551616 + s2 * 340282366920938463463374607431768211456 + s3 * 6277101735386680763835789423207666416102355444464034512896 + s4 * 115792089237316195423570985008687907853269984665640564039457584007913129639936) (by have := HS.out; omega) (by omega)
        omega
      go_wp2
      go_ret
      refine ⟨t, s0, s1, s2, s3, s4, rfl, t0, t1, ⟨sp0, su0, sp1, su1, sp2, su2, sp3, su3, sp4, su4⟩, ?_, ?_, ⟨sc0, sc1, sc2, sc3, sc4⟩, ho⟩
      · have h := HS.out
        show _ = _
        rw [Int.mul_comm t]
        generalize (d0 + d1 * 18446744073709551616 + d2 * 340282366920938463463374607431768211456 + d3 * 6277101735386680763835789423207666416102355444464034512896) * t = X at *
        omega
      · have h := HS.out
        have h2 := Q2.out
        show _ < _
        rw [Int.mul_comm t] at h2
        generalize (d0 + d1 * 18446744073709551616 + d2 * 340282366920938463463374607431768211456 + d3 * 6277101735386680763835789423207666416102355444464034512896) * t = X at *
        omega
    · have hlt : q < t := most_lt (t := t) HD.out Q1.out (S := s0 + s1 * 18446744073709551616 + s2 * 340282366920938463463374607431768211456 + s3 * 6277101735386680763835789423207666416102355444464034512896 + s4 * 115792089237316195423570985008687907853269984665640564039457584007913129639936) (X := 2135987035920910082395021706169552114602704522356652769947041607822219725780640550022962086936576) (by have := HS.out; omega) (by omega)
      have t2 : 1 ≤ t := by omega
      have hfr : ∀ x, wr.frozen? ⟨br, x, none⟩ = w.frozen? ⟨br, x, none⟩ := ho.frozen
      go_wp2_with fail
      refine (putBack4 br bd o cr cd s0 s1 s2 s3 s4 d0 d1 d2 d3 wr hne sc0 sc1 sc2 sc3 sc4 ((hfr _).trans f0) ((hfr _).trans f1) ((hfr _).trans f2) ((hfr _).trans f3) ((hfr _).trans f4) ((ho.other hne _).trans g0) ((ho.other hne _).trans g1) ((ho.other hne _).trans g2) ((ho.other hne _).trans g3) sp0 su0 sp1 su1 sp2 su2 sp3 su3 sp4 su4 dp0 du0 dp1 du1 dp2 du2 dp3 du3).mono ?_
      rintro e w2 ⟨b, x0, x1, x2, x3, x4, rfl, b0, b1, hx, HX, hc, ho2⟩
      have HN : Hid (x0 + x1 * 18446744073709551616 + x2 * 340282366920938463463374607431768211456 + x3 * 6277101735386680763835789423207666416102355444464034512896 + x4 * 115792089237316195423570985008687907853269984665640564039457584007913129639936 = r0 + r1 * 18446744073709551616 + r2 * 340282366920938463463374607431768211456 + r3 * 6277101735386680763835789423207666416102355444464034512896 + r4 * 115792089237316195423570985008687907853269984665640564039457584007913129639936 - (d0 + d1 * 18446744073709551616 + d2 * 340282366920938463463374607431768211456 + d3 * 6277101735386680763835789423207666416102355444464034512896) * (t - 1) + (1 - b) * 2135987035920910082395021706169552114602704522356652769947041607822219725780640550022962086936576) := by
        have a := HS.out
        have c := HX.out
        show _ = _
        rw [Int.mul_sub, Int.mul_one]
        generalize (d0 + d1 * 18446744073709551616 + d2 * 340282366920938463463374607431768211456 + d3 * 6277101735386680763835789423207666416102355444464034512896) * t = X at *
        omega
      clear hfr
      go_wp2
      go_roundw
      case rel => exact ⟨t - 1, 1 - b, x0, x1, x2, x3, x4, rfl, rfl, by omega, by omega, by omega, by omega, by omega, hx, HN, hc, ho.trans ho2⟩
      case measure => simp [intOf]; omega

end Go.Proofs.Ytbephahokhnccaa
