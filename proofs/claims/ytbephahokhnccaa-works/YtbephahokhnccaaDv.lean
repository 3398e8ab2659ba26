/-
  number.divide at this program, of numbers: the quotient and the rest; and widen.
-/
import Derived.Test.YtbephahokhnccaaDv1
import Derived.Test.YtbephahokhnccaaDv2
import Derived.Test.YtbephahokhnccaaDv3
import Derived.Test.YtbephahokhnccaaDv4
import Derived.Test.YtbephahokhnccaaBitq
namespace Go.Proofs.Ytbephahokhnccaa
open Go.RowKit Go.Shelf
attribute [local go_sem] wd dbl

/-- The rest; 0 by 0. -/
def rmod (n d : Nat) : Nat := if d = 0 then 0 else n % d
theorem rmod_lt (n d : Nat) (h : d < M) : rmod n d < M := by
  unfold rmod
  split
  · exact M_pos
  · exact Nat.lt_trans (Nat.mod_lt n (by omega)) h

set_option maxHeartbeats 1000000 in
theorem divide_0 (n0 n1 n2 n3 n4 n5 n6 n7 : Int) (w : World) :
    Calls Try.prog 59 #[.agg #[.int .u64 n0, .int .u64 n1, .int .u64 n2, .int .u64 n3, .int .u64 n4, .int .u64 n5, .int .u64 n6, .int .u64 n7], .agg #[.int .u64 0, .int .u64 0, .int .u64 0, .int .u64 0]] w fun e w' =>
      e = .returned (.tuple #[.agg #[.int .u64 0, .int .u64 0, .int .u64 0, .int .u64 0, .int .u64 0, .int .u64 0, .int .u64 0, .int .u64 0], .agg #[.int .u64 0, .int .u64 0, .int .u64 0, .int .u64 0]]) ∧ Below w.heap.size w w' := by
  go_enter Try.func59, Try.ntmps59
  go_wp2_with fail
  refine (pl0 _).mono ?_
  rintro e w1 ⟨rfl, hb⟩
  obtain ⟨hc, hf⟩ := bcell hb
  have B4 := Below.trans (below4 w _ _ _ _) (hb.mono (below4 w _ _ _ _).size)
  have hz : w.heap.size + 1 + 1 + 1 < w1.heap.size := by have := hb.size; simp at this; omega
  clear hb
  go_wp2
  simp [bodyPost, results, Try.results59, go_sem, hc]
  repeat refine Below.setCell ?_ (by dsimp only; omega) _
  exact B4

theorem dbl_of {n : Nat} {q0 q1 q2 q3 q4 q5 q6 q7 : Int} (h : Part8 q0 q1 q2 q3 q4 q5 q6 q7 n) : dbl n = .agg #[.int .u64 q0, .int .u64 q1, .int .u64 q2, .int .u64 q3, .int .u64 q4, .int .u64 q5, .int .u64 q6, .int .u64 q7] := by
  obtain ⟨h0, h1, h2, h3, h4, h5, h6, h7⟩ := lim8_of _ _ _ _ _ _ _ _ _ h
  unfold dbl
  rw [h0, h1, h2, h3, h4, h5, h6, h7]

theorem lim_sum8 (n : Nat) (h : n < M * M) : (n : Int) = lim n 0 + lim n 1 * 18446744073709551616 + lim n 2 * 340282366920938463463374607431768211456 + lim n 3 * 6277101735386680763835789423207666416102355444464034512896 + lim n 4 * 115792089237316195423570985008687907853269984665640564039457584007913129639936 + lim n 5 * 2135987035920910082395021706169552114602704522356652769947041607822219725780640550022962086936576 + lim n 6 * 39402006196394479212279040100143613805079739270465446667948293404245721771497210611414266254884915640806627990306816 + lim n 7 * 726838724295606890549323807888004534353641360687318060281490199180639288113397923326191050713763565560762521606266177933534601628614656 := by
  unfold lim M at *
  simp only [Nat.pow_zero, Nat.pow_one, Nat.div_one, Nat.reducePow]
  omega

/-- What a division comes to. -/
theorem quot_of {n d r : Nat} {q0 q1 q2 q3 q4 q5 q6 q7 D : Int} (hd : (d : Int) = D)
    (hq : 0 ≤ q0 ∧ q0 < 18446744073709551616 ∧ 0 ≤ q1 ∧ q1 < 18446744073709551616 ∧ 0 ≤ q2 ∧ q2 < 18446744073709551616 ∧ 0 ≤ q3 ∧ q3 < 18446744073709551616 ∧ 0 ≤ q4 ∧ q4 < 18446744073709551616 ∧ 0 ≤ q5 ∧ q5 < 18446744073709551616 ∧ 0 ≤ q6 ∧ q6 < 18446744073709551616 ∧ 0 ≤ q7 ∧ q7 < 18446744073709551616)
    (h : (n : Int) = (q0 + q1 * 18446744073709551616 + q2 * 340282366920938463463374607431768211456 + q3 * 6277101735386680763835789423207666416102355444464034512896 + q4 * 115792089237316195423570985008687907853269984665640564039457584007913129639936 + q5 * 2135987035920910082395021706169552114602704522356652769947041607822219725780640550022962086936576 + q6 * 39402006196394479212279040100143613805079739270465446667948293404245721771497210611414266254884915640806627990306816 + q7 * 726838724295606890549323807888004534353641360687318060281490199180639288113397923326191050713763565560762521606266177933534601628614656) * D + r)
    (hr : (r : Int) < D) : Ending.returned (.tuple #[.agg #[.int .u64 q0, .int .u64 q1, .int .u64 q2, .int .u64 q3, .int .u64 q4, .int .u64 q5, .int .u64 q6, .int .u64 q7], wd r]) = .returned (.tuple #[dbl (n / d), wd (rmod n d)]) := by
  obtain ⟨a0, b0, a1, b1, a2, b2, a3, b3, a4, b4, a5, b5, a6, b6, a7, b7⟩ := hq
  obtain ⟨Q, hQ⟩ : ∃ Q : Nat, (Q : Int) = q0 + q1 * 18446744073709551616 + q2 * 340282366920938463463374607431768211456 + q3 * 6277101735386680763835789423207666416102355444464034512896 + q4 * 115792089237316195423570985008687907853269984665640564039457584007913129639936 + q5 * 2135987035920910082395021706169552114602704522356652769947041607822219725780640550022962086936576 + q6 * 39402006196394479212279040100143613805079739270465446667948293404245721771497210611414266254884915640806627990306816 + q7 * 726838724295606890549323807888004534353641360687318060281490199180639288113397923326191050713763565560762521606266177933534601628614656 :=
    ⟨_, Int.toNat_of_nonneg (by omega)⟩
  rw [← hQ, ← hd, ← Int.natCast_mul] at h
  rw [← hd] at hr
  have hn : n = Q * d + r := by omega
  have hrd : r < d := by omega
  have e1 : n / d = Q := by
    rw [hn, Nat.mul_comm, Nat.mul_add_div (by omega), Nat.div_eq_of_lt hrd, Nat.add_zero]
  have e2 : rmod n d = r := by
    unfold rmod
    rw [if_neg (by omega), hn, Nat.mul_comm, Nat.mul_add_mod, Nat.mod_eq_of_lt hrd]
  rw [e1, e2, dbl_of ⟨⟨a0, a1, a2, a3, a4, a5, a6, a7⟩, ⟨b0, b1, b2, b3, b4, b5, b6, b7⟩, hQ⟩]

theorem divide (n d : Nat) (hn : n < M * M) (hd : d < M) (w : World) :
    Calls Try.prog 59 #[dbl n, wd d] w fun e w' => e = .returned (.tuple #[dbl (n / d), wd (rmod n d)]) ∧ Below w.heap.size w w' := by
  have sn := lim_sum8 n hn
  have sd := lim_sum d hd
  by_cases h3 : lim d 3 = 0
  · by_cases h2 : lim d 2 = 0
    · by_cases h1 : lim d 1 = 0
      · by_cases h0 : lim d 0 = 0
        · have hz : d = 0 := by rw [h0, h1, h2, h3] at sd; omega
          subst hz
          have e1 : dbl (n / 0) = .agg #[.int .u64 0, .int .u64 0, .int .u64 0, .int .u64 0, .int .u64 0, .int .u64 0, .int .u64 0, .int .u64 0] := by
            rw [Nat.div_zero]; unfold dbl; simp [lim]
          have e2 : wd (rmod n 0) = .agg #[.int .u64 0, .int .u64 0, .int .u64 0, .int .u64 0] := by unfold rmod wd; simp [lim]
          have e3 : wd 0 = .agg #[.int .u64 0, .int .u64 0, .int .u64 0, .int .u64 0] := by unfold wd; simp [lim]
          rw [e1, e2, e3]
          exact divide_0 _ _ _ _ _ _ _ _ w
        · have e3 : wd d = .agg #[.int .u64 (lim d 0), .int .u64 0, .int .u64 0, .int .u64 0] := by unfold wd; rw [h1, h2, h3]
          rw [e3]
          refine (divide_1 _ _ _ _ _ _ _ _ (lim d 0) w (lim_nn n 0) (lim_lt n 0) (lim_nn n 1) (lim_lt n 1) (lim_nn n 2) (lim_lt n 2) (lim_nn n 3) (lim_lt n 3) (lim_nn n 4) (lim_lt n 4) (lim_nn n 5) (lim_lt n 5) (lim_nn n 6) (lim_lt n 6) (lim_nn n 7) (lim_lt n 7) (lim_nn d 0) (lim_lt d 0) (by simpa using h0)).mono fun e w' ⟨q0, q1, q2, q3, q4, q5, q6, q7, r, he, hq, H1, H2, hb⟩ => ⟨?_, hb⟩
          rw [he]
          have h := H1.out
          rw [← sn] at h
          exact quot_of (by rw [h1, h2, h3] at sd; omega) hq h H2.out
      · have e3 : wd d = .agg #[.int .u64 (lim d 0), .int .u64 (lim d 1), .int .u64 0, .int .u64 0] := by unfold wd; rw [h2, h3]
        rw [e3]
        refine (divide_2 _ _ _ _ _ _ _ _ (lim d 0) (lim d 1) w (lim_nn n 0) (lim_lt n 0) (lim_nn n 1) (lim_lt n 1) (lim_nn n 2) (lim_lt n 2) (lim_nn n 3) (lim_lt n 3) (lim_nn n 4) (lim_lt n 4) (lim_nn n 5) (lim_lt n 5) (lim_nn n 6) (lim_lt n 6) (lim_nn n 7) (lim_lt n 7) (lim_nn d 0) (lim_lt d 0) (lim_nn d 1) (lim_lt d 1) (by simpa using h1)).mono fun e w' ⟨q0, q1, q2, q3, q4, q5, q6, q7, r, he, hq, H1, H2, hb⟩ => ⟨?_, hb⟩
        rw [he]
        have h := H1.out
        rw [← sn] at h
        exact quot_of (by rw [h2, h3] at sd; omega) hq h H2.out
    · have e3 : wd d = .agg #[.int .u64 (lim d 0), .int .u64 (lim d 1), .int .u64 (lim d 2), .int .u64 0] := by unfold wd; rw [h3]
      rw [e3]
      refine (divide_3 _ _ _ _ _ _ _ _ (lim d 0) (lim d 1) (lim d 2) w (lim_nn n 0) (lim_lt n 0) (lim_nn n 1) (lim_lt n 1) (lim_nn n 2) (lim_lt n 2) (lim_nn n 3) (lim_lt n 3) (lim_nn n 4) (lim_lt n 4) (lim_nn n 5) (lim_lt n 5) (lim_nn n 6) (lim_lt n 6) (lim_nn n 7) (lim_lt n 7) (lim_nn d 0) (lim_lt d 0) (lim_nn d 1) (lim_lt d 1) (lim_nn d 2) (lim_lt d 2) (by simpa using h2)).mono fun e w' ⟨q0, q1, q2, q3, q4, q5, q6, q7, r, he, hq, H1, H2, hb⟩ => ⟨?_, hb⟩
      rw [he]
      have h := H1.out
      rw [← sn] at h
      exact quot_of (by rw [h3] at sd; omega) hq h H2.out
  · refine (divide_4 _ _ _ _ _ _ _ _ (lim d 0) (lim d 1) (lim d 2) (lim d 3) w (lim_nn n 0) (lim_lt n 0) (lim_nn n 1) (lim_lt n 1) (lim_nn n 2) (lim_lt n 2) (lim_nn n 3) (lim_lt n 3) (lim_nn n 4) (lim_lt n 4) (lim_nn n 5) (lim_lt n 5) (lim_nn n 6) (lim_lt n 6) (lim_nn n 7) (lim_lt n 7) (lim_nn d 0) (lim_lt d 0) (lim_nn d 1) (lim_lt d 1) (lim_nn d 2) (lim_lt d 2) (lim_nn d 3) (lim_lt d 3) (by simpa using h3)).mono fun e w' ⟨q0, q1, q2, q3, q4, q5, q6, q7, r, he, hq, H1, H2, hb⟩ => ⟨?_, hb⟩
    rw [he]
    have h := H1.out
    rw [← sn] at h
    exact quot_of sd hq h H2.out

set_option maxHeartbeats 400000 in
theorem widen_l (a0 a1 a2 a3 c : Int) (w : World) :
    Calls Try.prog 60 #[.agg #[.int .u64 a0, .int .u64 a1, .int .u64 a2, .int .u64 a3], .int .u64 c] w fun e w' => e = .returned (.agg #[.int .u64 a0, .int .u64 a1, .int .u64 a2, .int .u64 a3, .int .u64 c, .int .u64 0, .int .u64 0, .int .u64 0]) ∧ Below w.heap.size w w' := by
  go_enter Try.func60, Try.ntmps60
  go_wp2
  simp [bodyPost, results, Try.results60, go_sem]
  exact ((Below.refl _ _).alloc (Nat.le_refl _) _).alloc (by simp) _

theorem widen (a c : Nat) (ha : a < M) (hc : c ≤ 1) (w : World) :
    Calls Try.prog 60 #[wd a, .int .u64 c] w fun e w' => e = .returned (dbl (a + c * M)) ∧ Below w.heap.size w w' := by
  refine (widen_l _ _ _ _ c w).mono fun e w' ⟨he, hb⟩ => ⟨?_, hb⟩
  rw [he, dbl_of (n := a + c * M) (q0 := lim a 0) (q1 := lim a 1) (q2 := lim a 2) (q3 := lim a 3) (q4 := c) (q5 := 0) (q6 := 0) (q7 := 0) ⟨⟨lim_nn a 0, lim_nn a 1, lim_nn a 2, lim_nn a 3, by omega, by decide, by decide, by decide⟩, ⟨lim_lt a 0, lim_lt a 1, lim_lt a 2, lim_lt a 3, by omega, by decide, by decide, by decide⟩, ?_⟩]
  have := lim_sum a ha
  unfold M
  omega

end Go.Proofs.Ytbephahokhnccaa
