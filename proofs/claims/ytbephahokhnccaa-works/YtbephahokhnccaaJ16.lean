/-
  Plain arithmetic: a guessed digit of a quotient, mended. No program in sight.
  math/bits.Div64 at this program, where the divisor's highest bit is set: the quotient.
-/
import Derived.Test.YtbephahokhnccaaJ1
import Derived.Test.YtbephahokhnccaaLen
import Derived.Test.YtbephahokhnccaaCells
import Derived.RowKit
import Derived.Below
namespace Go.Proofs.Ytbephahokhnccaa
open Go.RowKit

/-- What is known of the digit Q: it is the quotient of u W + v by y. -/
structure Digit (Q u v y : Int) : Prop where
  le : Q * y ≤ u * 4294967296 + v
  lt : u * 4294967296 + v < Q * y + y

theorem mul_y (q yh yl : Int) : q * (yh * 4294967296 + yl) = q * yh * 4294967296 + q * yl := by rw [Int.mul_add, ← Int.mul_assoc]

theorem digit_le {q Q y u v : Int} (hy : 0 < y) (d : Digit Q u v y) (h : q * y ≤ u * 4294967296 + v) : q ≤ Q := by
  rcases Int.lt_or_le Q q with c | c
  · exfalso
    have := Int.mul_le_mul_of_nonneg_right (show Q + 1 ≤ q by omega) (show 0 ≤ y by omega)
    rw [Int.add_mul, Int.one_mul] at this
    have := d.lt
    omega
  · exact c
theorem digit_lt {q Q y u v : Int} (hy : 0 < y) (d : Digit Q u v y) (h : u * 4294967296 + v < q * y) : Q < q := by
  rcases Int.lt_or_le Q q with c | c
  · exact c
  · exfalso
    have := Int.mul_le_mul_of_nonneg_right c (show 0 ≤ y by omega)
    have := d.le
    omega

theorem digit_stop {q Q r u v y yh yl : Int} (hy : 0 < y) (e : y = yh * 4294967296 + yl) (d : Digit Q u v y) (eq : q * yh + r = u) (hQ : Q ≤ q) (h : q * yl ≤ 4294967296 * r + v) : q = Q := by
  have a : q * y ≤ u * 4294967296 + v := by
    rw [e, mul_y]
    generalize q * yh = p at *
    generalize q * yl = s at *
    omega
  have := digit_le hy d a
  omega
theorem digit_more {q Q r u v y yh yl : Int} (hy : 0 < y) (e : y = yh * 4294967296 + yl) (d : Digit Q u v y) (eq : q * yh + r = u) (h : 4294967296 * r + v < q * yl) : Q < q := by
  apply digit_lt hy d
  rw [e, mul_y]
  generalize q * yh = p at *
  generalize q * yl = s at *
  omega
theorem digit_break {q Q r u v y yh yl : Int} (hy : 0 < y) (e : y = yh * 4294967296 + yl) (l0 : 0 ≤ yl) (l1 : yl < 4294967296) (hv : 0 ≤ v) (d : Digit Q u v y) (eq : q * yh + r = u) (hq : q ≤ 4294967297) (hq0 : 1 ≤ q) (hQ : Q < q) (h : 4294967296 ≤ r + yh) : q - 1 = Q := by
  have b : (q - 1) * yl ≤ 4294967296 * 4294967295 := by
    have := Int.mul_le_mul (show q - 1 ≤ 4294967296 by omega) (show yl ≤ 4294967295 by omega) l0 (by decide)
    exact this
  have a : (q - 1) * y ≤ u * 4294967296 + v := by
    rw [e, mul_y, Int.sub_mul q 1 yh, Int.one_mul]
    generalize q * yh = p at *
    generalize (q - 1) * yl = s at *
    omega
  have := digit_le hy d a
  omega

/-- The digit is there, and is one. -/
theorem digit_ex (u v y : Int) (hu : 0 ≤ u) (huy : u < y) (hv : 0 ≤ v) (hv' : v < 4294967296) : ∃ Q : Int, Digit Q u v y ∧ 0 ≤ Q ∧ Q < 4294967296 := by
  have e1 := Int.ediv_mul_add_emod (u * 4294967296 + v) y
  have r0 := Int.emod_nonneg (u * 4294967296 + v) (show y ≠ 0 by omega)
  have r1 := Int.emod_lt_of_pos (u * 4294967296 + v) (show 0 < y by omega)
  refine ⟨(u * 4294967296 + v) / y, ⟨by omega, by omega⟩, Int.ediv_nonneg (by omega) (by omega), ?_⟩
  apply Int.ediv_lt_of_lt_mul (by omega)
  omega

theorem digit_first {q Q r u v y yh yl : Int} (hyh : 0 < yh) (e : y = yh * 4294967296 + yl) (l0 : 0 ≤ yl) (hQ0 : 0 ≤ Q) (hv' : v < 4294967296) (d : Digit Q u v y) (eq : q * yh + r = u) (hr : r < yh) : Q ≤ q := by
  rcases Int.lt_or_le q Q with c | c
  · exfalso
    have a := Int.mul_le_mul_of_nonneg_right (show q + 1 ≤ Q by omega) (show 0 ≤ yh by omega)
    rw [Int.add_mul, Int.one_mul] at a
    have b := Int.mul_nonneg hQ0 l0
    have dl := d.le
    rw [e, mul_y] at dl
    generalize Q * yh = p at *
    generalize Q * yl = s at *
    generalize q * yh = t at *
    omega
  · exact c

/-- Two digits are the quotient. -/
theorem two_digits {Q1 Q2 hi lo l1 l0 u y : Int} (hy : 0 < y) (el : lo = l1 * 4294967296 + l0) (eu : u = hi * 4294967296 + l1 - Q1 * y) (d2 : Digit Q2 u l0 y) :
    (hi * 18446744073709551616 + lo) / y = Q1 * 4294967296 + Q2 := by
  have a := d2.le
  have b := d2.lt
  have e : hi * 18446744073709551616 + lo = (Q1 * 4294967296 + Q2) * y + (hi * 18446744073709551616 + lo - (Q1 * 4294967296 + Q2) * y) := by omega
  have m : (Q1 * 4294967296 + Q2) * y = Q1 * y * 4294967296 + Q2 * y := by rw [Int.add_mul, Int.mul_right_comm]
  have c1 : 0 ≤ hi * 18446744073709551616 + lo - (Q1 * 4294967296 + Q2) * y := by
    rw [m]; generalize Q1 * y = p at *; generalize Q2 * y = s at *; omega
  have c2 : hi * 18446744073709551616 + lo - (Q1 * 4294967296 + Q2) * y < y := by
    rw [m]; generalize Q1 * y = p at *; generalize Q2 * y = s at *; omega
  rw [e, Int.add_comm, Int.add_mul_ediv_right _ _ (by omega), Int.ediv_eq_zero_of_lt c1 c2, Int.zero_add]

end Go.Proofs.Ytbephahokhnccaa

namespace Go.Proofs.Ytbephahokhnccaa
open Go.RowKit Go.Shelf

theorem lz0 (y : Int) (w : World) (h0 : 9223372036854775808 ≤ y) (h1 : y < 18446744073709551616) :
    Calls Try.prog 71 #[.int .u64 y] w fun e w' => e = .returned (.int .i64 0) ∧ w' = w := by
  refine (leadingZeros64 y w (by omega) (by omega)).mono fun e w' ⟨he, hw⟩ => ⟨?_, hw⟩
  have a := bitLen_lt y.toNat (by omega)
  have b := Lib.bitLen_le y.toNat 64 (Nat.le_refl _) (by omega)
  have c : ¬ Lib.bitLen y.toNat ≤ 63 := fun hc => by
    have := Nat.pow_le_pow_right (n := 2) (by decide) hc
    omega
  have d : Lib.bitLen y.toNat = 64 := by omega
  rw [he, d]
  rfl

theorem maskI (y : Int) (h0 : 0 ≤ y) (h1 : y < 18446744073709551616) : bits .and .u64 y 4294967295 = y % 4294967296 := by
  obtain ⟨y, rfl⟩ := Int.eq_ofNat_of_zero_le h0
  rw [M64.maskN y (by omega)]
  omega

theorem orI0 (y : Int) (h0 : 0 ≤ y) (h1 : y < 18446744073709551616) : bits .or .u64 y 0 = y := by
  obtain ⟨y, rfl⟩ := Int.eq_ofNat_of_zero_le h0
  have := bits_or_u64_nat y 0 (by omega) (by decide)
  rw [Nat.or_zero] at this
  exact this

/-- The guess of one digit, and what is taken off for it. -/
theorem guess_q (hi y yh yl : Int) (a0 : 0 ≤ hi) (a1 : hi < y) (e : y = yh * 4294967296 + yl) (h0 : 2147483648 ≤ yh) (h1 : yh < 4294967296) (l0 : 0 ≤ yl) (l1 : yl < 4294967296) :
    ∃ q r : Int, IntKind.u64.wrap (hi.tdiv yh) = q ∧ IntKind.u64.wrap (hi - IntKind.u64.wrap (q * yh)) = r ∧ 0 ≤ q ∧ q ≤ 4294967297 ∧ 0 ≤ r ∧ r < yh ∧ Hid (q * yh + r = hi) := by
  have hd : hi.tdiv yh = hi / yh := Int.tdiv_eq_ediv_of_nonneg (by omega)
  have e1 : hi / yh * yh + hi % yh = hi := Int.ediv_mul_add_emod _ _
  have r0 := Int.emod_nonneg hi (show yh ≠ 0 by omega)
  have r1 := Int.emod_lt_of_pos hi (show 0 < yh by omega)
  have q0 : 0 ≤ hi / yh := Int.ediv_nonneg (by omega) (by omega)
  have q1 : hi / yh ≤ 4294967297 := by
    apply Int.le_of_lt_add_one
    apply Int.ediv_lt_of_lt_mul (by omega)
    omega
  generalize hi / yh = q at *
  generalize hi % yh = r at *
  refine ⟨q, r, ?_, ?_, q0, q1, r0, r1, e1⟩
  · rw [hd, IntKind.wrap_u64]; omega
  · have hp : 0 ≤ q * yh := Int.mul_nonneg q0 (by omega)
    generalize q * yh = p at *
    rw [IntKind.wrap_u64, IntKind.wrap_u64]; omega

theorem wrap_in (x : Int) (h0 : 0 ≤ x) (h1 : x < 18446744073709551616) : IntKind.u64.wrap x = x := by rw [IntKind.wrap_u64]; omega

theorem mul_in (q y : Int) (h0 : 0 ≤ q) (h1 : q < 4294967296) (k0 : 0 ≤ y) (k1 : y < 4294967296) : IntKind.u64.wrap (q * y) = q * y := by
  have a := Int.mul_nonneg h0 k0
  have b := Int.mul_le_mul (show q ≤ 4294967295 by omega) (show y ≤ 4294967295 by omega) k0 (by decide)
  exact wrap_in _ a (by omega)

set_option maxHeartbeats 4000000 in
theorem div64_w (hi lo y yh yl l1 l0 : Int) (w : World) (a0 : 0 < hi) (a1 : hi < y) (b0 : 0 ≤ lo) (b1 : lo < 18446744073709551616) (y0 : 9223372036854775808 ≤ y) (y1 : y < 18446744073709551616)
    (ry1 : y / 4294967296 = yh) (ry0 : bits .and .u64 y 4294967295 = yl) (rl1 : lo / 4294967296 = l1) (rl0 : bits .and .u64 lo 4294967295 = l0)
    (ro : bits .or .u64 hi (lo / 18446744073709551616) = hi) (EY : Hid (y = yh * 4294967296 + yl))
    (h0 : 2147483648 ≤ yh) (h1 : yh < 4294967296) (k0 : 0 ≤ yl) (k1 : yl < 4294967296) (m0 : 0 ≤ l1) (m1 : l1 < 4294967296) (n0 : 0 ≤ l0) (n1 : l0 < 4294967296)
    (qa ra : Int) (rq : IntKind.u64.wrap (hi.tdiv yh) = qa) (rr : IntKind.u64.wrap (hi - IntKind.u64.wrap (qa * yh)) = ra) (q0 : 0 ≤ qa) (q1 : qa ≤ 4294967297) (r0 : 0 ≤ ra) (r1 : ra < yh) (EQ : Hid (qa * yh + ra = hi))
    (Q1 : Int) (d1 : Digit Q1 hi l1 y) (D0 : 0 ≤ Q1) (D1 : Q1 < 4294967296) (D2 : Q1 ≤ qa)
    (u : Int) (ru : IntKind.u64.wrap (IntKind.u64.wrap (IntKind.u64.wrap (hi * 4294967296) + l1) - IntKind.u64.wrap (Q1 * y)) = u) (u0 : 0 ≤ u) (u1 : u < y)
    (qb rb : Int) (rq2 : IntKind.u64.wrap (u.tdiv yh) = qb) (rr2 : IntKind.u64.wrap (u - IntKind.u64.wrap (qb * yh)) = rb) (s0 : 0 ≤ qb) (s1 : qb ≤ 4294967297) (v0 : 0 ≤ rb) (v1 : rb < yh) (EB : Hid (qb * yh + rb = u))
    (Q2 : Int) (d2 : Digit Q2 u l0 y) (D3 : 0 ≤ Q2) (D4 : Q2 < 4294967296) (D5 : Q2 ≤ qb)
    (HF : Hid ((hi * 18446744073709551616 + lo) / y = Q1 * 4294967296 + Q2)) :
    Calls Try.prog 82 #[.int .u64 hi, .int .u64 lo, .int .u64 y] w fun e w' => ∃ r : Int, e = .returned (.tuple #[.int .u64 ((hi * 18446744073709551616 + lo) / y), .int .u64 r]) ∧ w' = w := by
  have c0 : (y == 0) = false := by simp; omega
  have c1 : (hi == 0) = false := by simp; omega
  have c2 : decide (y ≤ hi) = false := by simp; omega
  go_enter Try.func82, Try.ntmps82
  go_wp2_with (go_at_call 71; refine (lz0 y _ y0 y1).mono ?_; rintro e w' ⟨rfl, rfl⟩)
  go_loop [15, 16] (fun a b => ∃ q r : Int, a = .int .u64 q ∧ b = .int .u64 r ∧ 0 ≤ q ∧ q ≤ 4294967297 ∧ 0 ≤ r ∧ r < 4294967296 ∧ Hid (q * yh + r = hi) ∧ Q1 ≤ q) (fun a _ => (intOf a).toNat)
  case atStart => exact ⟨qa, ra, rfl, rfl, q0, q1, r0, by omega, EQ, D2⟩
  case round =>
    clear rq rr q0 q1 r0 r1 EQ D2
    obtain ⟨q, r, rfl, rfl, q0, q1, r0, r1, EQ, hQ⟩ := hrel
    by_cases t1 : 4294967296 ≤ q
    · have hb := fun t2 => digit_break (by omega) EY.out k0 k1 m0 d1 EQ.out q1 (by omega) (show Q1 < q by omega) t2
      by_cases t2 : 4294967296 ≤ r + yh
      · obtain rfl : q = Q1 + 1 := by have := hb t2; omega
        clear EQ hb
        go_wp2
        go_loop [18, 16] (fun a b => ∃ q r : Int, a = .int .u64 q ∧ b = .int .u64 r ∧ 0 ≤ q ∧ q ≤ 4294967297 ∧ 0 ≤ r ∧ r < 4294967296 ∧ Hid (q * yh + r = u) ∧ Q2 ≤ q) (fun a _ => (intOf a).toNat)
        case atStart => exact ⟨qb, rb, rfl, rfl, s0, s1, v0, by omega, EB, D5⟩
        case round =>
          clear s0 s1 v0 v1 EB D5
          obtain ⟨q, r, rfl, rfl, q0, q1, r0, r1, EQ, hQ⟩ := hrel
          by_cases t1 : 4294967296 ≤ q
          · have hb := fun t2 => digit_break (by omega) EY.out k0 k1 n0 d2 EQ.out q1 (by omega) (show Q2 < q by omega) t2
            by_cases t2 : 4294967296 ≤ r + yh
            · obtain rfl : q = Q2 + 1 := by have := hb t2; omega
              clear EQ hb
              go_wp2
              go_ret2
              exact ⟨⟨_, congrArg (fun z => Ending.returned (.tuple #[.int .u64 z, .int .u64 _])) HF.out.symm⟩, rfl⟩
            · have EQ' : Hid ((q - 1) * yh + (r + yh) = u) := by
                have := EQ.out
                show _ = _
                rw [Int.sub_mul, Int.one_mul]; omega
              clear hb EQ
              go_wp2
              go_round
              case rel => exact ⟨q - 1, r + yh, rfl, rfl, by omega, by omega, by omega, by omega, EQ', by omega⟩
              case measure => simp [intOf]; omega
          · have t1' : q < 4294967296 := by omega
            have rp := mul_in q yl q0 t1' k0 k1
            by_cases t3 : 4294967296 * r + l0 < q * yl
            · have hm := digit_more (by omega) EY.out d2 EQ.out t3
              have hb := fun t2 => digit_break (by omega) EY.out k0 k1 n0 d2 EQ.out q1 (by omega) hm t2
              have hq1 : 1 ≤ q := by omega
              by_cases t2 : 4294967296 ≤ r + yh
              · obtain rfl : q = Q2 + 1 := by have := hb t2; omega
                clear EQ hb hm
                go_wp2
                go_ret2
                exact ⟨⟨_, congrArg (fun z => Ending.returned (.tuple #[.int .u64 z, .int .u64 _])) HF.out.symm⟩, rfl⟩
              · have EQ' : Hid ((q - 1) * yh + (r + yh) = u) := by
                  have := EQ.out
                  show _ = _
                  rw [Int.sub_mul, Int.one_mul]; omega
                clear hb EQ
                go_wp2
                go_round
                case rel => exact ⟨q - 1, r + yh, rfl, rfl, by omega, by omega, by omega, by omega, EQ', by omega⟩
                case measure => simp [intOf]; omega
            · obtain rfl : q = Q2 := digit_stop (by omega) EY.out d2 EQ.out hQ (by omega)
              clear EQ
              go_wp2
              go_ret2
              exact ⟨⟨_, congrArg (fun z => Ending.returned (.tuple #[.int .u64 z, .int .u64 _])) HF.out.symm⟩, rfl⟩
      · have EQ' : Hid ((q - 1) * yh + (r + yh) = hi) := by
          have := EQ.out
          show _ = _
          rw [Int.sub_mul, Int.one_mul]; omega
        clear hb EQ
        go_wp2
        go_round
        case rel => exact ⟨q - 1, r + yh, rfl, rfl, by omega, by omega, by omega, by omega, EQ', by omega⟩
        case measure => simp [intOf]; omega
    · have t1' : q < 4294967296 := by omega
      have rp := mul_in q yl q0 t1' k0 k1
      by_cases t3 : 4294967296 * r + l1 < q * yl
      · have hm := digit_more (by omega) EY.out d1 EQ.out t3
        have hb := fun t2 => digit_break (by omega) EY.out k0 k1 m0 d1 EQ.out q1 (by omega) hm t2
        have hq1 : 1 ≤ q := by omega
        by_cases t2 : 4294967296 ≤ r + yh
        · obtain rfl : q = Q1 + 1 := by have := hb t2; omega
          clear EQ hb hm
          go_wp2
          go_loop [18, 16] (fun a b => ∃ q r : Int, a = .int .u64 q ∧ b = .int .u64 r ∧ 0 ≤ q ∧ q ≤ 4294967297 ∧ 0 ≤ r ∧ r < 4294967296 ∧ Hid (q * yh + r = u) ∧ Q2 ≤ q) (fun a _ => (intOf a).toNat)
          case atStart => exact ⟨qb, rb, rfl, rfl, s0, s1, v0, by omega, EB, D5⟩
          case round =>
            clear s0 s1 v0 v1 EB D5
            obtain ⟨q, r, rfl, rfl, q0, q1, r0, r1, EQ, hQ⟩ := hrel
            by_cases t1 : 4294967296 ≤ q
            · have hb := fun t2 => digit_break (by omega) EY.out k0 k1 n0 d2 EQ.out q1 (by omega) (show Q2 < q by omega) t2
              by_cases t2 : 4294967296 ≤ r + yh
              · obtain rfl : q = Q2 + 1 := by have := hb t2; omega
                clear EQ hb
                go_wp2
                go_ret2
                exact ⟨⟨_, congrArg (fun z => Ending.returned (.tuple #[.int .u64 z, .int .u64 _])) HF.out.symm⟩, rfl⟩
              · have EQ' : Hid ((q - 1) * yh + (r + yh) = u) := by
                  have := EQ.out
                  show _ = _
                  rw [Int.sub_mul, Int.one_mul]; omega
                clear hb EQ
                go_wp2
                go_round
                case rel => exact ⟨q - 1, r + yh, rfl, rfl, by omega, by omega, by omega, by omega, EQ', by omega⟩
                case measure => simp [intOf]; omega
            · have t1' : q < 4294967296 := by omega
              have rp := mul_in q yl q0 t1' k0 k1
              by_cases t3 : 4294967296 * r + l0 < q * yl
              · have hm := digit_more (by omega) EY.out d2 EQ.out t3
                have hb := fun t2 => digit_break (by omega) EY.out k0 k1 n0 d2 EQ.out q1 (by omega) hm t2
                have hq1 : 1 ≤ q := by omega
                by_cases t2 : 4294967296 ≤ r + yh
                · obtain rfl : q = Q2 + 1 := by have := hb t2; omega
                  clear EQ hb hm
                  go_wp2
                  go_ret2
                  exact ⟨⟨_, congrArg (fun z => Ending.returned (.tuple #[.int .u64 z, .int .u64 _])) HF.out.symm⟩, rfl⟩
                · have EQ' : Hid ((q - 1) * yh + (r + yh) = u) := by
                    have := EQ.out
                    show _ = _
                    rw [Int.sub_mul, Int.one_mul]; omega
                  clear hb EQ
                  go_wp2
                  go_round
                  case rel => exact ⟨q - 1, r + yh, rfl, rfl, by omega, by omega, by omega, by omega, EQ', by omega⟩
                  case measure => simp [intOf]; omega
              · obtain rfl : q = Q2 := digit_stop (by omega) EY.out d2 EQ.out hQ (by omega)
                clear EQ
                go_wp2
                go_ret2
                exact ⟨⟨_, congrArg (fun z => Ending.returned (.tuple #[.int .u64 z, .int .u64 _])) HF.out.symm⟩, rfl⟩
        · have EQ' : Hid ((q - 1) * yh + (r + yh) = hi) := by
            have := EQ.out
            show _ = _
            rw [Int.sub_mul, Int.one_mul]; omega
          clear hb EQ
          go_wp2
          go_round
          case rel => exact ⟨q - 1, r + yh, rfl, rfl, by omega, by omega, by omega, by omega, EQ', by omega⟩
          case measure => simp [intOf]; omega
      · obtain rfl : q = Q1 := digit_stop (by omega) EY.out d1 EQ.out hQ (by omega)
        clear EQ
        go_wp2
        go_loop [18, 16] (fun a b => ∃ q r : Int, a = .int .u64 q ∧ b = .int .u64 r ∧ 0 ≤ q ∧ q ≤ 4294967297 ∧ 0 ≤ r ∧ r < 4294967296 ∧ Hid (q * yh + r = u) ∧ Q2 ≤ q) (fun a _ => (intOf a).toNat)
        case atStart => exact ⟨qb, rb, rfl, rfl, s0, s1, v0, by omega, EB, D5⟩
        case round =>
          clear s0 s1 v0 v1 EB D5
          obtain ⟨q, r, rfl, rfl, q0, q1, r0, r1, EQ, hQ⟩ := hrel
          by_cases t1 : 4294967296 ≤ q
          · have hb := fun t2 => digit_break (by omega) EY.out k0 k1 n0 d2 EQ.out q1 (by omega) (show Q2 < q by omega) t2
            by_cases t2 : 4294967296 ≤ r + yh
            · obtain rfl : q = Q2 + 1 := by have := hb t2; omega
              clear EQ hb
              go_wp2
              go_ret2
              exact ⟨⟨_, congrArg (fun z => Ending.returned (.tuple #[.int .u64 z, .int .u64 _])) HF.out.symm⟩, rfl⟩
            · have EQ' : Hid ((q - 1) * yh + (r + yh) = u) := by
                have := EQ.out
                show _ = _
                rw [Int.sub_mul, Int.one_mul]; omega
              clear hb EQ
              go_wp2
              go_round
              case rel => exact ⟨q - 1, r + yh, rfl, rfl, by omega, by omega, by omega, by omega, EQ', by omega⟩
              case measure => simp [intOf]; omega
          · have t1' : q < 4294967296 := by omega
            have rp := mul_in q yl q0 t1' k0 k1
            by_cases t3 : 4294967296 * r + l0 < q * yl
            · have hm := digit_more (by omega) EY.out d2 EQ.out t3
              have hb := fun t2 => digit_break (by omega) EY.out k0 k1 n0 d2 EQ.out q1 (by omega) hm t2
              have hq1 : 1 ≤ q := by omega
              by_cases t2 : 4294967296 ≤ r + yh
              · obtain rfl : q = Q2 + 1 := by have := hb t2; omega
                clear EQ hb hm
                go_wp2
                go_ret2
                exact ⟨⟨_, congrArg (fun z => Ending.returned (.tuple #[.int .u64 z, .int .u64 _])) HF.out.symm⟩, rfl⟩
              · have EQ' : Hid ((q - 1) * yh + (r + yh) = u) := by
                  have := EQ.out
                  show _ = _
                  rw [Int.sub_mul, Int.one_mul]; omega
                clear hb EQ
                go_wp2
                go_round
                case rel => exact ⟨q - 1, r + yh, rfl, rfl, by omega, by omega, by omega, by omega, EQ', by omega⟩
                case measure => simp [intOf]; omega
            · obtain rfl : q = Q2 := digit_stop (by omega) EY.out d2 EQ.out hQ (by omega)
              clear EQ
              go_wp2
              go_ret2
              exact ⟨⟨_, congrArg (fun z => Ending.returned (.tuple #[.int .u64 z, .int .u64 _])) HF.out.symm⟩, rfl⟩

theorem div64 (hi lo y : Int) (w : World) (a0 : 0 < hi) (a1 : hi < y) (b0 : 0 ≤ lo) (b1 : lo < 18446744073709551616) (y0 : 9223372036854775808 ≤ y) (y1 : y < 18446744073709551616) :
    Calls Try.prog 82 #[.int .u64 hi, .int .u64 lo, .int .u64 y] w fun e w' => ∃ r : Int, e = .returned (.tuple #[.int .u64 ((hi * 18446744073709551616 + lo) / y), .int .u64 r]) ∧ w' = w := by
  have ro : bits .or .u64 hi (lo / 18446744073709551616) = hi := by
    rw [show lo / 18446744073709551616 = 0 by omega]
    exact orI0 hi (by omega) (by omega)
  have EY : y = y / 4294967296 * 4294967296 + y % 4294967296 := by omega
  have EL : lo = lo / 4294967296 * 4294967296 + lo % 4294967296 := by omega
  have ry0 := maskI y (by omega) y1
  have rl0 := maskI lo b0 b1
  have ry1 : y / 4294967296 = y / 4294967296 := rfl
  have rl1 : lo / 4294967296 = lo / 4294967296 := rfl
  have h0 : 2147483648 ≤ y / 4294967296 := by omega
  have h1 : y / 4294967296 < 4294967296 := by omega
  have k0 : 0 ≤ y % 4294967296 := by omega
  have k1 : y % 4294967296 < 4294967296 := by omega
  have m0 : 0 ≤ lo / 4294967296 := by omega
  have m1 : lo / 4294967296 < 4294967296 := by omega
  have n0 : 0 ≤ lo % 4294967296 := by omega
  have n1 : lo % 4294967296 < 4294967296 := by omega
  obtain ⟨yh, eyh⟩ : ∃ x, x = y / 4294967296 := ⟨_, rfl⟩
  obtain ⟨yl, eyl⟩ : ∃ x, x = y % 4294967296 := ⟨_, rfl⟩
  obtain ⟨l1, el1⟩ : ∃ x, x = lo / 4294967296 := ⟨_, rfl⟩
  obtain ⟨l0, el0⟩ : ∃ x, x = lo % 4294967296 := ⟨_, rfl⟩
  rw [← eyh] at EY h0 h1
  rw [← eyl] at EY k0 k1 ry0
  rw [← el1] at EL m0 m1
  rw [← el0] at EL n0 n1 rl0
  obtain ⟨Q1, d1, D0, D1⟩ := digit_ex hi l1 y (by omega) a1 m0 m1
  obtain ⟨qa, ra, rq, rr, q0, q1, r0, r1, EQ⟩ := guess_q hi y yh yl (by omega) a1 EY h0 h1 k0 k1
  have D2 := digit_first (by omega) EY k0 D0 m1 d1 EQ.out r1
  have e1 := d1.le
  have e2 := d1.lt
  have hp : 0 ≤ Q1 * y := Int.mul_nonneg D0 (by omega)
  have ru : IntKind.u64.wrap (IntKind.u64.wrap (IntKind.u64.wrap (hi * 4294967296) + l1) - IntKind.u64.wrap (Q1 * y)) = hi * 4294967296 + l1 - Q1 * y := by
    generalize Q1 * y = p at *
    rw [IntKind.wrap_u64, IntKind.wrap_u64, IntKind.wrap_u64, IntKind.wrap_u64]; omega
  obtain ⟨u, eu⟩ : ∃ x, x = hi * 4294967296 + l1 - Q1 * y := ⟨_, rfl⟩
  rw [← eu] at ru
  have u0 : 0 ≤ u := by omega
  have u1 : u < y := by omega
  obtain ⟨Q2, d2, D3, D4⟩ := digit_ex u l0 y u0 u1 n0 n1
  obtain ⟨qb, rb, rq2, rr2, s0, s1, v0, v1, EB⟩ := guess_q u y yh yl u0 u1 EY h0 h1 k0 k1
  have D5 := digit_first (by omega) EY k0 D3 n1 d2 EB.out v1
  have HF := two_digits (by omega) EL eu d2
  exact div64_w hi lo y yh yl l1 l0 w a0 a1 b0 b1 y0 y1 eyh.symm ry0 el1.symm rl0 ro EY h0 h1 k0 k1 m0 m1 n0 n1 qa ra rq rr q0 q1 r0 r1 EQ Q1 d1 D0 D1 D2 u ru u0 u1 qb rb rq2 rr2 s0 s1 v0 v1 EB Q2 d2 D3 D4 D5 HF

end Go.Proofs.Ytbephahokhnccaa

