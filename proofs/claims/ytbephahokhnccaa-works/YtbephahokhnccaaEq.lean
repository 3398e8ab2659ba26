/-
  '==' of two words at this program.
-/
import Derived.Test.YtbephahokhnccaaJ2
import Derived.Test.YtbephahokhnccaaJ1
namespace Go.Proofs.Ytbephahokhnccaa
open Go.RowKit Go.Shelf

def eq4 (x0 x1 x2 x3 y0 y1 y2 y3 : Int) : Bool := x0 == y0 && (x1 == y1 && (x2 == y2 && x3 == y3))
theorem u24 : Try.prog.underlying 24 = some (.array 4 22) := by kernel_rfl
theorem u22 : Try.prog.underlying 22 = some (.int .u64) := by kernel_rfl
theorem z22 (w : World) : (Go.sizeOf 22).run Try.prog w = .ok 1 w := by kernel_rfl
theorem part0 (x0 x1 x2 x3 : Int) (w : World) : (part 22 #[.int .u64 x0, .int .u64 x1, .int .u64 x2, .int .u64 x3] 0).run Try.prog w = .ok (.int .u64 x0) w := by kernel_rfl
theorem part1 (x0 x1 x2 x3 : Int) (w : World) : (part 22 #[.int .u64 x0, .int .u64 x1, .int .u64 x2, .int .u64 x3] 1).run Try.prog w = .ok (.int .u64 x1) w := by kernel_rfl
theorem part2 (x0 x1 x2 x3 : Int) (w : World) : (part 22 #[.int .u64 x0, .int .u64 x1, .int .u64 x2, .int .u64 x3] 2).run Try.prog w = .ok (.int .u64 x2) w := by kernel_rfl
theorem part3 (x0 x1 x2 x3 : Int) (w : World) : (part 22 #[.int .u64 x0, .int .u64 x1, .int .u64 x2, .int .u64 x3] 3).run Try.prog w = .ok (.int .u64 x3) w := by kernel_rfl

theorem run_eq4d (d : Nat) (x0 x1 x2 x3 y0 y1 y2 y3 : Int) (w : World) :
    (Op.equalIn (d + 2) 24 (.agg #[.int .u64 x0, .int .u64 x1, .int .u64 x2, .int .u64 x3]) (.agg #[.int .u64 y0, .int .u64 y1, .int .u64 y2, .int .u64 y3])).run Try.prog w = .ok (eq4 x0 x1 x2 x3 y0 y1 y2 y3) w := by
  have e := fun (x y : Int) (w : World) => run_equalIn_int (P := Try.prog) w d 22 .u64 .u64 x y u22
  unfold eq4
  rw [Op.equalIn]
  simp only [Sem.run_bind, run_underlying u24, Result.andThen_ok, z22]
  simp
  rw [show List.range' 0 4 = [0, 1, 2, 3] from rfl]
  by_cases h0 : x0 = y0 <;> by_cases h1 : x1 = y1 <;> by_cases h2 : x2 = y2 <;> by_cases h3 : x3 = y3 <;>
    simp [part0, part1, part2, part3, e, h0, h1, h2, h3]

theorem run_eq4 (x0 x1 x2 x3 y0 y1 y2 y3 : Int) (w : World) :
    (Op.equalIn 10000 24 (.agg #[.int .u64 x0, .int .u64 x1, .int .u64 x2, .int .u64 x3]) (.agg #[.int .u64 y0, .int .u64 y1, .int .u64 y2, .int .u64 y3])).run Try.prog w = .ok (eq4 x0 x1 x2 x3 y0 y1 y2 y3) w :=
  run_eq4d 9998 x0 x1 x2 x3 y0 y1 y2 y3 w

theorem eq4_lim (m n : Nat) (hm : m < M) (hn : n < M) : eq4 (lim m 0) (lim m 1) (lim m 2) (lim m 3) (lim n 0) (lim n 1) (lim n 2) (lim n 3) = decide (m = n) := by
  unfold eq4
  by_cases h : m = n
  · subst h; simp
  · by_cases h0 : lim m 0 = lim n 0
    · by_cases h1 : lim m 1 = lim n 1
      · by_cases h2 : lim m 2 = lim n 2
        · by_cases h3 : lim m 3 = lim n 3
          · exact absurd (lim_inj m n hm hn h0 h1 h2 h3) h
          · simp [h, h3]
        · simp [h, h2]
      · simp [h, h1]
    · simp [h, h0]

theorem eq4_self (x0 x1 x2 x3 : Int) : eq4 x0 x1 x2 x3 x0 x1 x2 x3 = true := by unfold eq4; simp
end Go.Proofs.Ytbephahokhnccaa
