/-
  number.Sum, Add, Sub, Not at this program: what they return.
-/
import Derived.Test.YtbephahokhnccaaJ1
import Derived.Test.YtbephahokhnccaaJ2
import Derived.Deep.RegionHeld3
import Derived.Handy
namespace Go.Proofs.Ytbephahokhnccaa
open Go.RowKit Go.Shelf
attribute [local go_sem] wd

theorem addN64 (x y c : Int) (hx : 0 ≤ x) (hy : 0 ≤ y) (hc0 : 0 ≤ c) (hc : c ≤ 1) : ∀ w, (callFunc 68 #[.int .u64 x, .int .u64 y, .int .u64 c]).run Try.prog w =
    .ok (.value (.tuple #[.int .u64 (aL x y c), .int .u64 (aH x y c)])) w := fun w => add64 x y c hx hy hc0 hc w
theorem subN64 (x y c : Int) (hx : 0 ≤ x) (hy : 0 ≤ y) (hy' : y < 18446744073709551616) (hc0 : 0 ≤ c) (hc : c ≤ 1) : ∀ w, (callFunc 56 #[.int .u64 x, .int .u64 y, .int .u64 c]).run Try.prog w =
    .ok (.value (.tuple #[.int .u64 (sL x y c), .int .u64 (sH x y c)])) w := fun w => sub64 x y c hx hy hy' hc0 hc w

theorem below4 (w : World) (o1 o2 o3 o4 : Obj) : Below w.heap.size w ((((w.alloc o1).alloc o2).alloc o3).alloc o4) :=
  ((((Below.refl _ _).alloc (Nat.le_refl _) _).alloc (by simp) _).alloc (by simp; omega) _).alloc (by simp; omega) _

theorem below3 (w : World) (o1 o2 o3 : Obj) : Below w.heap.size w (((w.alloc o1).alloc o2).alloc o3) :=
  (((Below.refl _ _).alloc (Nat.le_refl _) _).alloc (by simp) _).alloc (by simp; omega) _

set_option maxHeartbeats 400000 in
theorem sum_l (a0 a1 a2 a3 b0 b1 b2 b3 : Int) (w : World)
    (p0 : 0 ≤ a0) (p1 : 0 ≤ a1) (p2 : 0 ≤ a2) (p3 : 0 ≤ a3) (q0 : 0 ≤ b0) (q1 : 0 ≤ b1) (q2 : 0 ≤ b2) (q3 : 0 ≤ b3)
    (u0 : a0 < 18446744073709551616) (u1 : a1 < 18446744073709551616) (u2 : a2 < 18446744073709551616)
    (v0 : b0 < 18446744073709551616) (v1 : b1 < 18446744073709551616) (v2 : b2 < 18446744073709551616) :
    Calls Try.prog 55 #[.agg #[.int .u64 a0, .int .u64 a1, .int .u64 a2, .int .u64 a3], .agg #[.int .u64 b0, .int .u64 b1, .int .u64 b2, .int .u64 b3]] w fun e w' =>
      e = .returned (.tuple #[.agg #[.int .u64 (aL a0 b0 0), .int .u64 (aL a1 b1 (aH a0 b0 0)), .int .u64 (aL a2 b2 (aH a1 b1 (aH a0 b0 0))), .int .u64 (aL a3 b3 (aH a2 b2 (aH a1 b1 (aH a0 b0 0))))], .int .u64 (aH a3 b3 (aH a2 b2 (aH a1 b1 (aH a0 b0 0))))]) ∧ Below w.heap.size w w' := by
  have f0 := addN64 a0 b0 0 p0 q0 (Int.le_refl 0) (by decide)
  have k0 := aH0 a0 b0 0 p0 q0 (Int.le_refl 0)
  have m0 := aH1 a0 b0 0 u0 v0 (by decide)
  have f1 := addN64 a1 b1 _ p1 q1 k0 m0
  have k1 := aH0 a1 b1 _ p1 q1 k0
  have m1 := aH1 a1 b1 _ u1 v1 m0
  have f2 := addN64 a2 b2 _ p2 q2 k1 m1
  have k2 := aH0 a2 b2 _ p2 q2 k1
  have m2 := aH1 a2 b2 _ u2 v2 m1
  have f3 := addN64 a3 b3 _ p3 q3 k2 m2
  clear u0 u1 u2 v0 v1 v2 p0 p1 p2 p3 q0 q1 q2 q3 k0 k1 k2 m0 m1 m2
  go_enter Try.func55, Try.ntmps55
  go_wp2
  refine wp_loop_rounds 5 ?_
  rw [rounds_succ]
  go_wp2
  go_region
  go_wp2
  rw [rounds_succ]
  go_wp2
  go_region
  go_wp2
  rw [rounds_succ]
  go_wp2
  go_region
  go_wp2
  rw [rounds_succ]
  go_wp2
  go_region
  go_wp2
  rw [rounds_succ]
  go_wp2
  simp [bodyPost, results, Try.results55, go_sem]
  exact (below4 _ _ _ _ _).drew.drew.drew.drew

theorem sum (a b : Nat) (ha : a < M) (hb : b < M) (w : World) :
    Calls Try.prog 55 #[wd a, wd b] w fun e w' => e = .returned (.tuple #[wd ((a + b) % M), .int .u64 (((a + b) / M : Nat) : Int)]) ∧ Below w.heap.size w w' := by
  refine (sum_l _ _ _ _ _ _ _ _ w (lim_nn a 0) (lim_nn a 1) (lim_nn a 2) (lim_nn a 3) (lim_nn b 0) (lim_nn b 1) (lim_nn b 2) (lim_nn b 3)
    (lim_lt a 0) (lim_lt a 1) (lim_lt a 2) (lim_lt b 0) (lim_lt b 1) (lim_lt b 2)).mono fun e w' ⟨he, hb'⟩ => ?_
  obtain ⟨h0, h1, h2, h3, h4⟩ := sum_lim a b ha hb
  unfold wd
  rw [h0, h1, h2, h3, h4]
  exact ⟨he, hb'⟩

theorem bcell {W w1 : World} (hb : Below W.heap.size W w1) : (∀ b o, b < W.heap.size → w1.cell? ⟨b, o, none⟩ = W.cell? ⟨b, o, none⟩) ∧ (∀ b o, b < W.heap.size → w1.frozen? ⟨b, o, none⟩ = W.frozen? ⟨b, o, none⟩) :=
  ⟨fun b o h => hb.cell (p := ⟨b, o, none⟩) h, fun b o h => hb.frozen (p := ⟨b, o, none⟩) h⟩

set_option maxHeartbeats 400000 in
theorem add (a b : Nat) (ha : a < M) (hb : b < M) (w : World) :
    Calls Try.prog 27 #[wd a, wd b] w fun e w' => e = .returned (wd ((a + b) % M)) ∧ Below w.heap.size w w' := by
  go_enter Try.func27, Try.ntmps27
  go_wp2_with fail
  refine (sum a b ha hb _).mono ?_
  rintro e w1 ⟨rfl, hb1⟩
  obtain ⟨hc, hf⟩ := bcell hb1
  have hz : w.heap.size + 1 + 1 < w1.heap.size := by have := hb1.size; simp at this; omega
  have hB : Below w.heap.size w w1 := (below3 w _ _ _).trans (hb1.mono (below3 w _ _ _).size)
  go_wp2
  simp [bodyPost, results, Try.results27, go_sem, hc, hz]
  exact ((((hB.setCell (by dsimp only; omega) _).setCell (by dsimp only; omega) _).setCell (by dsimp only; omega) _).setCell (by dsimp only; omega) _).alloc (by simp; omega) _

set_option maxHeartbeats 400000 in
theorem sub_l (a0 a1 a2 a3 b0 b1 b2 b3 : Int) (w : World)
    (p0 : 0 ≤ a0) (p1 : 0 ≤ a1) (p2 : 0 ≤ a2) (p3 : 0 ≤ a3) (q0 : 0 ≤ b0) (q1 : 0 ≤ b1) (q2 : 0 ≤ b2) (q3 : 0 ≤ b3)
    (v0 : b0 < 18446744073709551616) (v1 : b1 < 18446744073709551616) (v2 : b2 < 18446744073709551616) (v3 : b3 < 18446744073709551616) :
    Calls Try.prog 28 #[.agg #[.int .u64 a0, .int .u64 a1, .int .u64 a2, .int .u64 a3], .agg #[.int .u64 b0, .int .u64 b1, .int .u64 b2, .int .u64 b3]] w fun e w' =>
      e = .returned (.agg #[.int .u64 (sL a0 b0 0), .int .u64 (sL a1 b1 (sH a0 b0 0)), .int .u64 (sL a2 b2 (sH a1 b1 (sH a0 b0 0))), .int .u64 (sL a3 b3 (sH a2 b2 (sH a1 b1 (sH a0 b0 0))))]) ∧ Below w.heap.size w w' := by
  have f0 := subN64 a0 b0 0 p0 q0 v0 (Int.le_refl 0) (by decide)
  have f1 := subN64 a1 b1 _ p1 q1 v1 (sH0 a0 b0 0) (sH1 a0 b0 0)
  have f2 := subN64 a2 b2 _ p2 q2 v2 (sH0 a1 b1 (sH a0 b0 0)) (sH1 _ _ _)
  have f3 := subN64 a3 b3 _ p3 q3 v3 (sH0 a2 b2 (sH a1 b1 (sH a0 b0 0))) (sH1 _ _ _)
  clear v0 v1 v2 v3 p0 p1 p2 p3 q0 q1 q2 q3
  go_enter Try.func28, Try.ntmps28
  go_wp2
  refine wp_loop_rounds 5 ?_
  rw [rounds_succ]
  go_wp2
  go_region
  go_wp2
  rw [rounds_succ]
  go_wp2
  go_region
  go_wp2
  rw [rounds_succ]
  go_wp2
  go_region
  go_wp2
  rw [rounds_succ]
  go_wp2
  go_region
  go_wp2
  rw [rounds_succ]
  go_wp2
  simp [bodyPost, results, Try.results28, go_sem]
  exact (below4 _ _ _ _ _).drew.drew.drew.drew

theorem sub (a b : Nat) (ha : a < M) (hb : b < M) (w : World) :
    Calls Try.prog 28 #[wd a, wd b] w fun e w' => e = .returned (wd ((a + M - b) % M)) ∧ Below w.heap.size w w' := by
  refine (sub_l _ _ _ _ _ _ _ _ w (lim_nn a 0) (lim_nn a 1) (lim_nn a 2) (lim_nn a 3) (lim_nn b 0) (lim_nn b 1) (lim_nn b 2) (lim_nn b 3)
    (lim_lt b 0) (lim_lt b 1) (lim_lt b 2) (lim_lt b 3)).mono fun e w' ⟨he, hb'⟩ => ?_
  obtain ⟨h0, h1, h2, h3⟩ := sub_lim a b ha hb
  unfold wd
  rw [h0, h1, h2, h3]
  exact ⟨he, hb'⟩

end Go.Proofs.Ytbephahokhnccaa
