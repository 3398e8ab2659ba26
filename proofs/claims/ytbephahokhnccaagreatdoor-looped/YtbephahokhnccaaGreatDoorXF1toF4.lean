import Derived.Test.YtbephahokhnccaaGreatDoorE4
import Derived.WalkSpells
import Derived.WalkLawsBesides
import Derived.Shelf.Spec.BitsCarry
import Derived.Deep.RegionHeld3
import Derived.BigQuiet
import Derived.Handy
set_option linter.unusedSectionVars false
namespace Go.Mark
def M : Nat := 115792089237316195423570985008687907853269984665640564039457584007913129639936
def lim (n i : Nat) : Int := ((n / 18446744073709551616 ^ i % 18446744073709551616 : Nat) : Int)
abbrev wd (n : Nat) : Value := .agg #[.int .u64 (lim n 0), .int .u64 (lim n 1), .int .u64 (lim n 2), .int .u64 (lim n 3)]
theorem lim_nn (n i : Nat) : 0 <= lim n i := Int.natCast_nonneg _
theorem lim_lt (n i : Nat) : lim n i < 18446744073709551616 := by
 have := Nat.mod_lt (n / 18446744073709551616 ^ i) (y := 18446744073709551616) (by decide)
 unfold lim; omega
theorem lim_sum (n : Nat) (h : n < M) : (n : Int) = lim n 0 + lim n 1 * 18446744073709551616 + lim n 2 * 340282366920938463463374607431768211456 + lim n 3 * 6277101735386680763835789423207666416102355444464034512896 := by
 unfold lim M at *
 simp only [Nat.pow_zero, Nat.pow_one, Nat.div_one, Nat.reducePow]
 omega
theorem lim_of (n : Nat) (x0 x1 x2 x3 : Int) (a0 : 0 <= x0) (a1 : 0 <= x1) (a2 : 0 <= x2) (a3 : 0 <= x3) (b0 : x0 < 18446744073709551616) (b1 : x1 < 18446744073709551616) (b2 : x2 < 18446744073709551616) (b3 : x3 < 18446744073709551616)
  (h : (n : Int) = x0 + x1 * 18446744073709551616 + x2 * 340282366920938463463374607431768211456 + x3 * 6277101735386680763835789423207666416102355444464034512896) :
  lim n 0 = x0 /\ lim n 1 = x1 /\ lim n 2 = x2 /\ lim n 3 = x3 := by
 unfold lim
 simp only [Nat.pow_zero, Nat.pow_one, Nat.div_one, Nat.reducePow]
 refine ⟨by omega, by omega, by omega, by omega⟩
theorem lim_inj (m n : Nat) (hm : m < M) (hn : n < M) (h0 : lim m 0 = lim n 0) (h1 : lim m 1 = lim n 1) (h2 : lim m 2 = lim n 2) (h3 : lim m 3 = lim n 3) : m = n := by
 have a := lim_sum m hm
 have b := lim_sum n hn
 rw [h0, h1, h2, h3, <- b] at a
 omega
def aL (x y c : Int) : Int := (x + y + c) % 18446744073709551616
def aH (x y c : Int) : Int := (x + y + c) / 18446744073709551616
theorem aL0 (x y c : Int) : 0 <= aL x y c := by unfold aL; omega
theorem aL1 (x y c : Int) : aL x y c < 18446744073709551616 := by unfold aL; omega
theorem aH0 (x y c : Int) (hx : 0 <= x) (hy : 0 <= y) (hc : 0 <= c) : 0 <= aH x y c := by unfold aH; omega
theorem aH1 (x y c : Int) (hx : x < 18446744073709551616) (hy : y < 18446744073709551616) (hc : c <= 1) : aH x y c <= 1 := by unfold aH; omega
theorem aE (x y c : Int) : x + y + c = aL x y c + aH x y c * 18446744073709551616 := by unfold aL aH; omega
def sL (x y c : Int) : Int := (x - y - c) % 18446744073709551616
def sH (x y c : Int) : Int := if x < y + c then 1 else 0
theorem sL0 (x y c : Int) : 0 <= sL x y c := by unfold sL; omega
theorem sL1 (x y c : Int) : sL x y c < 18446744073709551616 := by unfold sL; omega
theorem sH0 (x y c : Int) : 0 <= sH x y c := by unfold sH; split <;> decide
theorem sH1 (x y c : Int) : sH x y c <= 1 := by unfold sH; split <;> decide
theorem sE (x y c : Int) (hx : 0 <= x) (hy : 0 <= y) (hc : 0 <= c) (hx' : x < 18446744073709551616) (hy' : y < 18446744073709551616) (hc' : c <= 1) : x - y - c = sL x y c - sH x y c * 18446744073709551616 := by unfold sL sH; split <;> omega
theorem sum_lim (a b : Nat) (ha : a < M) (hb : b < M) :
  lim ((a + b) % M) 0 = aL (lim a 0) (lim b 0) 0 /\ lim ((a + b) % M) 1 = aL (lim a 1) (lim b 1) (aH (lim a 0) (lim b 0) 0) /\
  lim ((a + b) % M) 2 = aL (lim a 2) (lim b 2) (aH (lim a 1) (lim b 1) (aH (lim a 0) (lim b 0) 0)) /\
  lim ((a + b) % M) 3 = aL (lim a 3) (lim b 3) (aH (lim a 2) (lim b 2) (aH (lim a 1) (lim b 1) (aH (lim a 0) (lim b 0) 0))) /\
  (((a + b) / M : Nat) : Int) = aH (lim a 3) (lim b 3) (aH (lim a 2) (lim b 2) (aH (lim a 1) (lim b 1) (aH (lim a 0) (lim b 0) 0))) := by
 have sa := lim_sum a ha; have sb := lim_sum b hb
 have e0 := aE (lim a 0) (lim b 0) 0
 have e1 := aE (lim a 1) (lim b 1) (aH (lim a 0) (lim b 0) 0)
 have e2 := aE (lim a 2) (lim b 2) (aH (lim a 1) (lim b 1) (aH (lim a 0) (lim b 0) 0))
 have e3 := aE (lim a 3) (lim b 3) (aH (lim a 2) (lim b 2) (aH (lim a 1) (lim b 1) (aH (lim a 0) (lim b 0) 0)))
 have l0 := aL0 (lim a 0) (lim b 0) 0; have u0 := aL1 (lim a 0) (lim b 0) 0
 have l1 := aL0 (lim a 1) (lim b 1) (aH (lim a 0) (lim b 0) 0); have u1 := aL1 (lim a 1) (lim b 1) (aH (lim a 0) (lim b 0) 0)
 have l2 := aL0 (lim a 2) (lim b 2) (aH (lim a 1) (lim b 1) (aH (lim a 0) (lim b 0) 0)); have u2 := aL1 (lim a 2) (lim b 2) (aH (lim a 1) (lim b 1) (aH (lim a 0) (lim b 0) 0))
 have l3 := aL0 (lim a 3) (lim b 3) (aH (lim a 2) (lim b 2) (aH (lim a 1) (lim b 1) (aH (lim a 0) (lim b 0) 0))); have u3 := aL1 (lim a 3) (lim b 3) (aH (lim a 2) (lim b 2) (aH (lim a 1) (lim b 1) (aH (lim a 0) (lim b 0) 0)))
 generalize aH (lim a 3) (lim b 3) (aH (lim a 2) (lim b 2) (aH (lim a 1) (lim b 1) (aH (lim a 0) (lim b 0) 0))) = c3 at *
 generalize aL (lim a 3) (lim b 3) (aH (lim a 2) (lim b 2) (aH (lim a 1) (lim b 1) (aH (lim a 0) (lim b 0) 0))) = s3 at *
 generalize aL (lim a 2) (lim b 2) (aH (lim a 1) (lim b 1) (aH (lim a 0) (lim b 0) 0)) = s2 at *
 generalize aH (lim a 2) (lim b 2) (aH (lim a 1) (lim b 1) (aH (lim a 0) (lim b 0) 0)) = c2 at *
 generalize aL (lim a 1) (lim b 1) (aH (lim a 0) (lim b 0) 0) = s1 at *
 generalize aH (lim a 1) (lim b 1) (aH (lim a 0) (lim b 0) 0) = c1 at *
 generalize aL (lim a 0) (lim b 0) 0 = s0 at *
 generalize aH (lim a 0) (lim b 0) 0 = c0 at *
 have tot : ((a + b : Nat) : Int) = s0 + s1 * 18446744073709551616 + s2 * 340282366920938463463374607431768211456 + s3 * 6277101735386680763835789423207666416102355444464034512896 + c3 * 115792089237316195423570985008687907853269984665640564039457584007913129639936 := by omega
 clear sa sb e0 e1 e2 e3
 have hm : (((a + b) % M : Nat) : Int) = s0 + s1 * 18446744073709551616 + s2 * 340282366920938463463374607431768211456 + s3 * 6277101735386680763835789423207666416102355444464034512896 := by unfold M; omega
 have hd : (((a + b) / M : Nat) : Int) = c3 := by unfold M; omega
 obtain ⟨h0, h1, h2, h3⟩ := lim_of _ s0 s1 s2 s3 l0 l1 l2 l3 u0 u1 u2 u3 hm
 exact ⟨h0, h1, h2, h3, hd⟩
theorem sub_lim (a b : Nat) (ha : a < M) (hb : b < M) :
  lim ((a + M - b) % M) 0 = sL (lim a 0) (lim b 0) 0 /\ lim ((a + M - b) % M) 1 = sL (lim a 1) (lim b 1) (sH (lim a 0) (lim b 0) 0) /\
  lim ((a + M - b) % M) 2 = sL (lim a 2) (lim b 2) (sH (lim a 1) (lim b 1) (sH (lim a 0) (lim b 0) 0)) /\
  lim ((a + M - b) % M) 3 = sL (lim a 3) (lim b 3) (sH (lim a 2) (lim b 2) (sH (lim a 1) (lim b 1) (sH (lim a 0) (lim b 0) 0))) := by
 have sa := lim_sum a ha; have sb := lim_sum b hb
 have r0 := sH0 (lim a 0) (lim b 0) 0; have t0 := sH1 (lim a 0) (lim b 0) 0
 have r1 := sH0 (lim a 1) (lim b 1) (sH (lim a 0) (lim b 0) 0); have t1 := sH1 (lim a 1) (lim b 1) (sH (lim a 0) (lim b 0) 0)
 have r2 := sH0 (lim a 2) (lim b 2) (sH (lim a 1) (lim b 1) (sH (lim a 0) (lim b 0) 0)); have t2 := sH1 (lim a 2) (lim b 2) (sH (lim a 1) (lim b 1) (sH (lim a 0) (lim b 0) 0))
 have r3 := sH0 (lim a 3) (lim b 3) (sH (lim a 2) (lim b 2) (sH (lim a 1) (lim b 1) (sH (lim a 0) (lim b 0) 0))); have t3 := sH1 (lim a 3) (lim b 3) (sH (lim a 2) (lim b 2) (sH (lim a 1) (lim b 1) (sH (lim a 0) (lim b 0) 0)))
 have e0 := sE (lim a 0) (lim b 0) 0 (lim_nn _ _) (lim_nn _ _) (by decide) (lim_lt _ _) (lim_lt _ _) (by decide)
 have e1 := sE (lim a 1) (lim b 1) _ (lim_nn _ _) (lim_nn _ _) r0 (lim_lt _ _) (lim_lt _ _) t0
 have e2 := sE (lim a 2) (lim b 2) _ (lim_nn _ _) (lim_nn _ _) r1 (lim_lt _ _) (lim_lt _ _) t1
 have e3 := sE (lim a 3) (lim b 3) _ (lim_nn _ _) (lim_nn _ _) r2 (lim_lt _ _) (lim_lt _ _) t2
 have l0 := sL0 (lim a 0) (lim b 0) 0; have u0 := sL1 (lim a 0) (lim b 0) 0
 have l1 := sL0 (lim a 1) (lim b 1) (sH (lim a 0) (lim b 0) 0); have u1 := sL1 (lim a 1) (lim b 1) (sH (lim a 0) (lim b 0) 0)
 have l2 := sL0 (lim a 2) (lim b 2) (sH (lim a 1) (lim b 1) (sH (lim a 0) (lim b 0) 0)); have u2 := sL1 (lim a 2) (lim b 2) (sH (lim a 1) (lim b 1) (sH (lim a 0) (lim b 0) 0))
 have l3 := sL0 (lim a 3) (lim b 3) (sH (lim a 2) (lim b 2) (sH (lim a 1) (lim b 1) (sH (lim a 0) (lim b 0) 0))); have u3 := sL1 (lim a 3) (lim b 3) (sH (lim a 2) (lim b 2) (sH (lim a 1) (lim b 1) (sH (lim a 0) (lim b 0) 0)))
 generalize sH (lim a 3) (lim b 3) (sH (lim a 2) (lim b 2) (sH (lim a 1) (lim b 1) (sH (lim a 0) (lim b 0) 0))) = c3 at *
 generalize sL (lim a 3) (lim b 3) (sH (lim a 2) (lim b 2) (sH (lim a 1) (lim b 1) (sH (lim a 0) (lim b 0) 0))) = s3 at *
 generalize sL (lim a 2) (lim b 2) (sH (lim a 1) (lim b 1) (sH (lim a 0) (lim b 0) 0)) = s2 at *
 generalize sH (lim a 2) (lim b 2) (sH (lim a 1) (lim b 1) (sH (lim a 0) (lim b 0) 0)) = c2 at *
 generalize sL (lim a 1) (lim b 1) (sH (lim a 0) (lim b 0) 0) = s1 at *
 generalize sH (lim a 1) (lim b 1) (sH (lim a 0) (lim b 0) 0) = c1 at *
 generalize sL (lim a 0) (lim b 0) 0 = s0 at *
 generalize sH (lim a 0) (lim b 0) 0 = c0 at *
 have tot : (a : Int) - b = s0 + s1 * 18446744073709551616 + s2 * 340282366920938463463374607431768211456 + s3 * 6277101735386680763835789423207666416102355444464034512896 - c3 * 115792089237316195423570985008687907853269984665640564039457584007913129639936 := by omega
 clear sa sb e0 e1 e2 e3
 have hm : (((a + M - b) % M : Nat) : Int) = s0 + s1 * 18446744073709551616 + s2 * 340282366920938463463374607431768211456 + s3 * 6277101735386680763835789423207666416102355444464034512896 := by unfold M at *; omega
 exact lim_of _ s0 s1 s2 s3 l0 l1 l2 l3 u0 u1 u2 u3 hm
end Go.Mark
set_option maxRecDepth 100000
set_option maxHeartbeats 1000000
namespace Go.Mark
open Go.RowKit Go.Shelf Go.Proofs
attribute [local go_sem] wd
theorem add64 (x y c : Int) (hx : 0 <= x) (hy : 0 <= y) (hc0 : 0 <= c) (hc : c <= 1) (w : World) : (callFunc 142 #[.int .u64 x, .int .u64 y, .int .u64 c]).run TryQ.prog w =
  .ok (.value (.tuple #[.int .u64 ((x + y + c) % 18446744073709551616), .int .u64 ((x + y + c) / 18446744073709551616)])) w := by
 rw [run_callFunc_extern TryQ.func142 (by kernel_rfl) (by kernel_rfl) (by kernel_rfl) (e := add64Entry) (by kernel_rfl), run_add64 x y c hx hy hc0 hc]
 rfl
theorem addN64 (x y c : Int) (hx : 0 <= x) (hy : 0 <= y) (hc0 : 0 <= c) (hc : c <= 1) : ∀ w, (callFunc 142 #[.int .u64 x, .int .u64 y, .int .u64 c]).run TryQ.prog w =
  .ok (.value (.tuple #[.int .u64 (aL x y c), .int .u64 (aH x y c)])) w := fun w => add64 x y c hx hy hc0 hc w
theorem below4 (w : World) (o1 o2 o3 o4 : Obj) : Below w.heap.size w ((((w.alloc o1).alloc o2).alloc o3).alloc o4) :=
 ((((Below.refl _ _).alloc (Nat.le_refl _) _).alloc (by simp) _).alloc (by simp; omega) _).alloc (by simp; omega) _
theorem below3 (w : World) (o1 o2 o3 : Obj) : Below w.heap.size w (((w.alloc o1).alloc o2).alloc o3) :=
 (((Below.refl _ _).alloc (Nat.le_refl _) _).alloc (by simp) _).alloc (by simp; omega) _
theorem sum_l (a0 a1 a2 a3 b0 b1 b2 b3 : Int) (w : World)
  (p0 : 0 <= a0) (p1 : 0 <= a1) (p2 : 0 <= a2) (p3 : 0 <= a3) (q0 : 0 <= b0) (q1 : 0 <= b1) (q2 : 0 <= b2) (q3 : 0 <= b3)
  (u0 : a0 < 18446744073709551616) (u1 : a1 < 18446744073709551616) (u2 : a2 < 18446744073709551616)
  (v0 : b0 < 18446744073709551616) (v1 : b1 < 18446744073709551616) (v2 : b2 < 18446744073709551616) :
  Calls TryQ.prog 96 #[.agg #[.int .u64 a0, .int .u64 a1, .int .u64 a2, .int .u64 a3], .agg #[.int .u64 b0, .int .u64 b1, .int .u64 b2, .int .u64 b3]] w fun e w' =>
   e = .returned (.tuple #[.agg #[.int .u64 (aL a0 b0 0), .int .u64 (aL a1 b1 (aH a0 b0 0)), .int .u64 (aL a2 b2 (aH a1 b1 (aH a0 b0 0))), .int .u64 (aL a3 b3 (aH a2 b2 (aH a1 b1 (aH a0 b0 0))))], .int .u64 (aH a3 b3 (aH a2 b2 (aH a1 b1 (aH a0 b0 0))))]) /\ Below w.heap.size w w' := by
 have f0 := addN64 a0 b0 0 p0 q0 (Int.le_refl 0) (by decide)
 have k0 := aH0 a0 b0 0 p0 q0 (Int.le_refl 0)
 have m0 := aH1 a0 b0 0 u0 v0 (by decide)
 have f1 := addN64 a1 b1 _ p1 q1 k0 m0
 have k1 := aH0 a1 b1 _ p1 q1 k0
 have m1 := aH1 a1 b1 _ u1 v1 m0
 have f2 := addN64 a2 b2 _ p2 q2 k1 m1
 have k2 := aH0 a2 b2 _ p2 q2 k1
 have m2 := aH1 a2 b2 _ u2 v2 m1
 have f3 := addN64 a3 b3 _ p3 q3 k2 m2
 clear u0 u1 u2 v0 v1 v2 p0 p1 p2 p3 q0 q1 q2 q3 k0 k1 k2 m0 m1 m2
 go_enter TryQ.func96, Tryz.ntmps96
 go_wp2
 refine wp_loop_rounds 5 ?_
 rw [rounds_succ]
 go_wp2
 go_region
 go_wp2
 rw [rounds_succ]
 go_wp2
 go_region
 go_wp2
 rw [rounds_succ]
 go_wp2
 go_region
 go_wp2
 rw [rounds_succ]
 go_wp2
 go_region
 go_wp2
 rw [rounds_succ]
 go_wp2
 simp [bodyPost, results, Tryz.results96, go_sem]
 exact (below4 _ _ _ _ _).drew.drew.drew.drew
theorem sum (a b : Nat) (ha : a < M) (hb : b < M) (w : World) :
  Calls TryQ.prog 96 #[wd a, wd b] w fun e w' => e = .returned (.tuple #[wd ((a + b) % M), .int .u64 (((a + b) / M : Nat) : Int)]) /\ Below w.heap.size w w' := by
 refine (sum_l _ _ _ _ _ _ _ _ w (lim_nn a 0) (lim_nn a 1) (lim_nn a 2) (lim_nn a 3) (lim_nn b 0) (lim_nn b 1) (lim_nn b 2) (lim_nn b 3)
  (lim_lt a 0) (lim_lt a 1) (lim_lt a 2) (lim_lt b 0) (lim_lt b 1) (lim_lt b 2)).mono fun e w' ⟨he, hb'⟩ => ?_
 obtain ⟨h0, h1, h2, h3, h4⟩ := sum_lim a b ha hb
 unfold wd
 rw [h0, h1, h2, h3, h4]
 exact ⟨he, hb'⟩
theorem bcell {W w1 : World} (hb : Below W.heap.size W w1) : (∀ b o, b < W.heap.size -> w1.cell? ⟨b, o, none⟩ = W.cell? ⟨b, o, none⟩) /\ (∀ b o, b < W.heap.size -> w1.frozen? ⟨b, o, none⟩ = W.frozen? ⟨b, o, none⟩) :=
 ⟨fun b o h => hb.cell (p := ⟨b, o, none⟩) h, fun b o h => hb.frozen (p := ⟨b, o, none⟩) h⟩
def cmpI (x y : Int) : Int := if x < y then -1 else if y < x then 1 else 0
theorem cmp64 (x y : Int) (w : World) : Calls TryQ.prog 205 #[.int .u64 x, .int .u64 y] w fun e w' => e = .returned (.int .i64 (cmpI x y)) /\ w' = w := by
 by_cases h : x < y
 ·have hc : cmpI x y = -1 := by unfold cmpI; rw [if_pos h]
  rw [hc]; clear hc
  go_enter TryQ.func205, Tryz.ntmps205
  go_wp2
  go_ret
  exact ⟨rfl, rfl⟩
 ·by_cases h2 : y < x
  ·have hc : cmpI x y = 1 := by unfold cmpI; rw [if_neg h, if_pos h2]
   rw [hc]; clear hc
   go_enter TryQ.func205, Tryz.ntmps205
   go_wp2
   go_ret
   exact ⟨rfl, rfl⟩
  ·have hc : cmpI x y = 0 := by unfold cmpI; rw [if_neg h, if_neg h2]
   rw [hc]; clear hc
   go_enter TryQ.func205, Tryz.ntmps205
   go_wp2
   go_ret
   exact ⟨rfl, rfl⟩
theorem cmp_3 (a0 a1 a2 a3 b0 b1 b2 b3 : Int) (h : (a3 != b3) = true) (w : World) :
  Calls TryQ.prog 163 #[.agg #[.int .u64 a0, .int .u64 a1, .int .u64 a2, .int .u64 a3], .agg #[.int .u64 b0, .int .u64 b1, .int .u64 b2, .int .u64 b3]] w fun e w' => e = .returned (.int .i64 (cmpI a3 b3)) /\ Below w.heap.size w w' := by
 go_enter TryQ.func163, Tryz.ntmps163
 go_wp2
 refine wp_loop_rounds 5 ?_
 rw [rounds_succ]
 go_wp2
 go_quiet (fail)
 go_wp2
 go_region_with (go_at_call 205; refine (cmp64 a3 b3 _).mono ?_; rintro e w' ⟨rfl, hw⟩; rw [hw])
 all_goals
  go_wp2
  go_ret
  exact ⟨rfl, below_drewN (by go_grown) _⟩
theorem cmp_2 (a0 a1 a2 b0 b1 b2 x3 : Int) (h : (a2 != b2) = true) (w : World) :
  Calls TryQ.prog 163 #[.agg #[.int .u64 a0, .int .u64 a1, .int .u64 a2, .int .u64 x3], .agg #[.int .u64 b0, .int .u64 b1, .int .u64 b2, .int .u64 x3]] w fun e w' => e = .returned (.int .i64 (cmpI a2 b2)) /\ Below w.heap.size w w' := by
 go_enter TryQ.func163, Tryz.ntmps163
 go_wp2
 refine wp_loop_rounds 5 ?_
 rw [rounds_succ]
 go_wp2
 go_quiet (fail)
 go_wp2
 rw [rounds_succ]
 go_wp2
 go_quiet (fail)
 go_wp2
 go_region_with (go_at_call 205; refine (cmp64 a2 b2 _).mono ?_; rintro e w' ⟨rfl, hw⟩; rw [hw])
 all_goals
  go_wp2
  go_ret
  exact ⟨rfl, below_drewN (by go_grown) _⟩
theorem cmp_1 (a0 a1 b0 b1 x2 x3 : Int) (h : (a1 != b1) = true) (w : World) :
  Calls TryQ.prog 163 #[.agg #[.int .u64 a0, .int .u64 a1, .int .u64 x2, .int .u64 x3], .agg #[.int .u64 b0, .int .u64 b1, .int .u64 x2, .int .u64 x3]] w fun e w' => e = .returned (.int .i64 (cmpI a1 b1)) /\ Below w.heap.size w w' := by
 go_enter TryQ.func163, Tryz.ntmps163
 go_wp2
 refine wp_loop_rounds 5 ?_
 rw [rounds_succ]
 go_wp2
 go_quiet (fail)
 go_wp2
 rw [rounds_succ]
 go_wp2
 go_quiet (fail)
 go_wp2
 rw [rounds_succ]
 go_wp2
 go_quiet (fail)
 go_wp2
 go_region_with (go_at_call 205; refine (cmp64 a1 b1 _).mono ?_; rintro e w' ⟨rfl, hw⟩; rw [hw])
 all_goals
  go_wp2
  go_ret
  exact ⟨rfl, below_drewN (by go_grown) _⟩
theorem cmp_0 (a0 b0 x1 x2 x3 : Int) (h : (a0 != b0) = true) (w : World) :
  Calls TryQ.prog 163 #[.agg #[.int .u64 a0, .int .u64 x1, .int .u64 x2, .int .u64 x3], .agg #[.int .u64 b0, .int .u64 x1, .int .u64 x2, .int .u64 x3]] w fun e w' => e = .returned (.int .i64 (cmpI a0 b0)) /\ Below w.heap.size w w' := by
 go_enter TryQ.func163, Tryz.ntmps163
 go_wp2
 refine wp_loop_rounds 5 ?_
 rw [rounds_succ]
 go_wp2
 go_quiet (fail)
 go_wp2
 rw [rounds_succ]
 go_wp2
 go_quiet (fail)
 go_wp2
 rw [rounds_succ]
 go_wp2
 go_quiet (fail)
 go_wp2
 rw [rounds_succ]
 go_wp2
 go_quiet (fail)
 go_wp2
 go_region_with (go_at_call 205; refine (cmp64 a0 b0 _).mono ?_; rintro e w' ⟨rfl, hw⟩; rw [hw])
 all_goals
  go_wp2
  go_ret
  exact ⟨rfl, below_drewN (by go_grown) _⟩
theorem cmp_eq (x0 x1 x2 x3 : Int) (w : World) :
  Calls TryQ.prog 163 #[.agg #[.int .u64 x0, .int .u64 x1, .int .u64 x2, .int .u64 x3], .agg #[.int .u64 x0, .int .u64 x1, .int .u64 x2, .int .u64 x3]] w fun e w' => e = .returned (.int .i64 0) /\ Below w.heap.size w w' := by
 go_enter TryQ.func163, Tryz.ntmps163
 go_wp2
 refine wp_loop_rounds 5 ?_
 rw [rounds_succ]
 go_wp2
 go_quiet (fail)
 go_wp2
 rw [rounds_succ]
 go_wp2
 go_quiet (fail)
 go_wp2
 rw [rounds_succ]
 go_wp2
 go_quiet (fail)
 go_wp2
 rw [rounds_succ]
 go_wp2
 go_quiet (fail)
 go_wp2
 rw [rounds_succ]
 go_wp2
 go_ret
 exact ⟨rfl, below_drewN ((((Below.refl _ _).alloc (Nat.le_refl _) _).alloc (by simp) _)) _⟩
theorem compare (a b : Nat) (ha : a < M) (hb : b < M) (w : World) :
  Calls TryQ.prog 163 #[wd a, wd b] w fun e w' => e = .returned (.int .i64 (cmpI a b)) /\ Below w.heap.size w w' := by
 have sa := lim_sum a ha
 have sb := lim_sum b hb
 have l0 := lim_nn a 0; have l1 := lim_nn a 1; have l2 := lim_nn a 2; have l3 := lim_nn a 3
 have u0 := lim_lt a 0; have u1 := lim_lt a 1; have u2 := lim_lt a 2; have u3 := lim_lt a 3
 have k0 := lim_nn b 0; have k1 := lim_nn b 1; have k2 := lim_nn b 2; have k3 := lim_nn b 3
 have v0 := lim_lt b 0; have v1 := lim_lt b 1; have v2 := lim_lt b 2; have v3 := lim_lt b 3
 unfold wd
 generalize lim a 0 = a0 at *; generalize lim a 1 = a1 at *; generalize lim a 2 = a2 at *; generalize lim a 3 = a3 at *
 generalize lim b 0 = b0 at *; generalize lim b 1 = b1 at *; generalize lim b 2 = b2 at *; generalize lim b 3 = b3 at *
 by_cases h3 : a3 = b3
 ·subst h3
  by_cases h2 : a2 = b2
  ·subst h2
   by_cases h1 : a1 = b1
   ·subst h1
    by_cases h0 : a0 = b0
    ·subst h0
     have e : cmpI a b = 0 := by unfold cmpI; rw [if_neg (by omega), if_neg (by omega)]
     rw [e]
     exact cmp_eq a0 a1 a2 a3 w
    ·have e : cmpI a b = cmpI a0 b0 := by unfold cmpI; split <;> split <;> (try split) <;> (try split) <;> first | rfl | omega
     rw [e]
     exact cmp_0 a0 b0 a1 a2 a3 (by simpa using h0) w
   ·have e : cmpI a b = cmpI a1 b1 := by unfold cmpI; split <;> split <;> (try split) <;> (try split) <;> first | rfl | omega
    rw [e]
    exact cmp_1 a0 a1 b0 b1 a2 a3 (by simpa using h1) w
  ·have e : cmpI a b = cmpI a2 b2 := by unfold cmpI; split <;> split <;> (try split) <;> (try split) <;> first | rfl | omega
   rw [e]
   exact cmp_2 a0 a1 a2 b0 b1 b2 a3 (by simpa using h2) w
 ·have e : cmpI a b = cmpI a3 b3 := by unfold cmpI; split <;> split <;> (try split) <;> (try split) <;> first | rfl | omega
  rw [e]
  exact cmp_3 a0 a1 a2 a3 b0 b1 b2 b3 (by simpa using h3) w
end Go.Mark
set_option maxRecDepth 100000
set_option maxHeartbeats 1000000
namespace Go.Mark
open Go.RowKit Go.Proofs
def eq4 (x0 x1 x2 x3 y0 y1 y2 y3 : Int) : Bool := x0 == y0 && (x1 == y1 && (x2 == y2 && x3 == y3))
theorem u28 : TryQ.prog.underlying 41 = some (.array 4 39) := (q_underlying 41).trans Tryz.underlying41
theorem u26 : TryQ.prog.underlying 39 = some (.int .u64) := (q_underlying 39).trans Tryz.underlying39
theorem u3 : TryQ.prog.underlying 3 = some (.int .i64) := (q_underlying 3).trans Tryz.underlying3
theorem z26 (w : World) : (Go.sizeOf 39).run TryQ.prog w = .ok 1 w := (q_run_sizeOf 39 w).trans (Tryz.sizeOf39 w)
theorem parts (x0 x1 x2 x3 : Int) (w : World) : (part 39 #[.int .u64 x0, .int .u64 x1, .int .u64 x2, .int .u64 x3] 0).run TryQ.prog w = .ok (.int .u64 x0) w /\ (part 39 #[.int .u64 x0, .int .u64 x1, .int .u64 x2, .int .u64 x3] 1).run TryQ.prog w = .ok (.int .u64 x1) w /\
  (part 39 #[.int .u64 x0, .int .u64 x1, .int .u64 x2, .int .u64 x3] 2).run TryQ.prog w = .ok (.int .u64 x2) w /\ (part 39 #[.int .u64 x0, .int .u64 x1, .int .u64 x2, .int .u64 x3] 3).run TryQ.prog w = .ok (.int .u64 x3) w := by
 refine ⟨?_, ?_, ?_, ?_⟩ <;> kernel_rfl
theorem run_eq4d (d : Nat) (x0 x1 x2 x3 y0 y1 y2 y3 : Int) (w : World) :
  (Op.equalIn (d + 2) 41 (.agg #[.int .u64 x0, .int .u64 x1, .int .u64 x2, .int .u64 x3]) (.agg #[.int .u64 y0, .int .u64 y1, .int .u64 y2, .int .u64 y3])).run TryQ.prog w = .ok (eq4 x0 x1 x2 x3 y0 y1 y2 y3) w := by
 have e := fun (x y : Int) (w : World) => run_equalIn_int (P := TryQ.prog) w d 39 .u64 .u64 x y u26
 have p := parts
 unfold eq4
 rw [Op.equalIn]
 simp only [Sem.run_bind, run_underlying u28, Result.andThen_ok, z26]
 simp
 rw [show List.range' 0 4 = [0, 1, 2, 3] from rfl]
 by_cases h0 : x0 = y0 <;> by_cases h1 : x1 = y1 <;> by_cases h2 : x2 = y2 <;> by_cases h3 : x3 = y3 <;>
  simp [p, e, h0, h1, h2, h3]
theorem eq4_lim (m n : Nat) (hm : m < M) (hn : n < M) : eq4 (lim m 0) (lim m 1) (lim m 2) (lim m 3) (lim n 0) (lim n 1) (lim n 2) (lim n 3) = decide (m = n) := by
 unfold eq4
 by_cases h : m = n
 ·subst h; simp
 ·by_cases h0 : lim m 0 = lim n 0
  ·by_cases h1 : lim m 1 = lim n 1
   ·by_cases h2 : lim m 2 = lim n 2
    ·by_cases h3 : lim m 3 = lim n 3
     ·exact absurd (lim_inj m n hm hn h0 h1 h2 h3) h
     ·simp [h, h3]
    ·simp [h, h2]
   ·simp [h, h1]
  ·simp [h, h0]
theorem run_eqw (m n : Nat) (hm : m < M) (hn : n < M) (w : World) : (Op.equal 41 (wd m) (wd n)).run TryQ.prog w = .ok (decide (m = n)) w := by
 rw [<- eq4_lim m n hm hn]
 exact run_eq4d 9998 _ _ _ _ _ _ _ _ w
/-! maps as lists -/
section
variable {κ : Type} [DecidableEq κ]
def findL (k : κ) : List (κ × Value) -> Nat -> Option (Nat × Value)
 | [], _ => none
 | p :: l, i => if k = p.1 then some (i, p.2) else findL k l (i + 1)
def updL (k : κ) (v : Value) : List (κ × Value) -> List (κ × Value)
 | [] => [(k, v)]
 | p :: l => if k = p.1 then (k, v) :: l else p :: updL k v l
def Reads (kf : κ -> Value) (es : List MapEntry) (l : List (κ × Value)) : Prop := es.map (fun e => (e.key, e.val)) = l.map (fun p => (kf p.1, p.2))
def MapL (kf : κ -> Value) (w : World) (r : Nat) (l : List (κ × Value)) : Prop := ∃ es clock, w.heap[r]? = some (.map es clock) /\ Reads kf es.toList l
structure Keys (kt : TypeId) (kf : κ -> Value) (ok : κ -> Prop) : Prop where
 find : ∀ (k : κ) (es : List MapEntry) (l : List (κ × Value)) (w : World), ok k -> (∀ p ∈ l, ok p.1) -> Reads kf es l -> (Instr.findKey kt (kf k) es).run TryQ.prog w = .ok (findL k l 0) w
 chk : ∀ (e : Bool) (k : κ) (w : World), (Instr.checkKey e 10000 kt (kf k)).run TryQ.prog w = .ok () w
 bits : ∀ k : κ, Instr.sameBits 10000 (kf k) (kf k) = true
theorem findL_none {k : κ} {v : Value} : ∀ {l : List (κ × Value)} {i : Nat}, findL k l i = none -> updL k v l = l ++ [(k, v)]
 | [], _, _ => rfl
 | p :: l, i, h => by
  unfold findL at h
  split at h
  ·cases h
  ·rename_i hne
   unfold updL
   rw [if_neg hne, findL_none h]
   rfl
theorem findL_some {k : κ} {v : Value} : ∀ {l : List (κ × Value)} {i j : Nat} {x : Value}, findL k l i = some (j, x) -> ∃ a y b, l = a ++ (k, y) :: b /\ j = i + a.length /\ x = y /\ updL k v l = a ++ (k, v) :: b
 | [], _, _, _, h => by cases h
 | p :: l, i, j, x, h => by
  unfold findL at h
  split at h
  ·rename_i he
   cases h
   obtain ⟨pk, pv⟩ := p
   simp only at he
   subst he
   exact ⟨[], pv, l, rfl, rfl, rfl, by simp [updL]⟩
  ·rename_i hne
   obtain ⟨a, y, b, h1, h2, h3, h4⟩ := findL_some (v := v) h
   refine ⟨p :: a, y, b, by rw [h1]; rfl, by simp; omega, h3, ?_⟩
   unfold updL
   rw [if_neg hne, h4]
   rfl
theorem modify_mid {α : Type} (f : α -> α) (e : α) (b : List α) : ∀ a : List α, (a ++ e :: b).modify a.length f = a ++ f e :: b
 | [] => rfl
 | x :: a => by
  show (x :: (a ++ e :: b)).modify (a.length + 1) f = _
  rw [List.modify_succ_cons, modify_mid f e b a]
  rfl
theorem Reads.nil {kf : κ -> Value} {es : List MapEntry} (h : Reads kf es []) : es = [] := by
 unfold Reads at h
 cases es with
 | nil => rfl
 | cons => simp at h
theorem Reads.cons {kf : κ -> Value} {es : List MapEntry} {p : κ × Value} {l : List (κ × Value)} (h : Reads kf es (p :: l)) : ∃ e es', es = e :: es' /\ e.key = kf p.1 /\ e.val = p.2 /\ Reads kf es' l := by
 unfold Reads at h
 cases es with
 | nil => simp at h
 | cons e es' =>
  simp only [List.map_cons, List.cons.injEq, Prod.mk.injEq] at h
  exact ⟨e, es', rfl, h.1.1, h.1.2, h.2⟩
theorem Reads.length {kf : κ -> Value} {es : List MapEntry} {l : List (κ × Value)} (h : Reads kf es l) : es.length = l.length := by
 have := congrArg List.length h
 simpa using this
theorem Reads.upd {kf : κ -> Value} {k : κ} {v : Value} {l : List (κ × Value)} {j : Nat} {x : Value} (hf : findL k l 0 = some (j, x)) (es : Array MapEntry) (h : Reads kf es.toList l) : (es[j]?).map (·.key) = some (kf k) /\ Reads kf (es.modify j fun e => { e with key := kf k, val := v }).toList (updL k v l) := by
 obtain ⟨a, y, b, h1, h2, _, h4⟩ := findL_some (v := v) hf
 rw [Nat.zero_add] at h2
 subst h1 h2
 rw [h4]
 unfold Reads at h ⊢
 obtain ⟨es⟩ := es
 simp only [List.map_append, List.map_cons] at h ⊢
 obtain ⟨ea, eb, rfl, ha, hb⟩ := List.map_eq_append_iff.1 h
 obtain ⟨e, eb', rfl, he, hb'⟩ := List.map_eq_cons_iff.1 hb
 have hl : ea.length = a.length := by have := congrArg List.length ha; simpa using this
 simp only [Prod.mk.injEq] at he
 constructor
 ·simp [<- hl, he.1]
 ·simp only [List.modify_toArray, <- hl]
  rw [modify_mid]
  simp [ha, hb']
theorem Reads.push {kf : κ -> Value} {k : κ} {v : Value} {l : List (κ × Value)} (hf : findL k l 0 = none) (es : Array MapEntry) (h : Reads kf es.toList l) (n : Nat) : Reads kf (es.push { key := kf k, val := v, born := n }).toList (updL k v l) := by
 rw [findL_none hf]
 unfold Reads at h ⊢
 simp [h]
theorem run_mapUpdate {kt et mt : TypeId} {kf : κ -> Value} {ok : κ -> Prop} (K : Keys kt kf ok) (hm : TryQ.prog.underlying mt = some (.map kt et)) {w : World} {r : Nat} {l : List (κ × Value)} {k : κ} {v : Value} (hM : MapL kf w r l) (hk : ok k) (hl : ∀ p ∈ l, ok p.1) :
  ∃ es clock, (Instr.mapUpdate mt (.map (some r)) (kf k) v).run TryQ.prog w = .ok () { w with heap := w.heap.setIfInBounds r (.map es clock) } /\ MapL kf { w with heap := w.heap.setIfInBounds r (.map es clock) } r (updL k v l) := by
 obtain ⟨es, clock, hb, hR⟩ := hM
 have hf := K.find k es.toList l w hk hl hR
 have hlt : r < w.heap.size := (Array.getElem?_eq_some_iff.1 hb).1
 have hset : ∀ o : Obj, (w.heap.setIfInBounds r o)[r]? = some o := fun o => by simp [hlt]
 have hg : (getObj r).run TryQ.prog w = .ok (.map es clock) w := by simp [getObj, Sem.run, hb]
 have hs : ∀ o : Obj, (setObj r o).run TryQ.prog w = .ok () { w with heap := w.heap.setIfInBounds r o } := fun o => by simp [setObj, Sem.run, hb]
 unfold Instr.mapUpdate
 cases h : findL k l 0 with
 | none =>
  refine ⟨es.push { key := kf k, val := v, born := clock }, clock + 1, ?_, _, _, hset _, hR.push h es clock⟩
  simp [run_underlying hm, hg, hs, K.chk, hf, h]
 | some p =>
  obtain ⟨j, x⟩ := p
  obtain ⟨h1, h2⟩ := hR.upd (v := v) h es
  refine ⟨es.modify j fun e => { e with key := kf k, val := v }, clock, ?_, _, _, hset _, h2⟩
  simp [run_underlying hm, hg, hs, K.chk, hf, h, Instr.keyThatStays, h1, K.bits]
theorem run_lookup {kt et mt : TypeId} {kf : κ -> Value} {ok : κ -> Prop} (K : Keys kt kf ok) (hm : TryQ.prog.underlying mt = some (.map kt et)) {w : World} {r : Nat} {l : List (κ × Value)} {k : κ} {z : Value} (hM : MapL kf w r l) (hk : ok k) (hl : ∀ p ∈ l, ok p.1) (hz : ∀ w, (zeroValue et).run TryQ.prog w = .ok z w) :
  (Instr.lookup mt (.map (some r)) (kf k) false).run TryQ.prog w = .ok ((findL k l 0).elim z (·.2)) w := by
 obtain ⟨es, clock, hb, hR⟩ := hM
 have hf := K.find k es.toList l w hk hl hR
 have hg : (getObj r).run TryQ.prog w = .ok (.map es clock) w := by simp [getObj, Sem.run, hb]
 unfold Instr.lookup
 cases h : findL k l 0 with
 | none => simp [run_underlying hm, hg, K.chk, hf, h, hz]
 | some p => simp [run_underlying hm, hg, K.chk, hf, h]
theorem run_lenMap {mt kt et : TypeId} {kf : κ -> Value} (hm : TryQ.prog.underlying mt = some (.map kt et)) {w : World} {r : Nat} {l : List (κ × Value)} (hM : MapL kf w r l) : (Builtin.len_ #[mt] 3 #[.map (some r)]).run TryQ.prog w = .ok (.int .i64 (l.length : Int)) w := by
 obtain ⟨es, clock, hb, hR⟩ := hM
 have hg : (getObj r).run TryQ.prog w = .ok (.map es clock) w := by simp [getObj, Sem.run, hb]
 have hn : es.size = l.length := by have := hR.length; simpa using this
 simp [Builtin.len_, run_underlying hm, hg, hn, goInt]
end
theorem findNow_int (k : Int) : ∀ (es : List MapEntry) (l : List (Int × Value)) (i : Nat), Reads (fun x : Int => Value.int .i64 x) es l -> Instr.findNow (.int .i64) (.int .i64 k) es i = some (findL k l i)
 | es, [], i, h => by rw [h.nil]; rfl
 | es, p :: l, i, h => by
  obtain ⟨e, es', rfl, h1, h2, h3⟩ := h.cons
  unfold Instr.findNow findL
  simp only [h1, Instr.sameNow, if_true]
  by_cases hk : k = p.1
  ·simp [hk, h2]
  ·have : (k == p.1) = false := by simpa using hk
   simp only [this, if_neg hk]
   exact findNow_int k es' l (i + 1) h3
theorem intKeys : Keys 3 (fun x : Int => Value.int .i64 x) (fun _ => True) := by
 refine ⟨fun k es l w _ _ h => ?_, fun e k w => ?_, fun k => ?_⟩
 ·unfold Instr.findKey
  simp only [Sem.run_bind, run_underlying u3, Result.andThen_ok, findNow_int k es l 0 h]
  rfl
 ·show (Instr.checkKey e (9999 + 1) 3 (.int .i64 k)).run TryQ.prog w = _
  unfold Instr.checkKey
  simp [run_underlying u3]
 ·show Instr.sameBits (9999 + 1) (.int .i64 k) (.int .i64 k) = true
  simp [Instr.sameBits]
theorem findAsk_word (k : Nat) (hk : k < M) : ∀ (es : List MapEntry) (l : List (Nat × Value)) (i : Nat) (w : World), (∀ p ∈ l, p.1 < M) -> Reads wd es l -> (Instr.findAsking 41 (wd k) es i).run TryQ.prog w = .ok (findL k l i) w
 | es, [], i, w, _, h => by rw [h.nil]; rfl
 | es, p :: l, i, w, ho, h => by
  obtain ⟨e, es', rfl, h1, h2, h3⟩ := h.cons
  unfold Instr.findAsking findL
  have he := run_eqw k p.1 hk (ho p List.mem_cons_self) w
  simp only [Sem.run_bind, h1, he, Result.andThen_ok]
  by_cases hkp : k = p.1
  ·simp [hkp, h2]
  ·simp only [hkp, decide_false, Bool.false_eq_true, if_false]
   exact findAsk_word k hk es' l (i + 1) w (fun q hq => ho q (List.mem_cons_of_mem _ hq)) h3
theorem wordKeys : Keys 41 wd (· < M) := by
 refine ⟨fun k es l w hk ho h => ?_, fun e k w => ?_, fun k => ?_⟩
 ·unfold Instr.findKey
  simp only [Sem.run_bind, run_underlying u28, Result.andThen_ok]
  cases es with
  | nil =>
   cases l with
   | nil => rfl
   | cons p l => obtain ⟨_, _, h, _⟩ := h.cons; cases h
  | cons x es =>
   have : Instr.findNow (.array 4 39) (wd k) (x :: es) 0 = none := by simp [Instr.findNow, Instr.sameNow]
   rw [this]
   exact findAsk_word k hk _ l 0 w ho h
 ·show (Instr.checkKey e (9999 + 1) 41 (wd k)).run TryQ.prog w = _
  have c26 : ∀ (x : Int) (w : World), (Instr.checkKey e 9999 39 (.int .u64 x)).run TryQ.prog w = .ok () w := fun x w => by
   show (Instr.checkKey e (9998 + 1) 39 (.int .u64 x)).run TryQ.prog w = _
   unfold Instr.checkKey
   simp [run_underlying u26]
  have p := parts
  unfold Instr.checkKey
  simp only [Sem.run_bind, run_underlying u28, Result.andThen_ok]
  simp
  rw [show List.range' 0 4 = [0, 1, 2, 3] from rfl]
  simp [p, c26]
 ·show Instr.sameBits (9999 + 1) (wd k) (wd k) = true
  simp [Instr.sameBits]
end Go.Mark
set_option maxRecDepth 100000
set_option maxHeartbeats 1000000
namespace Go.Mark
open Go.RowKit Go.Proofs
structure Only (w w' : World) (b lo hi : Nat) : Prop where
 os : w'.os = w.os
 tape : w'.tape = w.tape
 output : w'.output = w.output
 size : w'.heap.size = w.heap.size
 block : ∀ k, k ≠ b -> w'.heap[k]? = w.heap[k]?
 cell : ∀ o, o < lo \/ hi <= o -> w'.cell? ⟨b, o, none⟩ = w.cell? ⟨b, o, none⟩
 frozen : ∀ o, w'.frozen? ⟨b, o, none⟩ = w.frozen? ⟨b, o, none⟩
theorem Only.refl (w : World) (b lo hi : Nat) : Only w w b lo hi := ⟨rfl, rfl, rfl, rfl, fun _ _ => rfl, fun _ _ => rfl, fun _ => rfl⟩
end Go.Mark
