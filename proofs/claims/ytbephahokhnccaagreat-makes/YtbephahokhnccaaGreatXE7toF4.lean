/-
  Laying: slices.SortFunc at words, at the stripped program.
-/
import Derived.Shelf.SlSortCmp.WholeK
import Derived.Shelf.SlGeneric
import Derived.Test.YtbephahokhnccaaGreatXE3toE5
import Derived.RowKit
import Derived.WalkKit
import Derived.WalkSpells
import Derived.WalkLawsBesides
import Derived.Laws.Externs
import Derived.Shelf.Spec.BitsCarry
import Derived.Deep.RegionHeld3
import Derived.Deep.QuietTactic
import Derived.BigQuiet
import Derived.Deep.RegionWith
import Derived.Handy
set_option linter.unusedSectionVars false
namespace Go.Proofs
open Go.Mark Go.RowKit Go.Sort Go.Shelf
def TryQ.sortW_ren : Go.Shelf.Ren := ⟨fun | 6 => 89 | 15 => 63 | 14 => 102 | 28 => 86 | 29 => 87 | 20 => 105 | 21 => 106 | 22 => 107 | 23 => 108 | 24 => 109 | 25 => 110 | 26 => 111 | 27 => 112 | 46 => 113 | 47 => 96 | 48 => 97 | 49 => 114 | 50 => 115 | 57 => 116 | n => n, fun | 22 => 142 | 24 => 28 | 25 => 147 | 3 => 3 | 39 => 129 | 0 => 0 | 53 => 114 | 55 => 26 | 4 => 4 | 46 => 160 | 45 => 159 | 50 => 165 | 5 => 5 | 9 => 9 | 66 => 175 | 70 => 178 | 76 => 183 | 77 => 184 | n => n, fun | n => n⟩
theorem TryQ.sortW : Go.Proofs.SlLaysF0.n6 TryQ.prog TryQ.sortW_ren where
  mixed := by kernel_rfl
  f6 := ⟨ "slices.SortFunc[[]purser/api.Word,purser/api.Word]", by decide, TryQ.func89.trans (congrArg some (by kernel_rfl))⟩
  f14 := ⟨ "slices.pdqsortCmpFunc[purser/api.Word]", by decide, TryQ.func102.trans (congrArg some (by kernel_rfl))⟩
  f15 := TryQ.func63.trans (congrArg some (by kernel_rfl))
  f20 := ⟨ "slices.insertionSortCmpFunc[purser/api.Word]", by decide, TryQ.func105.trans (congrArg some (by kernel_rfl))⟩
  f21 := ⟨ "slices.heapSortCmpFunc[purser/api.Word]", by decide, TryQ.func106.trans (congrArg some (by kernel_rfl))⟩
  f22 := ⟨ "slices.breakPatternsCmpFunc[purser/api.Word]", by decide, TryQ.func107.trans (congrArg some (by kernel_rfl))⟩
  f23 := ⟨ "slices.choosePivotCmpFunc[purser/api.Word]", by decide, TryQ.func108.trans (congrArg some (by kernel_rfl))⟩
  f24 := ⟨ "slices.reverseRangeCmpFunc[purser/api.Word]", by decide, TryQ.func109.trans (congrArg some (by kernel_rfl))⟩
  f25 := ⟨ "slices.partialInsertionSortCmpFunc[purser/api.Word]", by decide, TryQ.func110.trans (congrArg some (by kernel_rfl))⟩
  f26 := ⟨ "slices.partitionEqualCmpFunc[purser/api.Word]", by decide, TryQ.func111.trans (congrArg some (by kernel_rfl))⟩
  f27 := ⟨ "slices.partitionCmpFunc[purser/api.Word]", by decide, TryQ.func112.trans (congrArg some (by kernel_rfl))⟩
  f28 := TryQ.func86.trans (congrArg some (by kernel_rfl))
  f29 := TryQ.func87.trans (congrArg some (by kernel_rfl))
  f46 := ⟨ "slices.siftDownCmpFunc[purser/api.Word]", by decide, TryQ.func113.trans (congrArg some (by kernel_rfl))⟩
  f47 := TryQ.func96.trans (congrArg some (by kernel_rfl))
  f48 := TryQ.func97.trans (congrArg some (by kernel_rfl))
  f49 := ⟨ "slices.medianAdjacentCmpFunc[purser/api.Word]", by decide, TryQ.func114.trans (congrArg some (by kernel_rfl))⟩
  f50 := ⟨ "slices.medianCmpFunc[purser/api.Word]", by decide, TryQ.func115.trans (congrArg some (by kernel_rfl))⟩
  f57 := ⟨ "slices.order2CmpFunc[purser/api.Word]", by decide, TryQ.func116.trans (congrArg some (by kernel_rfl))⟩
  t0 := (q_underlying 0).trans Tryz.underlying0
  a0 := fun w => (q_run_isAgg 0 w).trans (Tryz.isAgg0 w)
  z0 := fun w => (q_run_sizeOf 0 w).trans (Tryz.sizeOf0 w)
  v0 := fun w => (q_run_zeroValue 0 w).trans (Tryz.zeroValue0 w)
  t3 := (q_underlying 3).trans Tryz.underlying3
  a3 := fun w => (q_run_isAgg 3 w).trans (Tryz.isAgg3 w)
  z3 := fun w => (q_run_sizeOf 3 w).trans (Tryz.sizeOf3 w)
  v3 := fun w => (q_run_zeroValue 3 w).trans (Tryz.zeroValue3 w)
  t4 := (q_underlying 4).trans Tryz.underlying4
  a4 := fun w => (q_run_isAgg 4 w).trans (Tryz.isAgg4 w)
  z4 := fun w => (q_run_sizeOf 4 w).trans (Tryz.sizeOf4 w)
  v4 := fun w => (q_run_zeroValue 4 w).trans (Tryz.zeroValue4 w)
  t5 := (q_underlying 5).trans Tryz.underlying5
  a5 := fun w => (q_run_isAgg 5 w).trans (Tryz.isAgg5 w)
  z5 := fun w => (q_run_sizeOf 5 w).trans (Tryz.sizeOf5 w)
  v5 := fun w => (q_run_zeroValue 5 w).trans (Tryz.zeroValue5 w)
  t9 := (q_underlying 9).trans Tryz.underlying9
  a9 := fun w => (q_run_isAgg 9 w).trans (Tryz.isAgg9 w)
  z9 := fun w => (q_run_sizeOf 9 w).trans (Tryz.sizeOf9 w)
  v9 := fun w => (q_run_zeroValue 9 w).trans (Tryz.zeroValue9 w)
  t22 := (q_underlying 142).trans Tryz.underlying142
  a22 := fun w => (q_run_isAgg 142 w).trans (Tryz.isAgg142 w)
  z22 := fun w => (q_run_sizeOf 142 w).trans (Tryz.sizeOf142 w)
  v22 := fun w => (q_run_zeroValue 142 w).trans (Tryz.zeroValue142 w)
  t25 := (q_underlying 147).trans Tryz.underlying147
  a25 := fun w => (q_run_isAgg 147 w).trans (Tryz.isAgg147 w)
  z25 := fun w => (q_run_sizeOf 147 w).trans (Tryz.sizeOf147 w)
  v25 := fun w => (q_run_zeroValue 147 w).trans (Tryz.zeroValue147 w)
  t39 := (q_underlying 129).trans Tryz.underlying129
  a39 := fun w => (q_run_isAgg 129 w).trans (Tryz.isAgg129 w)
  z39 := fun w => (q_run_sizeOf 129 w).trans (Tryz.sizeOf129 w)
  v39 := fun w => (q_run_zeroValue 129 w).trans (Tryz.zeroValue129 w)
  t45 := (q_underlying 159).trans Tryz.underlying159
  a45 := fun w => (q_run_isAgg 159 w).trans (Tryz.isAgg159 w)
  z45 := fun w => (q_run_sizeOf 159 w).trans (Tryz.sizeOf159 w)
  v45 := fun w => (q_run_zeroValue 159 w).trans (Tryz.zeroValue159 w)
  t46 := (q_underlying 160).trans Tryz.underlying160
  a46 := fun w => (q_run_isAgg 160 w).trans (Tryz.isAgg160 w)
  z46 := fun w => (q_run_sizeOf 160 w).trans (Tryz.sizeOf160 w)
  v46 := fun w => (q_run_zeroValue 160 w).trans (Tryz.zeroValue160 w)
  t50 := (q_underlying 165).trans Tryz.underlying165
  a50 := fun w => (q_run_isAgg 165 w).trans (Tryz.isAgg165 w)
  z50 := fun w => (q_run_sizeOf 165 w).trans (Tryz.sizeOf165 w)
  v50 := fun w => (q_run_zeroValue 165 w).trans (Tryz.zeroValue165 w)
  t53 := (q_underlying 114).trans Tryz.underlying114
  a53 := fun w => (q_run_isAgg 114 w).trans (Tryz.isAgg114 w)
  z53 := fun w => (q_run_sizeOf 114 w).trans (Tryz.sizeOf114 w)
  v53 := fun w => (q_run_zeroValue 114 w).trans (Tryz.zeroValue114 w)
  t55 := (q_underlying 26).trans Tryz.underlying26
  a55 := fun w => (q_run_isAgg 26 w).trans (Tryz.isAgg26 w)
  z55 := fun w => (q_run_sizeOf 26 w).trans (Tryz.sizeOf26 w)
  v55 := fun w => (q_run_zeroValue 26 w).trans (Tryz.zeroValue26 w)
  t66 := (q_underlying 175).trans Tryz.underlying175
  a66 := fun w => (q_run_isAgg 175 w).trans (Tryz.isAgg175 w)
  z66 := fun w => (q_run_sizeOf 175 w).trans (Tryz.sizeOf175 w)
  v66 := fun w => (q_run_zeroValue 175 w).trans (Tryz.zeroValue175 w)
  t70 := (q_underlying 178).trans Tryz.underlying178
  a70 := fun w => (q_run_isAgg 178 w).trans (Tryz.isAgg178 w)
  z70 := fun w => (q_run_sizeOf 178 w).trans (Tryz.sizeOf178 w)
  v70 := fun w => (q_run_zeroValue 178 w).trans (Tryz.zeroValue178 w)
  t76 := (q_underlying 183).trans Tryz.underlying183
  a76 := fun w => (q_run_isAgg 183 w).trans (Tryz.isAgg183 w)
  z76 := fun w => (q_run_sizeOf 183 w).trans (Tryz.sizeOf183 w)
  v76 := fun w => (q_run_zeroValue 183 w).trans (Tryz.zeroValue183 w)
  t77 := (q_underlying 184).trans Tryz.underlying184
  a77 := fun w => (q_run_isAgg 184 w).trans (Tryz.isAgg184 w)
  z77 := fun w => (q_run_sizeOf 184 w).trans (Tryz.sizeOf184 w)
  v77 := fun w => (q_run_zeroValue 184 w).trans (Tryz.zeroValue184 w)
end Go.Proofs
/-
 Plain arithmetic of words of four parts: no program in sight.
-/
namespace Go.Mark
/-- 2^256. -/
def M : Nat := 115792089237316195423570985008687907853269984665640564039457584007913129639936
/-- The i-th part of a number. -/
def lim (n i : Nat) : Int := ((n / 18446744073709551616 ^ i % 18446744073709551616 : Nat) : Int)
/-- A number as a word. -/
abbrev wd (n : Nat) : Value := .agg #[.int .u64 (lim n 0), .int .u64 (lim n 1), .int .u64 (lim n 2), .int .u64 (lim n 3)]
theorem lim_nn (n i : Nat) : 0 ≤ lim n i := Int.natCast_nonneg _
theorem lim_lt (n i : Nat) : lim n i < 18446744073709551616 := by
 have := Nat.mod_lt (n / 18446744073709551616 ^ i) (y := 18446744073709551616) (by decide)
 unfold lim; omega
theorem lim_sum (n : Nat) (h : n < M) : (n : Int) = lim n 0 + lim n 1 * 18446744073709551616 + lim n 2 * 340282366920938463463374607431768211456 + lim n 3 * 6277101735386680763835789423207666416102355444464034512896 := by
 unfold lim M at *
 simp only [Nat.pow_zero, Nat.pow_one, Nat.div_one, Nat.reducePow]
 omega
/-- What has these four parts is this number. -/
theorem lim_of (n : Nat) (x0 x1 x2 x3 : Int) (a0 : 0 ≤ x0) (a1 : 0 ≤ x1) (a2 : 0 ≤ x2) (a3 : 0 ≤ x3) (b0 : x0 < 18446744073709551616) (b1 : x1 < 18446744073709551616) (b2 : x2 < 18446744073709551616) (b3 : x3 < 18446744073709551616)
  (h : (n : Int) = x0 + x1 * 18446744073709551616 + x2 * 340282366920938463463374607431768211456 + x3 * 6277101735386680763835789423207666416102355444464034512896) :
  lim n 0 = x0 ∧ lim n 1 = x1 ∧ lim n 2 = x2 ∧ lim n 3 = x3 := by
 unfold lim
 simp only [Nat.pow_zero, Nat.pow_one, Nat.div_one, Nat.reducePow]
 refine ⟨by omega, by omega, by omega, by omega⟩
/-- Four parts are a word. -/
theorem wd_of (x0 x1 x2 x3 : Int) (a0 : 0 ≤ x0) (a1 : 0 ≤ x1) (a2 : 0 ≤ x2) (a3 : 0 ≤ x3) (b0 : x0 < 18446744073709551616) (b1 : x1 < 18446744073709551616) (b2 : x2 < 18446744073709551616) (b3 : x3 < 18446744073709551616) :
  ∃ n : Nat, n < M ∧ lim n 0 = x0 ∧ lim n 1 = x1 ∧ lim n 2 = x2 ∧ lim n 3 = x3 := by
 refine ⟨(x0 + x1 * 18446744073709551616 + x2 * 340282366920938463463374607431768211456 + x3 * 6277101735386680763835789423207666416102355444464034512896).toNat, by unfold M; omega, lim_of _ x0 x1 x2 x3 a0 a1 a2 a3 b0 b1 b2 b3 (by omega)⟩
/-- Two words of the same parts are one number. -/
theorem lim_inj (m n : Nat) (hm : m < M) (hn : n < M) (h0 : lim m 0 = lim n 0) (h1 : lim m 1 = lim n 1) (h2 : lim m 2 = lim n 2) (h3 : lim m 3 = lim n 3) : m = n := by
 have a := lim_sum m hm
 have b := lim_sum n hn
 rw [h0, h1, h2, h3, ← b] at a
 omega
def aL (x y c : Int) : Int := (x + y + c) % 18446744073709551616
def aH (x y c : Int) : Int := (x + y + c) / 18446744073709551616
theorem aL0 (x y c : Int) : 0 ≤ aL x y c := by unfold aL; omega
theorem aL1 (x y c : Int) : aL x y c < 18446744073709551616 := by unfold aL; omega
theorem aH0 (x y c : Int) (hx : 0 ≤ x) (hy : 0 ≤ y) (hc : 0 ≤ c) : 0 ≤ aH x y c := by unfold aH; omega
theorem aH1 (x y c : Int) (hx : x < 18446744073709551616) (hy : y < 18446744073709551616) (hc : c ≤ 1) : aH x y c ≤ 1 := by unfold aH; omega
theorem aE (x y c : Int) : x + y + c = aL x y c + aH x y c * 18446744073709551616 := by unfold aL aH; omega
def sL (x y c : Int) : Int := (x - y - c) % 18446744073709551616
def sH (x y c : Int) : Int := if x < y + c then 1 else 0
/-- The sum, part by part. -/
theorem sum_lim (a b : Nat) (ha : a < M) (hb : b < M) :
  lim ((a + b) % M) 0 = aL (lim a 0) (lim b 0) 0 ∧ lim ((a + b) % M) 1 = aL (lim a 1) (lim b 1) (aH (lim a 0) (lim b 0) 0) ∧
  lim ((a + b) % M) 2 = aL (lim a 2) (lim b 2) (aH (lim a 1) (lim b 1) (aH (lim a 0) (lim b 0) 0)) ∧
  lim ((a + b) % M) 3 = aL (lim a 3) (lim b 3) (aH (lim a 2) (lim b 2) (aH (lim a 1) (lim b 1) (aH (lim a 0) (lim b 0) 0))) ∧
  (((a + b) / M : Nat) : Int) = aH (lim a 3) (lim b 3) (aH (lim a 2) (lim b 2) (aH (lim a 1) (lim b 1) (aH (lim a 0) (lim b 0) 0))) := by
 have sa := lim_sum a ha; have sb := lim_sum b hb
 have e0 := aE (lim a 0) (lim b 0) 0
 have e1 := aE (lim a 1) (lim b 1) (aH (lim a 0) (lim b 0) 0)
 have e2 := aE (lim a 2) (lim b 2) (aH (lim a 1) (lim b 1) (aH (lim a 0) (lim b 0) 0))
 have e3 := aE (lim a 3) (lim b 3) (aH (lim a 2) (lim b 2) (aH (lim a 1) (lim b 1) (aH (lim a 0) (lim b 0) 0)))
 have l0 := aL0 (lim a 0) (lim b 0) 0; have u0 := aL1 (lim a 0) (lim b 0) 0
 have l1 := aL0 (lim a 1) (lim b 1) (aH (lim a 0) (lim b 0) 0); have u1 := aL1 (lim a 1) (lim b 1) (aH (lim a 0) (lim b 0) 0)
 have l2 := aL0 (lim a 2) (lim b 2) (aH (lim a 1) (lim b 1) (aH (lim a 0) (lim b 0) 0)); have u2 := aL1 (lim a 2) (lim b 2) (aH (lim a 1) (lim b 1) (aH (lim a 0) (lim b 0) 0))
 have l3 := aL0 (lim a 3) (lim b 3) (aH (lim a 2) (lim b 2) (aH (lim a 1) (lim b 1) (aH (lim a 0) (lim b 0) 0))); have u3 := aL1 (lim a 3) (lim b 3) (aH (lim a 2) (lim b 2) (aH (lim a 1) (lim b 1) (aH (lim a 0) (lim b 0) 0)))
 generalize aH (lim a 3) (lim b 3) (aH (lim a 2) (lim b 2) (aH (lim a 1) (lim b 1) (aH (lim a 0) (lim b 0) 0))) = c3 at *
 generalize aL (lim a 3) (lim b 3) (aH (lim a 2) (lim b 2) (aH (lim a 1) (lim b 1) (aH (lim a 0) (lim b 0) 0))) = s3 at *
 generalize aL (lim a 2) (lim b 2) (aH (lim a 1) (lim b 1) (aH (lim a 0) (lim b 0) 0)) = s2 at *
 generalize aH (lim a 2) (lim b 2) (aH (lim a 1) (lim b 1) (aH (lim a 0) (lim b 0) 0)) = c2 at *
 generalize aL (lim a 1) (lim b 1) (aH (lim a 0) (lim b 0) 0) = s1 at *
 generalize aH (lim a 1) (lim b 1) (aH (lim a 0) (lim b 0) 0) = c1 at *
 generalize aL (lim a 0) (lim b 0) 0 = s0 at *
 generalize aH (lim a 0) (lim b 0) 0 = c0 at *
 have tot : ((a + b : Nat) : Int) = s0 + s1 * 18446744073709551616 + s2 * 340282366920938463463374607431768211456 + s3 * 6277101735386680763835789423207666416102355444464034512896 + c3 * 115792089237316195423570985008687907853269984665640564039457584007913129639936 := by omega
 clear sa sb e0 e1 e2 e3
 have hm : (((a + b) % M : Nat) : Int) = s0 + s1 * 18446744073709551616 + s2 * 340282366920938463463374607431768211456 + s3 * 6277101735386680763835789423207666416102355444464034512896 := by unfold M; omega
 have hd : (((a + b) / M : Nat) : Int) = c3 := by unfold M; omega
 obtain ⟨h0, h1, h2, h3⟩ := lim_of _ s0 s1 s2 s3 l0 l1 l2 l3 u0 u1 u2 u3 hm
 exact ⟨h0, h1, h2, h3, hd⟩
end Go.Mark
/-
 number.Sum and number.Compare at the stripped program.
-/
namespace Go.Mark
open Go.RowKit Go.Shelf Go.Proofs
attribute [local go_sem] wd
theorem add64 (x y c : Int) (hx : 0 ≤ x) (hy : 0 ≤ y) (hc0 : 0 ≤ c) (hc : c ≤ 1) (w : World) : (callFunc 45 #[.int .u64 x, .int .u64 y, .int .u64 c]).run TryQ.prog w =
  .ok (.value (.tuple #[.int .u64 ((x + y + c) % 18446744073709551616), .int .u64 ((x + y + c) / 18446744073709551616)])) w := by
 rw [run_callFunc_extern TryQ.func45 (by kernel_rfl) (by kernel_rfl) (by kernel_rfl) (e := add64Entry) (by kernel_rfl), run_add64 x y c hx hy hc0 hc]
 rfl
set_option maxRecDepth 100000 in
set_option maxHeartbeats 1000000 in
theorem addN64 (x y c : Int) (hx : 0 ≤ x) (hy : 0 ≤ y) (hc0 : 0 ≤ c) (hc : c ≤ 1) : ∀ w, (callFunc 45 #[.int .u64 x, .int .u64 y, .int .u64 c]).run TryQ.prog w =
  .ok (.value (.tuple #[.int .u64 (aL x y c), .int .u64 (aH x y c)])) w := fun w => add64 x y c hx hy hc0 hc w
set_option maxRecDepth 100000 in
set_option maxHeartbeats 1000000 in
theorem below4 (w : World) (o1 o2 o3 o4 : Obj) : Below w.heap.size w ((((w.alloc o1).alloc o2).alloc o3).alloc o4) :=
 ((((Below.refl _ _).alloc (Nat.le_refl _) _).alloc (by simp) _).alloc (by simp; omega) _).alloc (by simp; omega) _
set_option maxRecDepth 100000 in
set_option maxHeartbeats 1000000 in
theorem below3 (w : World) (o1 o2 o3 : Obj) : Below w.heap.size w (((w.alloc o1).alloc o2).alloc o3) :=
 (((Below.refl _ _).alloc (Nat.le_refl _) _).alloc (by simp) _).alloc (by simp; omega) _
set_option maxRecDepth 100000 in
set_option maxHeartbeats 1000000 in
theorem sum_l (a0 a1 a2 a3 b0 b1 b2 b3 : Int) (w : World)
  (p0 : 0 ≤ a0) (p1 : 0 ≤ a1) (p2 : 0 ≤ a2) (p3 : 0 ≤ a3) (q0 : 0 ≤ b0) (q1 : 0 ≤ b1) (q2 : 0 ≤ b2) (q3 : 0 ≤ b3)
  (u0 : a0 < 18446744073709551616) (u1 : a1 < 18446744073709551616) (u2 : a2 < 18446744073709551616)
  (v0 : b0 < 18446744073709551616) (v1 : b1 < 18446744073709551616) (v2 : b2 < 18446744073709551616) :
  Calls TryQ.prog 35 #[.agg #[.int .u64 a0, .int .u64 a1, .int .u64 a2, .int .u64 a3], .agg #[.int .u64 b0, .int .u64 b1, .int .u64 b2, .int .u64 b3]] w fun e w' =>
   e = .returned (.tuple #[.agg #[.int .u64 (aL a0 b0 0), .int .u64 (aL a1 b1 (aH a0 b0 0)), .int .u64 (aL a2 b2 (aH a1 b1 (aH a0 b0 0))), .int .u64 (aL a3 b3 (aH a2 b2 (aH a1 b1 (aH a0 b0 0))))], .int .u64 (aH a3 b3 (aH a2 b2 (aH a1 b1 (aH a0 b0 0))))]) ∧ Below w.heap.size w w' := by
 have f0 := addN64 a0 b0 0 p0 q0 (Int.le_refl 0) (by decide)
 have k0 := aH0 a0 b0 0 p0 q0 (Int.le_refl 0)
 have m0 := aH1 a0 b0 0 u0 v0 (by decide)
 have f1 := addN64 a1 b1 _ p1 q1 k0 m0
 have k1 := aH0 a1 b1 _ p1 q1 k0
 have m1 := aH1 a1 b1 _ u1 v1 m0
 have f2 := addN64 a2 b2 _ p2 q2 k1 m1
 have k2 := aH0 a2 b2 _ p2 q2 k1
 have m2 := aH1 a2 b2 _ u2 v2 m1
 have f3 := addN64 a3 b3 _ p3 q3 k2 m2
 clear u0 u1 u2 v0 v1 v2 p0 p1 p2 p3 q0 q1 q2 q3 k0 k1 k2 m0 m1 m2
 go_enter TryQ.func35, Tryz.ntmps35
 go_wp2
 refine wp_loop_rounds 5 ?_
 rw [rounds_succ]
 go_wp2
 go_region
 go_wp2
 rw [rounds_succ]
 go_wp2
 go_region
 go_wp2
 rw [rounds_succ]
 go_wp2
 go_region
 go_wp2
 rw [rounds_succ]
 go_wp2
 go_region
 go_wp2
 rw [rounds_succ]
 go_wp2
 simp [bodyPost, results, Tryz.results35, go_sem]
 exact (below4 _ _ _ _ _).drew.drew.drew.drew
set_option maxRecDepth 100000 in
set_option maxHeartbeats 1000000 in
theorem sum (a b : Nat) (ha : a < M) (hb : b < M) (w : World) :
  Calls TryQ.prog 35 #[wd a, wd b] w fun e w' => e = .returned (.tuple #[wd ((a + b) % M), .int .u64 (((a + b) / M : Nat) : Int)]) ∧ Below w.heap.size w w' := by
 refine (sum_l _ _ _ _ _ _ _ _ w (lim_nn a 0) (lim_nn a 1) (lim_nn a 2) (lim_nn a 3) (lim_nn b 0) (lim_nn b 1) (lim_nn b 2) (lim_nn b 3)
  (lim_lt a 0) (lim_lt a 1) (lim_lt a 2) (lim_lt b 0) (lim_lt b 1) (lim_lt b 2)).mono fun e w' ⟨he, hb'⟩ => ?_
 obtain ⟨h0, h1, h2, h3, h4⟩ := sum_lim a b ha hb
 unfold wd
 rw [h0, h1, h2, h3, h4]
 exact ⟨he, hb'⟩
def cmpI (x y : Int) : Int := if x < y then -1 else if y < x then 1 else 0
set_option maxRecDepth 100000 in
set_option maxHeartbeats 1000000 in
theorem cmp64 (x y : Int) (w : World) : Calls TryQ.prog 91 #[.int .u64 x, .int .u64 y] w fun e w' => e = .returned (.int .i64 (cmpI x y)) ∧ w' = w := by
 by_cases h : x < y
 ·have hc : cmpI x y = -1 := by unfold cmpI; rw [if_pos h]
  rw [hc]; clear hc
  go_enter TryQ.func91, Tryz.ntmps91
  go_wp2
  go_ret
  exact ⟨rfl, rfl⟩
 ·by_cases h2 : y < x
  ·have hc : cmpI x y = 1 := by unfold cmpI; rw [if_neg h, if_pos h2]
   rw [hc]; clear hc
   go_enter TryQ.func91, Tryz.ntmps91
   go_wp2
   go_ret
   exact ⟨rfl, rfl⟩
  ·have hc : cmpI x y = 0 := by unfold cmpI; rw [if_neg h, if_neg h2]
   rw [hc]; clear hc
   go_enter TryQ.func91, Tryz.ntmps91
   go_wp2
   go_ret
   exact ⟨rfl, rfl⟩
end Go.Mark
/-
 '==' of two words; maps keyed by ints and by words, as lists.
-/
namespace Go.Mark
open Go.RowKit Go.Proofs
def eq4 (x0 x1 x2 x3 y0 y1 y2 y3 : Int) : Bool := x0 == y0 && (x1 == y1 && (x2 == y2 && x3 == y3))
theorem u28 : TryQ.prog.underlying 28 = some (.array 4 26) := (q_underlying 28).trans Tryz.underlying28
theorem u26 : TryQ.prog.underlying 26 = some (.int .u64) := (q_underlying 26).trans Tryz.underlying26
theorem u3 : TryQ.prog.underlying 3 = some (.int .i64) := (q_underlying 3).trans Tryz.underlying3
theorem z26 (w : World) : (Go.sizeOf 26).run TryQ.prog w = .ok 1 w := (q_run_sizeOf 26 w).trans (Tryz.sizeOf26 w)
set_option maxRecDepth 100000 in
theorem parts (x0 x1 x2 x3 : Int) (w : World) : (part 26 #[.int .u64 x0, .int .u64 x1, .int .u64 x2, .int .u64 x3] 0).run TryQ.prog w = .ok (.int .u64 x0) w ∧ (part 26 #[.int .u64 x0, .int .u64 x1, .int .u64 x2, .int .u64 x3] 1).run TryQ.prog w = .ok (.int .u64 x1) w ∧
  (part 26 #[.int .u64 x0, .int .u64 x1, .int .u64 x2, .int .u64 x3] 2).run TryQ.prog w = .ok (.int .u64 x2) w ∧ (part 26 #[.int .u64 x0, .int .u64 x1, .int .u64 x2, .int .u64 x3] 3).run TryQ.prog w = .ok (.int .u64 x3) w := by
 refine ⟨?_, ?_, ?_, ?_⟩ <;> kernel_rfl
set_option maxRecDepth 100000 in
set_option maxHeartbeats 1000000 in
theorem run_eq4d (d : Nat) (x0 x1 x2 x3 y0 y1 y2 y3 : Int) (w : World) :
  (Op.equalIn (d + 2) 28 (.agg #[.int .u64 x0, .int .u64 x1, .int .u64 x2, .int .u64 x3]) (.agg #[.int .u64 y0, .int .u64 y1, .int .u64 y2, .int .u64 y3])).run TryQ.prog w = .ok (eq4 x0 x1 x2 x3 y0 y1 y2 y3) w := by
 have e := fun (x y : Int) (w : World) => run_equalIn_int (P := TryQ.prog) w d 26 .u64 .u64 x y u26
 have p := parts
 unfold eq4
 rw [Op.equalIn]
 simp only [Sem.run_bind, run_underlying u28, Result.andThen_ok, z26]
 simp
 rw [show List.range' 0 4 = [0, 1, 2, 3] from rfl]
 by_cases h0 : x0 = y0 <;> by_cases h1 : x1 = y1 <;> by_cases h2 : x2 = y2 <;> by_cases h3 : x3 = y3 <;>
  simp [p, e, h0, h1, h2, h3]
theorem eq4_lim (m n : Nat) (hm : m < M) (hn : n < M) : eq4 (lim m 0) (lim m 1) (lim m 2) (lim m 3) (lim n 0) (lim n 1) (lim n 2) (lim n 3) = decide (m = n) := by
 unfold eq4
 by_cases h : m = n
 ·subst h; simp
 ·by_cases h0 : lim m 0 = lim n 0
  ·by_cases h1 : lim m 1 = lim n 1
   ·by_cases h2 : lim m 2 = lim n 2
    ·by_cases h3 : lim m 3 = lim n 3
     ·exact absurd (lim_inj m n hm hn h0 h1 h2 h3) h
     ·simp [h, h3]
    ·simp [h, h2]
   ·simp [h, h1]
  ·simp [h, h0]
theorem run_eqw (m n : Nat) (hm : m < M) (hn : n < M) (w : World) : (Op.equal 28 (wd m) (wd n)).run TryQ.prog w = .ok (decide (m = n)) w := by
 rw [← eq4_lim m n hm hn]
 exact run_eq4d 9998 _ _ _ _ _ _ _ _ w
/-! maps as lists -/
section
variable {κ : Type} [DecidableEq κ]
def findL (k : κ) : List (κ × Value) → Nat → Option (Nat × Value)
 | [], _ => none
 | p :: l, i => if k = p.1 then some (i, p.2) else findL k l (i + 1)
def updL (k : κ) (v : Value) : List (κ × Value) → List (κ × Value)
 | [] => [(k, v)]
 | p :: l => if k = p.1 then (k, v) :: l else p :: updL k v l
/-- the entries read as this list -/
def Reads (kf : κ → Value) (es : List MapEntry) (l : List (κ × Value)) : Prop := es.map (fun e => (e.key, e.val)) = l.map (fun p => (kf p.1, p.2))
/-- block r is a map that reads as this list -/
def MapL (kf : κ → Value) (w : World) (r : Nat) (l : List (κ × Value)) : Prop := ∃ es clock, w.heap[r]? = some (.map es clock) ∧ Reads kf es.toList l
/-- what is asked of a kind of keys -/
structure Keys (kt : TypeId) (kf : κ → Value) (ok : κ → Prop) : Prop where
 find : ∀ (k : κ) (es : List MapEntry) (l : List (κ × Value)) (w : World), ok k → (∀ p ∈ l, ok p.1) → Reads kf es l → (Instr.findKey kt (kf k) es).run TryQ.prog w = .ok (findL k l 0) w
 chk : ∀ (e : Bool) (k : κ) (w : World), (Instr.checkKey e 10000 kt (kf k)).run TryQ.prog w = .ok () w
 bits : ∀ k : κ, Instr.sameBits 10000 (kf k) (kf k) = true
theorem findL_none {k : κ} {v : Value} : ∀ {l : List (κ × Value)} {i : Nat}, findL k l i = none → updL k v l = l ++ [(k, v)]
 | [], _, _ => rfl
 | p :: l, i, h => by
  unfold findL at h
  split at h
  ·cases h
  ·rename_i hne
   unfold updL
   rw [if_neg hne, findL_none h]
   rfl
theorem findL_some {k : κ} {v : Value} : ∀ {l : List (κ × Value)} {i j : Nat} {x : Value}, findL k l i = some (j, x) → ∃ a y b, l = a ++ (k, y) :: b ∧ j = i + a.length ∧ x = y ∧ updL k v l = a ++ (k, v) :: b
 | [], _, _, _, h => by cases h
 | p :: l, i, j, x, h => by
  unfold findL at h
  split at h
  ·rename_i he
   cases h
   obtain ⟨pk, pv⟩ := p
   simp only at he
   subst he
   exact ⟨[], pv, l, rfl, rfl, rfl, by simp [updL]⟩
  ·rename_i hne
   obtain ⟨a, y, b, h1, h2, h3, h4⟩ := findL_some (v := v) h
   refine ⟨p :: a, y, b, by rw [h1]; rfl, by simp; omega, h3, ?_⟩
   unfold updL
   rw [if_neg hne, h4]
   rfl
theorem modify_mid {α : Type} (f : α → α) (e : α) (b : List α) : ∀ a : List α, (a ++ e :: b).modify a.length f = a ++ f e :: b
 | [] => rfl
 | x :: a => by
  show (x :: (a ++ e :: b)).modify (a.length + 1) f = _
  rw [List.modify_succ_cons, modify_mid f e b a]
  rfl
theorem Reads.nil {kf : κ → Value} {es : List MapEntry} (h : Reads kf es []) : es = [] := by
 unfold Reads at h
 cases es with
 | nil => rfl
 | cons => simp at h
theorem Reads.cons {kf : κ → Value} {es : List MapEntry} {p : κ × Value} {l : List (κ × Value)} (h : Reads kf es (p :: l)) : ∃ e es', es = e :: es' ∧ e.key = kf p.1 ∧ e.val = p.2 ∧ Reads kf es' l := by
 unfold Reads at h
 cases es with
 | nil => simp at h
 | cons e es' =>
  simp only [List.map_cons, List.cons.injEq, Prod.mk.injEq] at h
  exact ⟨e, es', rfl, h.1.1, h.1.2, h.2⟩
theorem Reads.length {kf : κ → Value} {es : List MapEntry} {l : List (κ × Value)} (h : Reads kf es l) : es.length = l.length := by
 have := congrArg List.length h
 simpa using this
theorem Reads.upd {kf : κ → Value} {k : κ} {v : Value} {l : List (κ × Value)} {j : Nat} {x : Value} (hf : findL k l 0 = some (j, x)) (es : Array MapEntry) (h : Reads kf es.toList l) : (es[j]?).map (·.key) = some (kf k) ∧ Reads kf (es.modify j fun e => { e with key := kf k, val := v }).toList (updL k v l) := by
 obtain ⟨a, y, b, h1, h2, _, h4⟩ := findL_some (v := v) hf
 rw [Nat.zero_add] at h2
 subst h1 h2
 rw [h4]
 unfold Reads at h ⊢
 obtain ⟨es⟩ := es
 simp only [List.map_append, List.map_cons] at h ⊢
 obtain ⟨ea, eb, rfl, ha, hb⟩ := List.map_eq_append_iff.1 h
 obtain ⟨e, eb', rfl, he, hb'⟩ := List.map_eq_cons_iff.1 hb
 have hl : ea.length = a.length := by have := congrArg List.length ha; simpa using this
 simp only [Prod.mk.injEq] at he
 constructor
 ·simp [← hl, he.1]
 ·simp only [List.modify_toArray, ← hl]
  rw [modify_mid]
  simp [ha, hb']
theorem Reads.push {kf : κ → Value} {k : κ} {v : Value} {l : List (κ × Value)} (hf : findL k l 0 = none) (es : Array MapEntry) (h : Reads kf es.toList l) (n : Nat) : Reads kf (es.push { key := kf k, val := v, born := n }).toList (updL k v l) := by
 rw [findL_none hf]
 unfold Reads at h ⊢
 simp [h]
/-- an entry is set -/
theorem run_mapUpdate {kt et mt : TypeId} {kf : κ → Value} {ok : κ → Prop} (K : Keys kt kf ok) (hm : TryQ.prog.underlying mt = some (.map kt et)) {w : World} {r : Nat} {l : List (κ × Value)} {k : κ} {v : Value} (hM : MapL kf w r l) (hk : ok k) (hl : ∀ p ∈ l, ok p.1) :
  ∃ es clock, (Instr.mapUpdate mt (.map (some r)) (kf k) v).run TryQ.prog w = .ok () { w with heap := w.heap.setIfInBounds r (.map es clock) } ∧ MapL kf { w with heap := w.heap.setIfInBounds r (.map es clock) } r (updL k v l) := by
 obtain ⟨es, clock, hb, hR⟩ := hM
 have hf := K.find k es.toList l w hk hl hR
 have hlt : r < w.heap.size := (Array.getElem?_eq_some_iff.1 hb).1
 have hset : ∀ o : Obj, (w.heap.setIfInBounds r o)[r]? = some o := fun o => by simp [hlt]
 have hg : (getObj r).run TryQ.prog w = .ok (.map es clock) w := by simp [getObj, Sem.run, hb]
 have hs : ∀ o : Obj, (setObj r o).run TryQ.prog w = .ok () { w with heap := w.heap.setIfInBounds r o } := fun o => by simp [setObj, Sem.run, hb]
 unfold Instr.mapUpdate
 cases h : findL k l 0 with
 | none =>
  refine ⟨es.push { key := kf k, val := v, born := clock }, clock + 1, ?_, _, _, hset _, hR.push h es clock⟩
  simp [run_underlying hm, hg, hs, K.chk, hf, h]
 | some p =>
  obtain ⟨j, x⟩ := p
  obtain ⟨h1, h2⟩ := hR.upd (v := v) h es
  refine ⟨es.modify j fun e => { e with key := kf k, val := v }, clock, ?_, _, _, hset _, h2⟩
  simp [run_underlying hm, hg, hs, K.chk, hf, h, Instr.keyThatStays, h1, K.bits]
/-- an entry is looked up -/
theorem run_lookup {kt et mt : TypeId} {kf : κ → Value} {ok : κ → Prop} (K : Keys kt kf ok) (hm : TryQ.prog.underlying mt = some (.map kt et)) {w : World} {r : Nat} {l : List (κ × Value)} {k : κ} {z : Value} (hM : MapL kf w r l) (hk : ok k) (hl : ∀ p ∈ l, ok p.1) (hz : ∀ w, (zeroValue et).run TryQ.prog w = .ok z w) :
  (Instr.lookup mt (.map (some r)) (kf k) false).run TryQ.prog w = .ok ((findL k l 0).elim z (·.2)) w := by
 obtain ⟨es, clock, hb, hR⟩ := hM
 have hf := K.find k es.toList l w hk hl hR
 have hg : (getObj r).run TryQ.prog w = .ok (.map es clock) w := by simp [getObj, Sem.run, hb]
 unfold Instr.lookup
 cases h : findL k l 0 with
 | none => simp [run_underlying hm, hg, K.chk, hf, h, hz]
 | some p => simp [run_underlying hm, hg, K.chk, hf, h]
theorem run_lenMap {mt kt et : TypeId} {kf : κ → Value} (hm : TryQ.prog.underlying mt = some (.map kt et)) {w : World} {r : Nat} {l : List (κ × Value)} (hM : MapL kf w r l) : (Builtin.len_ #[mt] 3 #[.map (some r)]).run TryQ.prog w = .ok (.int .i64 (l.length : Int)) w := by
 obtain ⟨es, clock, hb, hR⟩ := hM
 have hg : (getObj r).run TryQ.prog w = .ok (.map es clock) w := by simp [getObj, Sem.run, hb]
 have hn : es.size = l.length := by have := hR.length; simpa using this
 simp [Builtin.len_, run_underlying hm, hg, hn, goInt]
end
theorem findNow_int (k : Int) : ∀ (es : List MapEntry) (l : List (Int × Value)) (i : Nat), Reads (fun x : Int => Value.int .i64 x) es l → Instr.findNow (.int .i64) (.int .i64 k) es i = some (findL k l i)
 | es, [], i, h => by rw [h.nil]; rfl
 | es, p :: l, i, h => by
  obtain ⟨e, es', rfl, h1, h2, h3⟩ := h.cons
  unfold Instr.findNow findL
  simp only [h1, Instr.sameNow, if_true]
  by_cases hk : k = p.1
  ·simp [hk, h2]
  ·have : (k == p.1) = false := by simpa using hk
   simp only [this, if_neg hk]
   exact findNow_int k es' l (i + 1) h3
theorem intKeys : Keys 3 (fun x : Int => Value.int .i64 x) (fun _ => True) := by
 refine ⟨fun k es l w _ _ h => ?_, fun e k w => ?_, fun k => ?_⟩
 ·unfold Instr.findKey
  simp only [Sem.run_bind, run_underlying u3, Result.andThen_ok, findNow_int k es l 0 h]
  rfl
 ·show (Instr.checkKey e (9999 + 1) 3 (.int .i64 k)).run TryQ.prog w = _
  unfold Instr.checkKey
  simp [run_underlying u3]
 ·show Instr.sameBits (9999 + 1) (.int .i64 k) (.int .i64 k) = true
  simp [Instr.sameBits]
theorem findAsk_word (k : Nat) (hk : k < M) : ∀ (es : List MapEntry) (l : List (Nat × Value)) (i : Nat) (w : World), (∀ p ∈ l, p.1 < M) → Reads wd es l → (Instr.findAsking 28 (wd k) es i).run TryQ.prog w = .ok (findL k l i) w
 | es, [], i, w, _, h => by rw [h.nil]; rfl
 | es, p :: l, i, w, ho, h => by
  obtain ⟨e, es', rfl, h1, h2, h3⟩ := h.cons
  unfold Instr.findAsking findL
  have he := run_eqw k p.1 hk (ho p List.mem_cons_self) w
  simp only [Sem.run_bind, h1, he, Result.andThen_ok]
  by_cases hkp : k = p.1
  ·simp [hkp, h2]
  ·simp only [hkp, decide_false, Bool.false_eq_true, if_false]
   exact findAsk_word k hk es' l (i + 1) w (fun q hq => ho q (List.mem_cons_of_mem _ hq)) h3
theorem wordKeys : Keys 28 wd (· < M) := by
 refine ⟨fun k es l w hk ho h => ?_, fun e k w => ?_, fun k => ?_⟩
 ·unfold Instr.findKey
  simp only [Sem.run_bind, run_underlying u28, Result.andThen_ok]
  cases es with
  | nil =>
   cases l with
   | nil => rfl
   | cons p l => obtain ⟨_, _, h, _⟩ := h.cons; cases h
  | cons x es =>
   have : Instr.findNow (.array 4 26) (wd k) (x :: es) 0 = none := by simp [Instr.findNow, Instr.sameNow]
   rw [this]
   exact findAsk_word k hk _ l 0 w ho h
 ·show (Instr.checkKey e (9999 + 1) 28 (wd k)).run TryQ.prog w = _
  have c26 : ∀ (x : Int) (w : World), (Instr.checkKey e 9999 26 (.int .u64 x)).run TryQ.prog w = .ok () w := fun x w => by
   show (Instr.checkKey e (9998 + 1) 26 (.int .u64 x)).run TryQ.prog w = _
   unfold Instr.checkKey
   simp [run_underlying u26]
  have p := parts
  unfold Instr.checkKey
  simp only [Sem.run_bind, run_underlying u28, Result.andThen_ok]
  simp
  rw [show List.range' 0 4 = [0, 1, 2, 3] from rfl]
  simp [p, c26]
 ·show Instr.sameBits (9999 + 1) (wd k) (wd k) = true
  simp [Instr.sameBits]
end Go.Mark
/-
 What a stretch leaves as it was.
-/
namespace Go.Mark
open Go.RowKit Go.Proofs
structure Only (w w' : World) (b lo hi : Nat) : Prop where
 os : w'.os = w.os
 tape : w'.tape = w.tape
 output : w'.output = w.output
 size : w'.heap.size = w.heap.size
 block : ∀ k, k ≠ b → w'.heap[k]? = w.heap[k]?
 cell : ∀ o, o < lo ∨ hi ≤ o → w'.cell? ⟨b, o, none⟩ = w.cell? ⟨b, o, none⟩
 frozen : ∀ o, w'.frozen? ⟨b, o, none⟩ = w.frozen? ⟨b, o, none⟩
set_option maxRecDepth 100000 in
set_option maxHeartbeats 1000000 in
theorem Only.refl (w : World) (b lo hi : Nat) : Only w w b lo hi := ⟨rfl, rfl, rfl, rfl, fun _ _ => rfl, fun _ _ => rfl, fun _ => rfl⟩
set_option maxRecDepth 100000 in
set_option maxHeartbeats 1000000 in
theorem Only.trans {w w1 w2 : World} {b lo hi : Nat} (h : Only w w1 b lo hi) (k : Only w1 w2 b lo hi) : Only w w2 b lo hi :=
 ⟨k.os.trans h.os, k.tape.trans h.tape, k.output.trans h.output, k.size.trans h.size, fun j hj => (k.block j hj).trans (h.block j hj), fun o ho => (k.cell o ho).trans (h.cell o ho), fun o => (k.frozen o).trans (h.frozen o)⟩
set_option maxRecDepth 100000 in
set_option maxHeartbeats 1000000 in
theorem Only.drew {w w1 : World} {b lo hi : Nat} (h : Only w w1 b lo hi) : Only w w1.drew b lo hi := ⟨h.os, h.tape, h.output, h.size, h.block, h.cell, h.frozen⟩
set_option maxRecDepth 100000 in
set_option maxHeartbeats 1000000 in
theorem Only.drewN {w w1 : World} {b lo hi : Nat} (h : Only w w1 b lo hi) (n : Nat) : Only w (w1.drewN n) b lo hi := ⟨h.os, h.tape, h.output, h.size, h.block, h.cell, h.frozen⟩
set_option maxRecDepth 100000 in
set_option maxHeartbeats 1000000 in
theorem Only.setCell {w w1 : World} {b lo hi : Nat} (h : Only w w1 b lo hi) (o : Nat) (v : Value) (h1 : lo ≤ o) (h2 : o < hi) : Only w (w1.setCell ⟨b, o, none⟩ v) b lo hi := by
 refine ⟨h.os, h.tape, h.output, by simpa using h.size, fun k hk => (Below.heap_setCell _ _ _ _ hk).trans (h.block k hk), fun o' ho => ?_, fun o' => ?_⟩
 ·rw [← h.cell o' ho]
  have hne : o ≠ o' := by omega
  simp [go_sem]
 ·rw [← h.frozen o']
  simp [go_sem]
set_option maxRecDepth 100000 in
set_option maxHeartbeats 1000000 in
theorem Only.other {w w1 : World} {b lo hi : Nat} (h : Only w w1 b lo hi) {k : Nat} (hk : k ≠ b) (o : Nat) : w1.cell? ⟨k, o, none⟩ = w.cell? ⟨k, o, none⟩ := World.cell?_of_block (w := w) (h.block k hk)
set_option maxRecDepth 100000 in
set_option maxHeartbeats 1000000 in
theorem Only.otherF {w w1 : World} {b lo hi : Nat} (h : Only w w1 b lo hi) {k : Nat} (hk : k ≠ b) (o : Nat) : w1.frozen? ⟨k, o, none⟩ = w.frozen? ⟨k, o, none⟩ := World.frozen?_of_block (w := w) (h.block k hk)
set_option maxRecDepth 100000 in
set_option maxHeartbeats 1000000 in
theorem Only.below {w w1 : World} {b lo hi B : Nat} (h : Only w w1 b lo hi) (hb : B ≤ b) : Below B w w1 := ⟨h.os, h.tape, h.output, by rw [h.size]; exact Nat.le_refl _, fun k hk => h.block k (by omega)⟩
end Go.Mark
