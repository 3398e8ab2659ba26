/-
  purserref.Work at the ops of one call: what it returns.
  purserref.Work at Div, Mod, SDiv, SMod: what it returns, where divided's answer is given.
-/
import Derived.Test.YtbephahokhnccaaJ8
namespace Go.Proofs.Ytbephahokhnccaa
open Go.RowKit Go.Shelf
attribute [local go_sem] wd

/-- The document's own Work. -/
def RWork (op : Int) (a b c r : Nat) : Prop := ∀ w : World, Calls Try.prog 8 #[.int .u8 op, wd a, wd b, wd c] w fun e w' => e = .returned (wd r) ∧ Below w.heap.size w w'

set_option maxHeartbeats 1000000 in
theorem rwork1 (a b c : Nat) (ha : a < M) (hb : b < M) : RWork 1 a b c ((a + b) % MM % M) := by
  intro w
  have HC := radd a b ha hb
  generalize (a + b) % MM % M = r at HC ⊢
  go_enter Try.func8, Try.ntmps8
  go_wp2_with fail
  refine (HC _).mono ?_
  rintro e w1 ⟨rfl, hb1⟩
  obtain ⟨hc, hf⟩ := bcell hb1
  have hz : w.heap.size + 1 + 1 + 1 < w1.heap.size := by have := hb1.size; simp at this; omega
  have hB : Below w.heap.size w w1 := (below4 w _ _ _ _).trans (hb1.mono (below4 w _ _ _ _).size)
  clear hb1
  go_wp2
  simp [bodyPost, results, Try.results8, go_sem, hc]
  exact set4_below (b := w.heap.size + 1 + 1 + 1) hB (by omega) _

set_option maxHeartbeats 1000000 in
theorem rwork2 (a b c : Nat) (ha : a < M) (hb : b < M) : RWork 2 a b c ((a + MM - b) % MM % M) := by
  intro w
  have HC := rsub a b ha hb
  generalize (a + MM - b) % MM % M = r at HC ⊢
  go_enter Try.func8, Try.ntmps8
  go_wp2_with fail
  refine (HC _).mono ?_
  rintro e w1 ⟨rfl, hb1⟩
  obtain ⟨hc, hf⟩ := bcell hb1
  have hz : w.heap.size + 1 + 1 + 1 < w1.heap.size := by have := hb1.size; simp at this; omega
  have hB : Below w.heap.size w w1 := (below4 w _ _ _ _).trans (hb1.mono (below4 w _ _ _ _).size)
  clear hb1
  go_wp2
  simp [bodyPost, results, Try.results8, go_sem, hc]
  exact set4_below (b := w.heap.size + 1 + 1 + 1) hB (by omega) _

set_option maxHeartbeats 1000000 in
theorem rwork10 (a b c : Nat) (ha : a < M) (hb : b < M) : RWork 10 a b c (a ^ b % M) := by
  intro w
  have HC := rpower a b ha hb
  generalize a ^ b % M = r at HC ⊢
  go_enter Try.func8, Try.ntmps8
  go_wp2_with fail
  refine (HC _).mono ?_
  rintro e w1 ⟨rfl, hb1⟩
  obtain ⟨hc, hf⟩ := bcell hb1
  have hz : w.heap.size + 1 + 1 + 1 < w1.heap.size := by have := hb1.size; simp at this; omega
  have hB : Below w.heap.size w w1 := (below4 w _ _ _ _).trans (hb1.mono (below4 w _ _ _ _).size)
  clear hb1
  go_wp2
  simp [bodyPost, results, Try.results8, go_sem, hc]
  exact set4_below (b := w.heap.size + 1 + 1 + 1) hB (by omega) _

set_option maxHeartbeats 1000000 in
theorem rwork11 (a b c : Nat) (ha : a < M) (hb : b < M) : RWork 11 a b c (extv a b) := by
  intro w
  have HC := rext a b ha hb
  generalize extv a b = r at HC ⊢
  go_enter Try.func8, Try.ntmps8
  go_wp2_with fail
  refine (HC _).mono ?_
  rintro e w1 ⟨rfl, hb1⟩
  obtain ⟨hc, hf⟩ := bcell hb1
  have hz : w.heap.size + 1 + 1 + 1 < w1.heap.size := by have := hb1.size; simp at this; omega
  have hB : Below w.heap.size w w1 := (below4 w _ _ _ _).trans (hb1.mono (below4 w _ _ _ _).size)
  clear hb1
  go_wp2
  simp [bodyPost, results, Try.results8, go_sem, hc]
  exact set4_below (b := w.heap.size + 1 + 1 + 1) hB (by omega) _

set_option maxHeartbeats 1000000 in
theorem rwork18 (a b c : Nat) (ha : a < M) (hb : b < M) : RWork 18 a b c ((a &&& b) % M) := by
  intro w
  have HC := rbit_18 a b ha hb
  generalize (a &&& b) % M = r at HC ⊢
  go_enter Try.func8, Try.ntmps8
  go_wp2_with fail
  refine (HC _).mono ?_
  rintro e w1 ⟨rfl, hb1⟩
  obtain ⟨hc, hf⟩ := bcell hb1
  have hz : w.heap.size + 1 + 1 + 1 < w1.heap.size := by have := hb1.size; simp at this; omega
  have hB : Below w.heap.size w w1 := (below4 w _ _ _ _).trans (hb1.mono (below4 w _ _ _ _).size)
  clear hb1
  go_wp2
  simp [bodyPost, results, Try.results8, go_sem, hc]
  exact set4_below (b := w.heap.size + 1 + 1 + 1) hB (by omega) _

set_option maxHeartbeats 1000000 in
theorem rwork19 (a b c : Nat) (ha : a < M) (hb : b < M) : RWork 19 a b c ((a ||| b) % M) := by
  intro w
  have HC := rbit_19 a b ha hb
  generalize (a ||| b) % M = r at HC ⊢
  go_enter Try.func8, Try.ntmps8
  go_wp2_with fail
  refine (HC _).mono ?_
  rintro e w1 ⟨rfl, hb1⟩
  obtain ⟨hc, hf⟩ := bcell hb1
  have hz : w.heap.size + 1 + 1 + 1 < w1.heap.size := by have := hb1.size; simp at this; omega
  have hB : Below w.heap.size w w1 := (below4 w _ _ _ _).trans (hb1.mono (below4 w _ _ _ _).size)
  clear hb1
  go_wp2
  simp [bodyPost, results, Try.results8, go_sem, hc]
  exact set4_below (b := w.heap.size + 1 + 1 + 1) hB (by omega) _

set_option maxHeartbeats 1000000 in
theorem rwork20 (a b c : Nat) (ha : a < M) (hb : b < M) : RWork 20 a b c ((a ^^^ b) % M) := by
  intro w
  have HC := rbit_20 a b ha hb
  generalize (a ^^^ b) % M = r at HC ⊢
  go_enter Try.func8, Try.ntmps8
  go_wp2_with fail
  refine (HC _).mono ?_
  rintro e w1 ⟨rfl, hb1⟩
  obtain ⟨hc, hf⟩ := bcell hb1
  have hz : w.heap.size + 1 + 1 + 1 < w1.heap.size := by have := hb1.size; simp at this; omega
  have hB : Below w.heap.size w w1 := (below4 w _ _ _ _).trans (hb1.mono (below4 w _ _ _ _).size)
  clear hb1
  go_wp2
  simp [bodyPost, results, Try.results8, go_sem, hc]
  exact set4_below (b := w.heap.size + 1 + 1 + 1) hB (by omega) _

set_option maxHeartbeats 1000000 in
theorem rwork21 (a b c : Nat) (ha : a < M) (hb : b < M) : RWork 21 a b c ((M - 1 - a) % M) := by
  intro w
  have HC := rbit_21 a b ha hb
  generalize (M - 1 - a) % M = r at HC ⊢
  go_enter Try.func8, Try.ntmps8
  go_wp2_with fail
  refine (HC _).mono ?_
  rintro e w1 ⟨rfl, hb1⟩
  obtain ⟨hc, hf⟩ := bcell hb1
  have hz : w.heap.size + 1 + 1 + 1 < w1.heap.size := by have := hb1.size; simp at this; omega
  have hB : Below w.heap.size w w1 := (below4 w _ _ _ _).trans (hb1.mono (below4 w _ _ _ _).size)
  clear hb1
  go_wp2
  simp [bodyPost, results, Try.results8, go_sem, hc]
  exact set4_below (b := w.heap.size + 1 + 1 + 1) hB (by omega) _

set_option maxHeartbeats 1000000 in
theorem rwork12 (a b c : Nat) (ha : a < M) (hb : b < M) : RWork 12 a b c (tw (decide (a < b))) := by
  intro w
  have HC := fun w => rcmp_12_w a b (decide (a < b)) (decide (b < a)) (neg a) (neg b) _ w (rless a b ha hb) (rless b a hb ha) (rnegative a ha) (rnegative b hb) rfl
  generalize tw (decide (a < b)) = r at HC ⊢
  go_enter Try.func8, Try.ntmps8
  go_wp2_with fail
  refine (HC _).mono ?_
  rintro e w1 ⟨rfl, hb1⟩
  obtain ⟨hc, hf⟩ := bcell hb1
  have hz : w.heap.size + 1 + 1 + 1 < w1.heap.size := by have := hb1.size; simp at this; omega
  have hB : Below w.heap.size w w1 := (below4 w _ _ _ _).trans (hb1.mono (below4 w _ _ _ _).size)
  clear hb1
  go_wp2
  simp [bodyPost, results, Try.results8, go_sem, hc]
  exact set4_below (b := w.heap.size + 1 + 1 + 1) hB (by omega) _

set_option maxHeartbeats 1000000 in
theorem rwork13 (a b c : Nat) (ha : a < M) (hb : b < M) : RWork 13 a b c (tw (decide (b < a))) := by
  intro w
  have HC := fun w => rcmp_13_w a b (decide (a < b)) (decide (b < a)) (neg a) (neg b) _ w (rless a b ha hb) (rless b a hb ha) (rnegative a ha) (rnegative b hb) rfl
  generalize tw (decide (b < a)) = r at HC ⊢
  go_enter Try.func8, Try.ntmps8
  go_wp2_with fail
  refine (HC _).mono ?_
  rintro e w1 ⟨rfl, hb1⟩
  obtain ⟨hc, hf⟩ := bcell hb1
  have hz : w.heap.size + 1 + 1 + 1 < w1.heap.size := by have := hb1.size; simp at this; omega
  have hB : Below w.heap.size w w1 := (below4 w _ _ _ _).trans (hb1.mono (below4 w _ _ _ _).size)
  clear hb1
  go_wp2
  simp [bodyPost, results, Try.results8, go_sem, hc]
  exact set4_below (b := w.heap.size + 1 + 1 + 1) hB (by omega) _

set_option maxHeartbeats 1000000 in
theorem rwork14 (a b c : Nat) (ha : a < M) (hb : b < M) : RWork 14 a b c (tw ((neg a && !neg b) || (neg a == neg b && decide (a < b)))) := by
  intro w
  have HC := fun w => rcmp_14_w a b (decide (a < b)) (decide (b < a)) (neg a) (neg b) _ w (rless a b ha hb) (rless b a hb ha) (rnegative a ha) (rnegative b hb) rfl
  generalize tw ((neg a && !neg b) || (neg a == neg b && decide (a < b))) = r at HC ⊢
  go_enter Try.func8, Try.ntmps8
  go_wp2_with fail
  refine (HC _).mono ?_
  rintro e w1 ⟨rfl, hb1⟩
  obtain ⟨hc, hf⟩ := bcell hb1
  have hz : w.heap.size + 1 + 1 + 1 < w1.heap.size := by have := hb1.size; simp at this; omega
  have hB : Below w.heap.size w w1 := (below4 w _ _ _ _).trans (hb1.mono (below4 w _ _ _ _).size)
  clear hb1
  go_wp2
  simp [bodyPost, results, Try.results8, go_sem, hc]
  exact set4_below (b := w.heap.size + 1 + 1 + 1) hB (by omega) _

set_option maxHeartbeats 1000000 in
theorem rwork15 (a b c : Nat) (ha : a < M) (hb : b < M) : RWork 15 a b c (tw ((!neg a && neg b) || (neg a == neg b && decide (b < a)))) := by
  intro w
  have HC := fun w => rcmp_15_w a b (decide (a < b)) (decide (b < a)) (neg a) (neg b) _ w (rless a b ha hb) (rless b a hb ha) (rnegative a ha) (rnegative b hb) rfl
  generalize tw ((!neg a && neg b) || (neg a == neg b && decide (b < a))) = r at HC ⊢
  go_enter Try.func8, Try.ntmps8
  go_wp2_with fail
  refine (HC _).mono ?_
  rintro e w1 ⟨rfl, hb1⟩
  obtain ⟨hc, hf⟩ := bcell hb1
  have hz : w.heap.size + 1 + 1 + 1 < w1.heap.size := by have := hb1.size; simp at this; omega
  have hB : Below w.heap.size w w1 := (below4 w _ _ _ _).trans (hb1.mono (below4 w _ _ _ _).size)
  clear hb1
  go_wp2
  simp [bodyPost, results, Try.results8, go_sem, hc]
  exact set4_below (b := w.heap.size + 1 + 1 + 1) hB (by omega) _

set_option maxHeartbeats 1000000 in
theorem rwork16 (a b c : Nat) (ha : a < M) (hb : b < M) : RWork 16 a b c (tw (decide (a = b))) := by
  intro w
  have HC := fun w => rcmp_16_w a b (decide (a < b)) (decide (b < a)) (neg a) (neg b) _ w (rless a b ha hb) (rless b a hb ha) (rnegative a ha) (rnegative b hb) (eq4_lim a b ha hb)
  generalize tw (decide (a = b)) = r at HC ⊢
  go_enter Try.func8, Try.ntmps8
  go_wp2_with fail
  refine (HC _).mono ?_
  rintro e w1 ⟨rfl, hb1⟩
  obtain ⟨hc, hf⟩ := bcell hb1
  have hz : w.heap.size + 1 + 1 + 1 < w1.heap.size := by have := hb1.size; simp at this; omega
  have hB : Below w.heap.size w w1 := (below4 w _ _ _ _).trans (hb1.mono (below4 w _ _ _ _).size)
  clear hb1
  go_wp2
  simp [bodyPost, results, Try.results8, go_sem, hc]
  exact set4_below (b := w.heap.size + 1 + 1 + 1) hB (by omega) _

set_option maxHeartbeats 1000000 in
theorem rwork17 (a b c : Nat) (ha : a < M) (hb : b < M) : RWork 17 a b c (tw (decide (a = 0))) := by
  intro w
  have HC := fun w => rcmp_17_w a b (decide (a < b)) (decide (b < a)) (neg a) (neg b) _ w (rless a b ha hb) (rless b a hb ha) (rnegative a ha) (rnegative b hb) (by have k := eq4_lim a 0 ha M_pos; simp only [lim_z] at k; exact k)
  generalize tw (decide (a = 0)) = r at HC ⊢
  go_enter Try.func8, Try.ntmps8
  go_wp2_with fail
  refine (HC _).mono ?_
  rintro e w1 ⟨rfl, hb1⟩
  obtain ⟨hc, hf⟩ := bcell hb1
  have hz : w.heap.size + 1 + 1 + 1 < w1.heap.size := by have := hb1.size; simp at this; omega
  have hB : Below w.heap.size w w1 := (below4 w _ _ _ _).trans (hb1.mono (below4 w _ _ _ _).size)
  clear hb1
  go_wp2
  simp [bodyPost, results, Try.results8, go_sem, hc]
  exact set4_below (b := w.heap.size + 1 + 1 + 1) hB (by omega) _

set_option maxHeartbeats 1000000 in
theorem rwork3 (a b c : Nat) (ha : a < M) (hb : b < M) : RWork 3 a b c (a * b % M) := by
  intro w
  have HC := times a b ha hb
  have HD := wordL (a * b)
  generalize a * b % M = r at HD ⊢
  generalize dl (a * b) = l at HC HD
  go_enter Try.func8, Try.ntmps8
  go_wp2_with fail
  refine (HC _).mono ?_
  rintro e w1 ⟨rfl, hb1⟩
  obtain ⟨hc, hf⟩ := bcell hb1
  have hz : w.heap.size + 1 + 1 + 1 < w1.heap.size := by have := hb1.size; simp at this; omega
  have hB : Below w.heap.size w w1 := (below4 w _ _ _ _).trans (hb1.mono (below4 w _ _ _ _).size)
  have C : Cells4 w1 (w.heap.size + 1 + 1 + 1) 0 := ⟨by simp [hc, go_sem, lim_z], by simp [hc, go_sem, lim_z], by simp [hc, go_sem, lim_z], by simp [hc, go_sem, lim_z], by simp [hf, go_sem], by simp [hf, go_sem], by simp [hf, go_sem], by simp [hf, go_sem]⟩
  clear hb1 hc hf
  go_wp2_with fail
  refine (HD _).mono ?_
  rintro e w2 ⟨rfl, hb2⟩
  obtain ⟨y0, y1, y2, y3, y4, y5, y6, y7⟩ := C.below hb2 hz
  replace hB := hB.trans (hb2.mono hB.size)
  clear hb2 C
  go_wp2
  simp [bodyPost, results, Try.results8, go_sem, y0, y1, y2, y3]
  exact set4_below (b := w.heap.size + 1 + 1 + 1) hB (by omega) _

set_option maxHeartbeats 2000000 in
theorem rwork_no (op : Int) (h : op < 1 ∨ 22 < op) (a b c : Nat) : RWork op a b c 0 := by
  intro w
  have n1 : (op == 1) = false := by simp; omega
  have n2 : (op == 2) = false := by simp; omega
  have n3 : (op == 3) = false := by simp; omega
  have n8 : (op == 8) = false := by simp; omega
  have n9 : (op == 9) = false := by simp; omega
  have n10 : (op == 10) = false := by simp; omega
  have n11 : (op == 11) = false := by simp; omega
  have n22 : (op == 22) = false := by simp; omega
  have ez : wd 0 = .agg #[.int .u64 0, .int .u64 0, .int .u64 0, .int .u64 0] := by unfold wd; simp [lim_z]
  rw [ez]
  clear ez
  rcases h with h | h
  · have g4 : ¬ (4 : Int) ≤ op := by omega
    have g12 : ¬ (12 : Int) ≤ op := by omega
    have g18 : ¬ (18 : Int) ≤ op := by omega
    clear h
    go_enter Try.func8, Try.ntmps8
    go_wp2
    simp [bodyPost, results, Try.results8, go_sem]
    exact below4 _ _ _ _ _
  · have g4 : (4 : Int) ≤ op := by omega
    have g12 : (12 : Int) ≤ op := by omega
    have g18 : (18 : Int) ≤ op := by omega
    have l7 : ¬ op ≤ 7 := by omega
    have l17 : ¬ op ≤ 17 := by omega
    have l21 : ¬ op ≤ 21 := by omega
    clear h
    go_enter Try.func8, Try.ntmps8
    go_wp2
    simp [bodyPost, results, Try.results8, go_sem]
    exact below4 _ _ _ _ _

end Go.Proofs.Ytbephahokhnccaa

namespace Go.Proofs.Ytbephahokhnccaa
open Go.RowKit Go.Shelf
attribute [local go_sem] wd

set_option maxHeartbeats 1000000 in
theorem rwork4_w (a b c r : Nat) (HC : ∀ w : World, Calls Try.prog 17 #[.int .u8 4, wd a, wd b] w fun e w' => e = .returned (wd r) ∧ Below w.heap.size w w') : RWork 4 a b c r := by
  intro w
  go_enter Try.func8, Try.ntmps8
  go_wp2_with fail
  refine (HC _).mono ?_
  rintro e w1 ⟨rfl, hb1⟩
  obtain ⟨hc, hf⟩ := bcell hb1
  have hz : w.heap.size + 1 + 1 + 1 < w1.heap.size := by have := hb1.size; simp at this; omega
  have hB : Below w.heap.size w w1 := (below4 w _ _ _ _).trans (hb1.mono (below4 w _ _ _ _).size)
  clear hb1
  go_wp2
  simp [bodyPost, results, Try.results8, go_sem, hc]
  exact set4_below (b := w.heap.size + 1 + 1 + 1) hB (by omega) _

set_option maxHeartbeats 1000000 in
theorem rwork5_w (a b c r : Nat) (HC : ∀ w : World, Calls Try.prog 17 #[.int .u8 5, wd a, wd b] w fun e w' => e = .returned (wd r) ∧ Below w.heap.size w w') : RWork 5 a b c r := by
  intro w
  go_enter Try.func8, Try.ntmps8
  go_wp2_with fail
  refine (HC _).mono ?_
  rintro e w1 ⟨rfl, hb1⟩
  obtain ⟨hc, hf⟩ := bcell hb1
  have hz : w.heap.size + 1 + 1 + 1 < w1.heap.size := by have := hb1.size; simp at this; omega
  have hB : Below w.heap.size w w1 := (below4 w _ _ _ _).trans (hb1.mono (below4 w _ _ _ _).size)
  clear hb1
  go_wp2
  simp [bodyPost, results, Try.results8, go_sem, hc]
  exact set4_below (b := w.heap.size + 1 + 1 + 1) hB (by omega) _

set_option maxHeartbeats 1000000 in
theorem rwork6_w (a b c r : Nat) (HC : ∀ w : World, Calls Try.prog 17 #[.int .u8 6, wd a, wd b] w fun e w' => e = .returned (wd r) ∧ Below w.heap.size w w') : RWork 6 a b c r := by
  intro w
  go_enter Try.func8, Try.ntmps8
  go_wp2_with fail
  refine (HC _).mono ?_
  rintro e w1 ⟨rfl, hb1⟩
  obtain ⟨hc, hf⟩ := bcell hb1
  have hz : w.heap.size + 1 + 1 + 1 < w1.heap.size := by have := hb1.size; simp at this; omega
  have hB : Below w.heap.size w w1 := (below4 w _ _ _ _).trans (hb1.mono (below4 w _ _ _ _).size)
  clear hb1
  go_wp2
  simp [bodyPost, results, Try.results8, go_sem, hc]
  exact set4_below (b := w.heap.size + 1 + 1 + 1) hB (by omega) _

set_option maxHeartbeats 1000000 in
theorem rwork7_w (a b c r : Nat) (HC : ∀ w : World, Calls Try.prog 17 #[.int .u8 7, wd a, wd b] w fun e w' => e = .returned (wd r) ∧ Below w.heap.size w w') : RWork 7 a b c r := by
  intro w
  go_enter Try.func8, Try.ntmps8
  go_wp2_with fail
  refine (HC _).mono ?_
  rintro e w1 ⟨rfl, hb1⟩
  obtain ⟨hc, hf⟩ := bcell hb1
  have hz : w.heap.size + 1 + 1 + 1 < w1.heap.size := by have := hb1.size; simp at this; omega
  have hB : Below w.heap.size w w1 := (below4 w _ _ _ _).trans (hb1.mono (below4 w _ _ _ _).size)
  clear hb1
  go_wp2
  simp [bodyPost, results, Try.results8, go_sem, hc]
  exact set4_below (b := w.heap.size + 1 + 1 + 1) hB (by omega) _

end Go.Proofs.Ytbephahokhnccaa

