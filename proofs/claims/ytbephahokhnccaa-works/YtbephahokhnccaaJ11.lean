/-
  number.Work at the ops of division.
  number.Work at the ops that compare, and bit by bit.
-/
import Derived.Test.YtbephahokhnccaaWork
import Derived.Test.YtbephahokhnccaaLs
import Derived.Test.YtbephahokhnccaaJ6
import Derived.Test.YtbephahokhnccaaJ7
import Derived.Test.YtbephahokhnccaaJ15
namespace Go.Proofs.Ytbephahokhnccaa
open Go.RowKit Go.Shelf
attribute [local go_sem] wd run_eq4

set_option maxHeartbeats 400000 in
theorem nwork4 (a b c : Nat) (ha : a < M) (hb : b < M) : NWork 4 a b c (a / b) := by
  intro w
  have HC := Hid.mk' (div a b ha hb)
  go_enter Try.func12, Try.ntmps12
  go_wp2_with fail
  refine (HC.out _).mono ?_
  rintro e w1 ⟨rfl, hb1⟩
  obtain ⟨hc, hf⟩ := bcell hb1
  have hz : w.heap.size + 1 + 1 + 1 < w1.heap.size := by have := hb1.size; simp at this; omega
  have hB : Below w.heap.size w w1 := Below.over (below4 w _ _ _ _) hb1
  clear hb1
  go_wp2
  simp [bodyPost, results, Try.results12, go_sem, hc]
  exact set4_below hB (by omega) _

set_option maxHeartbeats 400000 in
theorem nwork5 (a b c : Nat) (ha : a < M) (hb : b < M) : NWork 5 a b c (rmod a b) := by
  intro w
  have HC := Hid.mk' (mod a b ha hb)
  go_enter Try.func12, Try.ntmps12
  go_wp2_with fail
  refine (HC.out _).mono ?_
  rintro e w1 ⟨rfl, hb1⟩
  obtain ⟨hc, hf⟩ := bcell hb1
  have hz : w.heap.size + 1 + 1 + 1 < w1.heap.size := by have := hb1.size; simp at this; omega
  have hB : Below w.heap.size w w1 := Below.over (below4 w _ _ _ _) hb1
  clear hb1
  go_wp2
  simp [bodyPost, results, Try.results12, go_sem, hc]
  exact set4_below hB (by omega) _

set_option maxHeartbeats 400000 in
theorem nwork6 (a b c : Nat) (ha : a < M) (hb : b < M) : NWork 6 a b c (sdv a b) := by
  intro w
  have HC := Hid.mk' (sdiv a b ha hb)
  go_enter Try.func12, Try.ntmps12
  go_wp2_with fail
  refine (HC.out _).mono ?_
  rintro e w1 ⟨rfl, hb1⟩
  obtain ⟨hc, hf⟩ := bcell hb1
  have hz : w.heap.size + 1 + 1 + 1 < w1.heap.size := by have := hb1.size; simp at this; omega
  have hB : Below w.heap.size w w1 := Below.over (below4 w _ _ _ _) hb1
  clear hb1
  go_wp2
  simp [bodyPost, results, Try.results12, go_sem, hc]
  exact set4_below hB (by omega) _

set_option maxHeartbeats 400000 in
theorem nwork7 (a b c : Nat) (ha : a < M) (hb : b < M) : NWork 7 a b c (smd a b) := by
  intro w
  have HC := Hid.mk' (smod a b ha hb)
  go_enter Try.func12, Try.ntmps12
  go_wp2_with fail
  refine (HC.out _).mono ?_
  rintro e w1 ⟨rfl, hb1⟩
  obtain ⟨hc, hf⟩ := bcell hb1
  have hz : w.heap.size + 1 + 1 + 1 < w1.heap.size := by have := hb1.size; simp at this; omega
  have hB : Below w.heap.size w w1 := Below.over (below4 w _ _ _ _) hb1
  clear hb1
  go_wp2
  simp [bodyPost, results, Try.results12, go_sem, hc]
  exact set4_below hB (by omega) _

set_option maxHeartbeats 400000 in
theorem nwork8 (a b c : Nat) (ha : a < M) (hb : b < M) (hc : c < M) : NWork 8 a b c (rmod (a + b) c) := by
  intro w
  have HC := Hid.mk' (addMod a b c ha hb hc)
  go_enter Try.func12, Try.ntmps12
  go_wp2_with fail
  refine (HC.out _).mono ?_
  rintro e w1 ⟨rfl, hb1⟩
  obtain ⟨hc, hf⟩ := bcell hb1
  have hz : w.heap.size + 1 + 1 + 1 < w1.heap.size := by have := hb1.size; simp at this; omega
  have hB : Below w.heap.size w w1 := Below.over (below4 w _ _ _ _) hb1
  clear hb1
  go_wp2
  simp [bodyPost, results, Try.results12, go_sem, hc]
  exact set4_below hB (by omega) _

set_option maxHeartbeats 400000 in
theorem nwork9 (a b c : Nat) (ha : a < M) (hb : b < M) (hc : c < M) : NWork 9 a b c (rmod (a * b) c) := by
  intro w
  have HC := Hid.mk' (mulMod a b c ha hb hc)
  go_enter Try.func12, Try.ntmps12
  go_wp2_with fail
  refine (HC.out _).mono ?_
  rintro e w1 ⟨rfl, hb1⟩
  obtain ⟨hc, hf⟩ := bcell hb1
  have hz : w.heap.size + 1 + 1 + 1 < w1.heap.size := by have := hb1.size; simp at this; omega
  have hB : Below w.heap.size w w1 := Below.over (below4 w _ _ _ _) hb1
  clear hb1
  go_wp2
  simp [bodyPost, results, Try.results12, go_sem, hc]
  exact set4_below hB (by omega) _

end Go.Proofs.Ytbephahokhnccaa

namespace Go.Proofs.Ytbephahokhnccaa
open Go.RowKit Go.Shelf
attribute [local go_sem] wd run_eq4

set_option maxHeartbeats 400000 in
theorem nwork12 (a b c : Nat) (ha : a < M) (hb : b < M) : NWork 12 a b c (tw (decide (a < b))) := by
  intro w
  have HT := Hid.mk' (truth (decide (a < b)))
  have HC := Hid.mk' (less a b ha hb)
  go_enter Try.func12, Try.ntmps12
  go_wp2_with fail
  refine (HC.out _).mono ?_
  rintro e w0 ⟨rfl, hb0⟩
  have hB0 : Below w.heap.size w w0 := Below.over (below4 w _ _ _ _) hb0
  obtain ⟨hc0, hf0⟩ := bcell hb0
  have hz0 : w.heap.size + 1 + 1 + 1 < w0.heap.size := by have := hb0.size; simp at this; omega
  clear hb0
  go_wp2_with fail
  refine (HT.out _).mono ?_
  rintro e w1 ⟨rfl, hb1⟩
  have hz : w.heap.size + 1 + 1 + 1 < w1.heap.size := by have := hb1.size; omega
  have hB : Below w.heap.size w w1 := Below.over hB0 hb1
  have hc : ∀ i, w1.cell? ⟨w.heap.size + 1 + 1 + 1, i, none⟩ = w0.cell? ⟨w.heap.size + 1 + 1 + 1, i, none⟩ := fun i => hb1.cell (p := ⟨_, i, none⟩) hz0
  have hf : ∀ i, w1.frozen? ⟨w.heap.size + 1 + 1 + 1, i, none⟩ = w0.frozen? ⟨w.heap.size + 1 + 1 + 1, i, none⟩ := fun i => hb1.frozen (p := ⟨_, i, none⟩) hz0
  clear hb1
  go_wp2
  simp [bodyPost, results, Try.results12, go_sem, hc, hc0]
  exact set4_below hB (by omega) _

set_option maxHeartbeats 400000 in
theorem nwork13 (a b c : Nat) (ha : a < M) (hb : b < M) : NWork 13 a b c (tw (decide (b < a))) := by
  intro w
  have HT := Hid.mk' (truth (decide (b < a)))
  have HC := Hid.mk' (less b a hb ha)
  go_enter Try.func12, Try.ntmps12
  go_wp2_with fail
  refine (HC.out _).mono ?_
  rintro e w0 ⟨rfl, hb0⟩
  have hB0 : Below w.heap.size w w0 := Below.over (below4 w _ _ _ _) hb0
  obtain ⟨hc0, hf0⟩ := bcell hb0
  have hz0 : w.heap.size + 1 + 1 + 1 < w0.heap.size := by have := hb0.size; simp at this; omega
  clear hb0
  go_wp2_with fail
  refine (HT.out _).mono ?_
  rintro e w1 ⟨rfl, hb1⟩
  have hz : w.heap.size + 1 + 1 + 1 < w1.heap.size := by have := hb1.size; omega
  have hB : Below w.heap.size w w1 := Below.over hB0 hb1
  have hc : ∀ i, w1.cell? ⟨w.heap.size + 1 + 1 + 1, i, none⟩ = w0.cell? ⟨w.heap.size + 1 + 1 + 1, i, none⟩ := fun i => hb1.cell (p := ⟨_, i, none⟩) hz0
  have hf : ∀ i, w1.frozen? ⟨w.heap.size + 1 + 1 + 1, i, none⟩ = w0.frozen? ⟨w.heap.size + 1 + 1 + 1, i, none⟩ := fun i => hb1.frozen (p := ⟨_, i, none⟩) hz0
  clear hb1
  go_wp2
  simp [bodyPost, results, Try.results12, go_sem, hc, hc0]
  exact set4_below hB (by omega) _

set_option maxHeartbeats 400000 in
theorem nwork14 (a b c : Nat) (ha : a < M) (hb : b < M) : NWork 14 a b c (tw (slt a b)) := by
  intro w
  have HT := Hid.mk' (truth (slt a b))
  have HC := Hid.mk' (sless a b ha hb)
  go_enter Try.func12, Try.ntmps12
  go_wp2_with fail
  refine (HC.out _).mono ?_
  rintro e w0 ⟨rfl, hb0⟩
  have hB0 : Below w.heap.size w w0 := Below.over (below4 w _ _ _ _) hb0
  obtain ⟨hc0, hf0⟩ := bcell hb0
  have hz0 : w.heap.size + 1 + 1 + 1 < w0.heap.size := by have := hb0.size; simp at this; omega
  clear hb0
  go_wp2_with fail
  refine (HT.out _).mono ?_
  rintro e w1 ⟨rfl, hb1⟩
  have hz : w.heap.size + 1 + 1 + 1 < w1.heap.size := by have := hb1.size; omega
  have hB : Below w.heap.size w w1 := Below.over hB0 hb1
  have hc : ∀ i, w1.cell? ⟨w.heap.size + 1 + 1 + 1, i, none⟩ = w0.cell? ⟨w.heap.size + 1 + 1 + 1, i, none⟩ := fun i => hb1.cell (p := ⟨_, i, none⟩) hz0
  have hf : ∀ i, w1.frozen? ⟨w.heap.size + 1 + 1 + 1, i, none⟩ = w0.frozen? ⟨w.heap.size + 1 + 1 + 1, i, none⟩ := fun i => hb1.frozen (p := ⟨_, i, none⟩) hz0
  clear hb1
  go_wp2
  simp [bodyPost, results, Try.results12, go_sem, hc, hc0]
  exact set4_below hB (by omega) _

set_option maxHeartbeats 400000 in
theorem nwork15 (a b c : Nat) (ha : a < M) (hb : b < M) : NWork 15 a b c (tw (slt b a)) := by
  intro w
  have HT := Hid.mk' (truth (slt b a))
  have HC := Hid.mk' (sless b a hb ha)
  go_enter Try.func12, Try.ntmps12
  go_wp2_with fail
  refine (HC.out _).mono ?_
  rintro e w0 ⟨rfl, hb0⟩
  have hB0 : Below w.heap.size w w0 := Below.over (below4 w _ _ _ _) hb0
  obtain ⟨hc0, hf0⟩ := bcell hb0
  have hz0 : w.heap.size + 1 + 1 + 1 < w0.heap.size := by have := hb0.size; simp at this; omega
  clear hb0
  go_wp2_with fail
  refine (HT.out _).mono ?_
  rintro e w1 ⟨rfl, hb1⟩
  have hz : w.heap.size + 1 + 1 + 1 < w1.heap.size := by have := hb1.size; omega
  have hB : Below w.heap.size w w1 := Below.over hB0 hb1
  have hc : ∀ i, w1.cell? ⟨w.heap.size + 1 + 1 + 1, i, none⟩ = w0.cell? ⟨w.heap.size + 1 + 1 + 1, i, none⟩ := fun i => hb1.cell (p := ⟨_, i, none⟩) hz0
  have hf : ∀ i, w1.frozen? ⟨w.heap.size + 1 + 1 + 1, i, none⟩ = w0.frozen? ⟨w.heap.size + 1 + 1 + 1, i, none⟩ := fun i => hb1.frozen (p := ⟨_, i, none⟩) hz0
  clear hb1
  go_wp2
  simp [bodyPost, results, Try.results12, go_sem, hc, hc0]
  exact set4_below hB (by omega) _

set_option maxHeartbeats 400000 in
theorem nwork16 (a b c : Nat) (ha : a < M) (hb : b < M) : NWork 16 a b c (tw (decide (a = b))) := by
  intro w
  have HT := Hid.mk' (truth (decide (a = b)))
  rw [← eq4_lim a b ha hb] at HT ⊢
  go_enter Try.func12, Try.ntmps12
  go_wp2_with fail
  refine (HT.out _).mono ?_
  rintro e w1 ⟨rfl, hb1⟩
  obtain ⟨hc, hf⟩ := bcell hb1
  have hz : w.heap.size + 1 + 1 + 1 < w1.heap.size := by have := hb1.size; simp at this; omega
  have hB : Below w.heap.size w w1 := Below.over (below4 w _ _ _ _) hb1
  clear hb1
  go_wp2
  simp [bodyPost, results, Try.results12, go_sem, hc]
  exact set4_below hB (by omega) _

set_option maxHeartbeats 400000 in
theorem nwork17 (a b c : Nat) (ha : a < M) : NWork 17 a b c (tw (decide (a = 0))) := by
  intro w
  have HT := Hid.mk' (truth (decide (a = 0)))
  have h0 := eq4_lim a 0 ha M_pos
  rw [lim_z, lim_z, lim_z, lim_z] at h0
  rw [← h0] at HT ⊢
  clear h0
  go_enter Try.func12, Try.ntmps12
  go_wp2_with fail
  refine (HT.out _).mono ?_
  rintro e w1 ⟨rfl, hb1⟩
  obtain ⟨hc, hf⟩ := bcell hb1
  have hz : w.heap.size + 1 + 1 + 1 < w1.heap.size := by have := hb1.size; simp at this; omega
  have hB : Below w.heap.size w w1 := Below.over (below4 w _ _ _ _) hb1
  clear hb1
  go_wp2
  simp [bodyPost, results, Try.results12, go_sem, hc]
  exact set4_below hB (by omega) _

set_option maxHeartbeats 400000 in
theorem nwork18 (a b c : Nat) : NWork 18 a b c (a &&& b) := by
  intro w
  have HC := Hid.mk' (and_ a b)
  go_enter Try.func12, Try.ntmps12
  go_wp2_with fail
  refine (HC.out _).mono ?_
  rintro e w1 ⟨rfl, hb1⟩
  obtain ⟨hc, hf⟩ := bcell hb1
  have hz : w.heap.size + 1 + 1 + 1 < w1.heap.size := by have := hb1.size; simp at this; omega
  have hB : Below w.heap.size w w1 := Below.over (below4 w _ _ _ _) hb1
  clear hb1
  go_wp2
  simp [bodyPost, results, Try.results12, go_sem, hc]
  exact set4_below hB (by omega) _

set_option maxHeartbeats 400000 in
theorem nwork19 (a b c : Nat) : NWork 19 a b c (a ||| b) := by
  intro w
  have HC := Hid.mk' (or_ a b)
  go_enter Try.func12, Try.ntmps12
  go_wp2_with fail
  refine (HC.out _).mono ?_
  rintro e w1 ⟨rfl, hb1⟩
  obtain ⟨hc, hf⟩ := bcell hb1
  have hz : w.heap.size + 1 + 1 + 1 < w1.heap.size := by have := hb1.size; simp at this; omega
  have hB : Below w.heap.size w w1 := Below.over (below4 w _ _ _ _) hb1
  clear hb1
  go_wp2
  simp [bodyPost, results, Try.results12, go_sem, hc]
  exact set4_below hB (by omega) _

set_option maxHeartbeats 400000 in
theorem nwork20 (a b c : Nat) : NWork 20 a b c (a ^^^ b) := by
  intro w
  have HC := Hid.mk' (xor_ a b)
  go_enter Try.func12, Try.ntmps12
  go_wp2_with fail
  refine (HC.out _).mono ?_
  rintro e w1 ⟨rfl, hb1⟩
  obtain ⟨hc, hf⟩ := bcell hb1
  have hz : w.heap.size + 1 + 1 + 1 < w1.heap.size := by have := hb1.size; simp at this; omega
  have hB : Below w.heap.size w w1 := Below.over (below4 w _ _ _ _) hb1
  clear hb1
  go_wp2
  simp [bodyPost, results, Try.results12, go_sem, hc]
  exact set4_below hB (by omega) _

end Go.Proofs.Ytbephahokhnccaa

