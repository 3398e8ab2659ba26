/-
  number.Work at the ops of division.
-/
import Derived.Test.YtbephahokhnccaaWork
import Derived.Test.YtbephahokhnccaaLs
import Derived.Test.YtbephahokhnccaaMo
import Derived.Test.YtbephahokhnccaaAm
import Derived.Test.YtbephahokhnccaaMm
import Derived.Test.YtbephahokhnccaaSd
import Derived.Test.YtbephahokhnccaaSq
namespace Go.Proofs.Ytbephahokhnccaa
open Go.RowKit Go.Shelf
attribute [local go_sem] wd run_eq4

set_option maxHeartbeats 400000 in
theorem nwork4 (a b c : Nat) (ha : a < M) (hb : b < M) : NWork 4 a b c (a / b) := by
  intro w
  have HC := Hid.mk' (div a b ha hb)
  go_enter Try.func12, Try.ntmps12
  go_wp2_with fail
  refine (HC.out _).mono ?_
  rintro e w1 ⟨rfl, hb1⟩
  obtain ⟨hc, hf⟩ := bcell hb1
  have hz : w.heap.size + 1 + 1 + 1 < w1.heap.size := by have := hb1.size; simp at this; omega
  have hB : Below w.heap.size w w1 := Below.over (below4 w _ _ _ _) hb1
  clear hb1
  go_wp2
  simp [bodyPost, results, Try.results12, go_sem, hc]
  exact set4_below hB (by omega) _

set_option maxHeartbeats 400000 in
theorem nwork5 (a b c : Nat) (ha : a < M) (hb : b < M) : NWork 5 a b c (rmod a b) := by
  intro w
  have HC := Hid.mk' (mod a b ha hb)
  go_enter Try.func12, Try.ntmps12
  go_wp2_with fail
  refine (HC.out _).mono ?_
  rintro e w1 ⟨rfl, hb1⟩
  obtain ⟨hc, hf⟩ := bcell hb1
  have hz : w.heap.size + 1 + 1 + 1 < w1.heap.size := by have := hb1.size; simp at this; omega
  have hB : Below w.heap.size w w1 := Below.over (below4 w _ _ _ _) hb1
  clear hb1
  go_wp2
  simp [bodyPost, results, Try.results12, go_sem, hc]
  exact set4_below hB (by omega) _

set_option maxHeartbeats 400000 in
theorem nwork6 (a b c : Nat) (ha : a < M) (hb : b < M) : NWork 6 a b c (sdv a b) := by
  intro w
  have HC := Hid.mk' (sdiv a b ha hb)
  go_enter Try.func12, Try.ntmps12
  go_wp2_with fail
  refine (HC.out _).mono ?_
  rintro e w1 ⟨rfl, hb1⟩
  obtain ⟨hc, hf⟩ := bcell hb1
  have hz : w.heap.size + 1 + 1 + 1 < w1.heap.size := by have := hb1.size; simp at this; omega
  have hB : Below w.heap.size w w1 := Below.over (below4 w _ _ _ _) hb1
  clear hb1
  go_wp2
  simp [bodyPost, results, Try.results12, go_sem, hc]
  exact set4_below hB (by omega) _

set_option maxHeartbeats 400000 in
theorem nwork7 (a b c : Nat) (ha : a < M) (hb : b < M) : NWork 7 a b c (smd a b) := by
  intro w
  have HC := Hid.mk' (smod a b ha hb)
  go_enter Try.func12, Try.ntmps12
  go_wp2_with fail
  refine (HC.out _).mono ?_
  rintro e w1 ⟨rfl, hb1⟩
  obtain ⟨hc, hf⟩ := bcell hb1
  have hz : w.heap.size + 1 + 1 + 1 < w1.heap.size := by have := hb1.size; simp at this; omega
  have hB : Below w.heap.size w w1 := Below.over (below4 w _ _ _ _) hb1
  clear hb1
  go_wp2
  simp [bodyPost, results, Try.results12, go_sem, hc]
  exact set4_below hB (by omega) _

set_option maxHeartbeats 400000 in
theorem nwork8 (a b c : Nat) (ha : a < M) (hb : b < M) (hc : c < M) : NWork 8 a b c (rmod (a + b) c) := by
  intro w
  have HC := Hid.mk' (addMod a b c ha hb hc)
  go_enter Try.func12, Try.ntmps12
  go_wp2_with fail
  refine (HC.out _).mono ?_
  rintro e w1 ⟨rfl, hb1⟩
  obtain ⟨hc, hf⟩ := bcell hb1
  have hz : w.heap.size + 1 + 1 + 1 < w1.heap.size := by have := hb1.size; simp at this; omega
  have hB : Below w.heap.size w w1 := Below.over (below4 w _ _ _ _) hb1
  clear hb1
  go_wp2
  simp [bodyPost, results, Try.results12, go_sem, hc]
  exact set4_below hB (by omega) _

set_option maxHeartbeats 400000 in
theorem nwork9 (a b c : Nat) (ha : a < M) (hb : b < M) (hc : c < M) : NWork 9 a b c (rmod (a * b) c) := by
  intro w
  have HC := Hid.mk' (mulMod a b c ha hb hc)
  go_enter Try.func12, Try.ntmps12
  go_wp2_with fail
  refine (HC.out _).mono ?_
  rintro e w1 ⟨rfl, hb1⟩
  obtain ⟨hc, hf⟩ := bcell hb1
  have hz : w.heap.size + 1 + 1 + 1 < w1.heap.size := by have := hb1.size; simp at this; omega
  have hB : Below w.heap.size w w1 := Below.over (below4 w _ _ _ _) hb1
  clear hb1
  go_wp2
  simp [bodyPost, results, Try.results12, go_sem, hc]
  exact set4_below hB (by omega) _

end Go.Proofs.Ytbephahokhnccaa
