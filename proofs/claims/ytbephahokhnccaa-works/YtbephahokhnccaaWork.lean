/-
  What the ops of Work make of numbers; number.Work, purser.Work, purserkeep.work at the ops of sums, products, powers and Not.
-/
import Derived.Test.YtbephahokhnccaaExp
import Derived.Test.YtbephahokhnccaaNot
namespace Go.Proofs.Ytbephahokhnccaa
open Go.RowKit Go.Shelf
attribute [local go_sem] wd

theorem Below.over {w W w1 : World} (h : Below w.heap.size w W) (hb : Below W.heap.size W w1) : Below w.heap.size w w1 := h.trans (hb.mono h.size)

set_option maxHeartbeats 400000 in
theorem nwork1 (a b c : Nat) (ha : a < M) (hb : b < M) (w : World) :
    Calls Try.prog 12 #[.int .u8 1, wd a, wd b, wd c] w fun e w' => e = .returned (wd ((a + b) % M)) ∧ Below w.heap.size w w' := by
  go_enter Try.func12, Try.ntmps12
  go_wp2_with fail
  refine (add a b ha hb _).mono ?_
  rintro e w1 ⟨rfl, hb1⟩
  obtain ⟨hc, hf⟩ := bcell hb1
  have hz : w.heap.size + 1 + 1 + 1 < w1.heap.size := by have := hb1.size; simp at this; omega
  have hB : Below w.heap.size w w1 := Below.over (below4 w _ _ _ _) hb1
  clear hb1
  go_wp2
  simp [bodyPost, results, Try.results12, go_sem, hc]
  exact set4_below hB (by omega) _

set_option maxHeartbeats 400000 in
theorem nwork2 (a b c : Nat) (ha : a < M) (hb : b < M) (w : World) :
    Calls Try.prog 12 #[.int .u8 2, wd a, wd b, wd c] w fun e w' => e = .returned (wd ((a + M - b) % M)) ∧ Below w.heap.size w w' := by
  go_enter Try.func12, Try.ntmps12
  go_wp2_with fail
  refine (sub a b ha hb _).mono ?_
  rintro e w1 ⟨rfl, hb1⟩
  obtain ⟨hc, hf⟩ := bcell hb1
  have hz : w.heap.size + 1 + 1 + 1 < w1.heap.size := by have := hb1.size; simp at this; omega
  have hB : Below w.heap.size w w1 := Below.over (below4 w _ _ _ _) hb1
  clear hb1
  go_wp2
  simp [bodyPost, results, Try.results12, go_sem, hc]
  exact set4_below hB (by omega) _

set_option maxHeartbeats 400000 in
theorem nwork3 (a b c : Nat) (ha : a < M) (hb : b < M) (w : World) :
    Calls Try.prog 12 #[.int .u8 3, wd a, wd b, wd c] w fun e w' => e = .returned (wd (a * b % M)) ∧ Below w.heap.size w w' := by
  go_enter Try.func12, Try.ntmps12
  go_wp2_with fail
  refine (mul a b ha hb _).mono ?_
  rintro e w1 ⟨rfl, hb1⟩
  obtain ⟨hc, hf⟩ := bcell hb1
  have hz : w.heap.size + 1 + 1 + 1 < w1.heap.size := by have := hb1.size; simp at this; omega
  have hB : Below w.heap.size w w1 := Below.over (below4 w _ _ _ _) hb1
  clear hb1
  go_wp2
  simp [bodyPost, results, Try.results12, go_sem, hc]
  exact set4_below hB (by omega) _

set_option maxHeartbeats 400000 in
theorem nwork10 (a b c : Nat) (ha : a < M) (hb : b < M) (w : World) :
    Calls Try.prog 12 #[.int .u8 10, wd a, wd b, wd c] w fun e w' => e = .returned (wd (a ^ b % M)) ∧ Below w.heap.size w w' := by
  go_enter Try.func12, Try.ntmps12
  go_wp2_with fail
  refine (exp a b ha hb _).mono ?_
  rintro e w1 ⟨rfl, hb1⟩
  obtain ⟨hc, hf⟩ := bcell hb1
  have hz : w.heap.size + 1 + 1 + 1 < w1.heap.size := by have := hb1.size; simp at this; omega
  have hB : Below w.heap.size w w1 := Below.over (below4 w _ _ _ _) hb1
  clear hb1
  go_wp2
  simp [bodyPost, results, Try.results12, go_sem, hc]
  exact set4_below hB (by omega) _

set_option maxHeartbeats 400000 in
theorem nwork21 (a b c : Nat) (ha : a < M) (w : World) :
    Calls Try.prog 12 #[.int .u8 21, wd a, wd b, wd c] w fun e w' => e = .returned (wd (M - 1 - a)) ∧ Below w.heap.size w w' := by
  go_enter Try.func12, Try.ntmps12
  go_wp2_with fail
  refine (not a ha _).mono ?_
  rintro e w1 ⟨rfl, hb1⟩
  obtain ⟨hc, hf⟩ := bcell hb1
  have hz : w.heap.size + 1 + 1 + 1 < w1.heap.size := by have := hb1.size; simp at this; omega
  have hB : Below w.heap.size w w1 := Below.over (below4 w _ _ _ _) hb1
  clear hb1
  go_wp2
  simp [bodyPost, results, Try.results12, go_sem, hc]
  exact set4_below hB (by omega) _

/-- What an op makes of numbers. -/
def opw (op : Int) (a b : Nat) : Nat :=
  if op = 1 then (a + b) % M else if op = 2 then (a + M - b) % M else if op = 3 then a * b % M else if op = 10 then a ^ b % M else if op = 21 then M - 1 - a else 0

theorem opw_1 (a b : Nat) : opw 1 a b = (a + b) % M := by unfold opw; rw [if_pos rfl]
theorem opw_2 (a b : Nat) : opw 2 a b = (a + M - b) % M := by unfold opw; rw [if_neg (by decide), if_pos rfl]
theorem opw_3 (a b : Nat) : opw 3 a b = a * b % M := by unfold opw; rw [if_neg (by decide), if_neg (by decide), if_pos rfl]
theorem opw_10 (a b : Nat) : opw 10 a b = a ^ b % M := by unfold opw; rw [if_neg (by decide), if_neg (by decide), if_neg (by decide), if_pos rfl]
theorem opw_21 (a b : Nat) : opw 21 a b = M - 1 - a := by unfold opw; rw [if_neg (by decide), if_neg (by decide), if_neg (by decide), if_neg (by decide), if_pos rfl]

theorem opw_lt (op : Int) (a b : Nat) : opw op a b < M := by
  unfold opw
  have := M_pos
  have m : ∀ n : Nat, n % M < M := fun n => Nat.mod_lt _ M_pos
  repeat' split
  all_goals first | exact m _ | omega

/-- The contract of number.Work at one op and three words. -/
def NWork (op : Int) (a b c r : Nat) : Prop := ∀ w : World, Calls Try.prog 12 #[.int .u8 op, wd a, wd b, wd c] w fun e w' => e = .returned (wd r) ∧ Below w.heap.size w w'

set_option maxHeartbeats 400000 in
theorem pwork {op : Int} {a b c r : Nat} (h : NWork op a b c r) (w : World) :
    Calls Try.prog 7 #[.int .u8 op, wd a, wd b, wd c] w fun e w' => e = .returned (wd r) ∧ Below w.heap.size w w' := by
  go_enter Try.func7, Try.ntmps7
  go_wp2_with fail
  refine (h _).mono ?_
  rintro e w1 ⟨rfl, hb1⟩
  obtain ⟨hc, hf⟩ := bcell hb1
  have hz : w.heap.size + 1 + 1 + 1 < w1.heap.size := by have := hb1.size; simp at this; omega
  have hB : Below w.heap.size w w1 := Below.over (below4 w _ _ _ _) hb1
  clear hb1
  go_wp2
  simp [bodyPost, results, Try.results7, go_sem, hc]
  exact set4_below hB (by omega) _

theorem wd0 : wd 0 = .agg #[.int .u64 0, .int .u64 0, .int .u64 0, .int .u64 0] := by unfold wd; simp [lim_z]

set_option maxHeartbeats 400000 in
theorem kwork {op : Int} {a b r : Nat} (h : NWork op a b 0 r) (w : World) :
    Calls Try.prog 9 #[.int .u8 op, wd a, wd b] w fun e w' => e = .returned (wd r) ∧ Below w.heap.size w w' := by
  have h7 := pwork h
  rw [wd0] at h7
  go_enter Try.func9, Try.ntmps9
  go_wp2_with fail
  refine (h7 _).mono ?_
  rintro e w1 ⟨rfl, hb1⟩
  clear h7
  obtain ⟨hc, hf⟩ := bcell hb1
  have hz : w.heap.size + 1 + 1 < w1.heap.size := by have := hb1.size; simp at this; omega
  have hB : Below w.heap.size w w1 := Below.over (below3 w _ _ _) hb1
  clear hb1
  go_wp2
  simp [bodyPost, results, Try.results9, go_sem, hc]
  exact set4_below hB (by omega) _

theorem nwork (op : Int) (hop : op = 1 ∨ op = 2 ∨ op = 3 ∨ op = 10 ∨ op = 21) (a b c : Nat) (ha : a < M) (hb : b < M) : NWork op a b c (opw op a b) := by
  intro w
  rcases hop with rfl | rfl | rfl | rfl | rfl
  · rw [opw_1]; exact nwork1 a b c ha hb w
  · rw [opw_2]; exact nwork2 a b c ha hb w
  · rw [opw_3]; exact nwork3 a b c ha hb w
  · rw [opw_10]; exact nwork10 a b c ha hb w
  · rw [opw_21]; exact nwork21 a b c ha w

/-- purserkeep.work at the ops of Ring. -/
theorem work (op : Int) (hop : op = 1 ∨ op = 2 ∨ op = 3 ∨ op = 10 ∨ op = 21) (a b : Nat) (ha : a < M) (hb : b < M) (w : World) :
    Calls Try.prog 9 #[.int .u8 op, wd a, wd b] w fun e w' => e = .returned (wd (opw op a b)) ∧ Below w.heap.size w w' := kwork (nwork op hop a b 0 ha hb) w

theorem lim_small (n : Nat) (h : n < 18446744073709551616) : lim n 0 = n ∧ lim n 1 = 0 ∧ lim n 2 = 0 ∧ lim n 3 = 0 := by
  unfold lim
  simp only [Nat.pow_zero, Nat.pow_one, Nat.div_one, Nat.reducePow]
  omega

set_option maxHeartbeats 400000 in
/-- purserkeep.of at a small number. -/
theorem of_ (n : Int) (h0 : 0 ≤ n) (h1 : n < 1000000) (w : World) :
    Calls Try.prog 10 #[.int .i64 n] w fun e w' => e = .returned (wd n.toNat) ∧ Below w.heap.size w w' := by
  obtain ⟨e0, e1, e2, e3⟩ := lim_small n.toNat (by omega)
  have e4 : ((n.toNat : Nat) : Int) = n := by omega
  rw [e4] at e0
  unfold wd
  rw [e0, e1, e2, e3]
  clear e0 e1 e2 e3 e4
  go_enter Try.func10, Try.ntmps10
  go_wp2
  simp [bodyPost, results, Try.results10, go_sem]
  exact (Below.refl _ _).alloc (Nat.le_refl _) _

end Go.Proofs.Ytbephahokhnccaa
