/-
  number.Exp at this program: what it returns: a to the b.
-/
import Derived.Test.YtbephahokhnccaaBitq
import Derived.Test.YtbephahokhnccaaJ3
import Derived.Test.YtbephahokhnccaaBl
namespace Go.Proofs.Ytbephahokhnccaa
open Go.RowKit Go.Shelf
attribute [local go_sem] wd

theorem lim_z (i : Nat) : lim 0 i = 0 := by unfold lim; simp
theorem lim1_0 : lim 1 0 = 1 := by decide
theorem lim1_1 : lim 1 1 = 0 := by decide
theorem lim1_2 : lim 1 2 = 0 := by decide
theorem lim1_3 : lim 1 3 = 0 := by decide

set_option maxHeartbeats 1000000 in
theorem exp (a b : Nat) (ha : a < M) (hb : b < M) (w : World) :
    Calls Try.prog 36 #[wd a, wd b] w fun e w' => e = .returned (wd (a ^ b % M)) ∧ Below w.heap.size w w' := by
  go_enter Try.func36, Try.ntmps36
  go_wp2_with fail
  refine (bitLength b hb _).mono ?_
  rintro e w1 ⟨L, rfl, hL, hL2, hb1⟩
  have hB : Below w.heap.size w w1 := Below.trans (b := (((w.alloc _).alloc _).alloc _).alloc _) (below4 w _ _ _ _) (hb1.mono (below4 w _ _ _ _).size)
  have hz : w.heap.size + 1 + 1 + 1 < w1.heap.size := by have := hb1.size; simp at this; omega
  obtain ⟨hc, hf⟩ := bcell hb1
  have C0 : Cells4 w1 (w.heap.size) (a) := ⟨by simp [hc, go_sem], by simp [hc, go_sem], by simp [hc, go_sem], by simp [hc, go_sem], by simp [hf, go_sem], by simp [hf, go_sem], by simp [hf, go_sem], by simp [hf, go_sem]⟩
  have C1 : Cells4 w1 (w.heap.size + 1) (b) := ⟨by simp [hc, go_sem], by simp [hc, go_sem], by simp [hc, go_sem], by simp [hc, go_sem], by simp [hf, go_sem], by simp [hf, go_sem], by simp [hf, go_sem], by simp [hf, go_sem]⟩
  have C2 : Cells4 w1 (w.heap.size + 1 + 1) (0) := ⟨by simp [hc, go_sem, lim_z], by simp [hc, go_sem, lim_z], by simp [hc, go_sem, lim_z], by simp [hc, go_sem, lim_z], by simp [hf, go_sem], by simp [hf, go_sem], by simp [hf, go_sem], by simp [hf, go_sem]⟩
  have C3 : Cells4 w1 (w.heap.size + 1 + 1 + 1) 1 := ⟨by simp [hc, go_sem, lim1_0], by simp [hc, go_sem, lim1_1], by simp [hc, go_sem, lim1_2], by simp [hc, go_sem, lim1_3], by simp [hf, go_sem], by simp [hf, go_sem], by simp [hf, go_sem], by simp [hf, go_sem]⟩
  clear hc hf hb1
  go_wp2
  go_loopw [10] (fun i wr => ∃ k : Nat, i = .int .i64 k ∧ k ≤ L ∧ Cells4 wr w.heap.size (pw a k) ∧ Cells4 wr (w.heap.size + 1) b ∧ Cells4 wr (w.heap.size + 1 + 1) 0 ∧ Cells4 wr (w.heap.size + 1 + 1 + 1) (pb a b k) ∧ w.heap.size + 1 + 1 + 1 < wr.heap.size ∧ Below w.heap.size w wr) (fun i _ => L - (intOf i).toNat)
  case atStart => exact ⟨0, rfl, Nat.zero_le _, by rw [pw_zero a ha]; exact C0, C1, C2, by rw [pb_zero]; exact C3, hz, hB⟩
  case round =>
    clear C0 C1 C2 C3 hz hB
    obtain ⟨k, rfl, hk, D0, D1, D2, D3, hz, hB⟩ := hrel
    by_cases hlt : k < L
    · have hlt' : (k : Int) < (L : Int) := by omega
      obtain ⟨y0, y1, y2, y3, y4, y5, y6, y7⟩ := D1
      go_wp2_with fail
      refine (bit b k (by omega) _).mono ?_
      rintro e w2 ⟨rfl, hb2⟩
      have D1 : Cells4 wr (w.heap.size + 1) b := ⟨y0, y1, y2, y3, y4, y5, y6, y7⟩
      clear y0 y1 y2 y3 y4 y5 y6 y7
      have D0 := D0.below hb2 (by omega)
      have D1 := D1.below hb2 (by omega)
      have D2 := D2.below hb2 (by omega)
      have D3 := D3.below hb2 (by omega)
      have hz : w.heap.size + 1 + 1 + 1 < w2.heap.size := Nat.lt_of_lt_of_le hz hb2.size
      have hB := hB.trans (hb2.mono hB.size)
      clear hb2
      cases ht : b.testBit k
      · have D0' := D0
        obtain ⟨x0, x1, x2, x3, x4, x5, x6, x7⟩ := D0'
        go_wp2_with fail
        refine (mul (pw a k) (pw a k) (pw_lt _ _) (pw_lt _ _) _).mono ?_
        rintro e w3 ⟨rfl, hb3⟩
        clear x0 x1 x2 x3 x4 x5 x6 x7
        have D0 := D0.below hb3 (by omega)
        have D1 := D1.below hb3 (by omega)
        have D2 := D2.below hb3 (by omega)
        have D3 := D3.below hb3 (by omega)
        have hz : w.heap.size + 1 + 1 + 1 < w3.heap.size := Nat.lt_of_lt_of_le hz hb3.size
        have hB := hB.trans (hb3.mono hB.size)
        clear hb3
        have D0' := D0
        obtain ⟨x0, x1, x2, x3, x4, x5, x6, x7⟩ := D0'
        go_wp2
        clear x0 x1 x2 x3 x4 x5 x6 x7
        go_roundw
        case rel =>
          refine ⟨k + 1, by go_num, by omega, ?_, D1.other (by omega) _, D2.other (by omega) _, ?_, by simpa using hz, set4_below hB (by omega) _⟩
          · rw [pw_succ]; exact D0.set _
          · rw [pb_none a b k ht]; exact D3.other (by omega) _
        case measure => simp [intOf]; omega
      · have D0' := D0
        have D3' := D3
        obtain ⟨x0, x1, x2, x3, x4, x5, x6, x7⟩ := D0'
        obtain ⟨z0, z1, z2, z3, z4, z5, z6, z7⟩ := D3'
        go_wp2_with fail
        refine (mul (pb a b k) (pw a k) (pb_lt _ _ _) (pw_lt _ _) _).mono ?_
        rintro e w3 ⟨rfl, hb3⟩
        clear x0 x1 x2 x3 x4 x5 x6 x7 z0 z1 z2 z3 z4 z5 z6 z7
        have D0 := D0.below hb3 (by omega)
        have D1 := D1.below hb3 (by omega)
        have D2 := D2.below hb3 (by omega)
        have D3 := D3.below hb3 (by omega)
        have hz : w.heap.size + 1 + 1 + 1 < w3.heap.size := Nat.lt_of_lt_of_le hz hb3.size
        have hB := hB.trans (hb3.mono hB.size)
        clear hb3
        have D0' := D0
        have D3' := D3
        obtain ⟨x0, x1, x2, x3, x4, x5, x6, x7⟩ := D0'
        obtain ⟨z0, z1, z2, z3, z4, z5, z6, z7⟩ := D3'
        go_wp2_with fail
        refine (mul (pw a k) (pw a k) (pw_lt _ _) (pw_lt _ _) (set4 w3 (w.heap.size + 1 + 1 + 1) (pb a b k * pw a k % M))).mono ?_
        rintro e w4 ⟨rfl, hb4⟩
        clear x0 x1 x2 x3 x4 x5 x6 x7 z0 z1 z2 z3 z4 z5 z6 z7
        have hs : (set4 w3 (w.heap.size + 1 + 1 + 1) (pb a b k * pw a k % M)).heap.size = w3.heap.size := by simp
        have D0 := (D0.other (c := w.heap.size + 1 + 1 + 1) (by omega) (pb a b k * pw a k % M)).below hb4 (by omega)
        have D1 := (D1.other (c := w.heap.size + 1 + 1 + 1) (by omega) (pb a b k * pw a k % M)).below hb4 (by omega)
        have D2 := (D2.other (c := w.heap.size + 1 + 1 + 1) (by omega) (pb a b k * pw a k % M)).below hb4 (by omega)
        have D3 := (D3.set (pb a b k * pw a k % M)).below hb4 (by omega)
        have hB := (set4_below hB (b := w.heap.size + 1 + 1 + 1) (by omega) (pb a b k * pw a k % M)).trans (hb4.mono (by omega))
        have hz : w.heap.size + 1 + 1 + 1 < w4.heap.size := by have := hb4.size; omega
        clear hb4 hs
        have D0' := D0
        obtain ⟨x0, x1, x2, x3, x4, x5, x6, x7⟩ := D0'
        go_wp2
        clear x0 x1 x2 x3 x4 x5 x6 x7
        go_roundw
        case rel =>
          refine ⟨k + 1, by go_num, by omega, ?_, D1.other (by omega) _, D2.other (by omega) _, ?_, by simpa using hz, set4_below hB (by omega) _⟩
          · rw [pw_succ]; exact D0.set _
          · rw [pb_one a b k ht]; exact D3.other (by omega) _
        case measure => simp [intOf]; omega
    · have hkl : k = L := by omega
      subst hkl
      rw [pb_all a b k hL] at D3
      have D2' := D2
      obtain ⟨x0, x1, x2, x3, x4, x5, x6, x7⟩ := D2'
      have D3' := D3
      obtain ⟨z0, z1, z2, z3, z4, z5, z6, z7⟩ := D3'
      go_wp2
      simp [bodyPost, results, Try.results36, go_sem, x0, x1, x2, x3]
      exact set4_below hB (by omega) _

end Go.Proofs.Ytbephahokhnccaa
