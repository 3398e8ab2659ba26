/-
  number.partLength, bitLength, bit, low, Mul at this program: what they return.
-/
import Derived.Test.YtbephahokhnccaaProd
import Derived.Test.YtbephahokhnccaaSum
import Derived.Test.YtbephahokhnccaaLen
namespace Go.Proofs.Ytbephahokhnccaa
open Go.RowKit Go.Shelf
attribute [local go_sem] wd dbl

theorem product (a b : Nat) (ha : a < M) (hb : b < M) (w : World) :
    Calls Try.prog 57 #[wd a, wd b] w fun e w' => e = .returned (dbl (a * b)) ∧ Below w.heap.size w w' := by
  refine (product_l _ _ _ _ _ _ _ _ w (lim_nn a 0) (lim_nn a 1) (lim_nn a 2) (lim_nn a 3) (lim_nn b 0) (lim_nn b 1) (lim_nn b 2) (lim_nn b 3)
    (lim_lt a 0) (lim_lt a 1) (lim_lt a 2) (lim_lt a 3) (lim_lt b 0) (lim_lt b 1) (lim_lt b 2) (lim_lt b 3)).mono fun e w' ⟨r0, r1, r2, r3, r4, r5, r6, r7, he, hp, hb'⟩ => ?_
  rw [← lim_sum a ha, ← lim_sum b hb, ← Int.natCast_mul] at hp
  obtain ⟨h0, h1, h2, h3, h4, h5, h6, h7⟩ := lim8_of _ _ _ _ _ _ _ _ _ hp
  unfold dbl
  rw [h0, h1, h2, h3, h4, h5, h6, h7]
  exact ⟨he, hb'⟩

set_option maxHeartbeats 400000 in
theorem low (n : Nat) (w : World) : Calls Try.prog 58 #[dbl n] w fun e w' => e = .returned (wd n) ∧ Below w.heap.size w w' := by
  go_enter Try.func58, Try.ntmps58
  go_wp2
  simp [bodyPost, results, Try.results58, go_sem]
  exact ((Below.refl _ _).alloc (Nat.le_refl _) _).alloc (by simp) _

theorem wd_mod (n : Nat) : wd (n % M) = wd n := by
  obtain ⟨h0, h1, h2, h3⟩ := lim_mod n
  unfold wd
  rw [h0, h1, h2, h3]

set_option maxHeartbeats 400000 in
theorem mul (a b : Nat) (ha : a < M) (hb : b < M) (w : World) :
    Calls Try.prog 29 #[wd a, wd b] w fun e w' => e = .returned (wd (a * b % M)) ∧ Below w.heap.size w w' := by
  rw [wd_mod]
  go_enter Try.func29, Try.ntmps29
  go_wp2_with fail
  refine (product a b ha hb _).mono ?_
  rintro e w1 ⟨rfl, hb1⟩
  go_wp2_with fail
  refine (low (a * b) _).mono ?_
  rintro e w2 ⟨rfl, hb2⟩
  have hB : Below w.heap.size w w1 := (below3 w _ _ _).trans (hb1.mono (below3 w _ _ _).size)
  have hB2 : Below w.heap.size w w2 := hB.trans (hb2.mono hB.size)
  have hb3 := hb1.trans (hb2.mono hb1.size)
  obtain ⟨hc, hf⟩ := bcell hb3
  clear hb1 hb2 hb3
  go_wp2
  simp [bodyPost, results, Try.results29, go_sem, hc]
  exact (((hB2.setCell (by dsimp only; omega) _).setCell (by dsimp only; omega) _).setCell (by dsimp only; omega) _).setCell (by dsimp only; omega) _

end Go.Proofs.Ytbephahokhnccaa
