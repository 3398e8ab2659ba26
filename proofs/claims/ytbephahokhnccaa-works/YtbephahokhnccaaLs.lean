/-
  Any number of words that a law holds while it calls; the contracts of Work by letters; true1.
-/
import Derived.Test.YtbephahokhnccaaWork
import Derived.Test.YtbephahokhnccaaEq
import Derived.Test.YtbephahokhnccaaHeld
namespace Go.Proofs.Ytbephahokhnccaa
open Go.RowKit Go.Shelf
attribute [local go_sem] wd run_eq4

/-- All words of a list (block, number), and that nothing older has turned. -/
structure HeldL (w W : World) (l : List (Nat × Nat)) : Prop where
  c : ∀ p ∈ l, Eq4 W p.1 p.2 ∧ p.1 < W.heap.size
  b : Below w.heap.size w W

theorem HeldL.keep {w W w' : World} {l : List (Nat × Nat)} (h : HeldL w W l) (hb : Below W.heap.size W w') : HeldL w w' l :=
  ⟨fun p hp => ⟨Eq4.keep (h.c p hp).1 hb (h.c p hp).2, Nat.lt_of_lt_of_le (h.c p hp).2 hb.size⟩, h.b.trans (hb.mono h.b.size)⟩
theorem HeldL.drew {w W : World} {l : List (Nat × Nat)} (h : HeldL w W l) : HeldL w W.drew l := h.keep (Below.refl _ _).drew
theorem HeldL.put {w W : World} {l : List (Nat × Nat)} (h : HeldL w W l) (n : Nat) : HeldL w (put4 W n) ((W.heap.size, n) :: l) := by
  have k := h.keep (put4_below W n)
  refine ⟨fun p hp => ?_, k.b⟩
  rcases List.mem_cons.1 hp with rfl | hp
  · exact ⟨put4_new W n, by simp⟩
  · exact k.c p hp
theorem HeldL.get {w W : World} {l : List (Nat × Nat)} (h : HeldL w W l) (b n : Nat) (hm : (b, n) ∈ l) : Eq4 W b n := (h.c (b, n) hm).1
theorem HeldL.sub {w W : World} {l k : List (Nat × Nat)} (h : HeldL w W l) (hk : ∀ p ∈ k, p ∈ l) : HeldL w W k := ⟨fun p hp => h.c p (hk p hp), h.b⟩
theorem HeldL.cons {w W : World} {l : List (Nat × Nat)} (h : HeldL w W l) (b n : Nat) (he : Eq4 W b n) (hz : b < W.heap.size) : HeldL w W ((b, n) :: l) := by
  refine ⟨fun p hp => ?_, h.b⟩
  rcases List.mem_cons.1 hp with rfl | hp
  · exact ⟨he, hz⟩
  · exact h.c p hp

theorem heldL3 (w : World) (a b c : Nat) : HeldL w (put4 (put4 (put4 w a) b) c) [(w.heap.size, a), (w.heap.size + 1, b), (w.heap.size + 1 + 1, c)] := by
  obtain ⟨h1, h2, h3, ⟨z1, z2, z3⟩, hB⟩ := held_start w a b c
  refine ⟨fun p hp => ?_, hB⟩
  simp only [List.mem_cons, List.not_mem_nil, or_false] at hp
  rcases hp with rfl | rfl | rfl
  · exact ⟨h1, z1⟩
  · exact ⟨h2, z2⟩
  · exact ⟨h3, z3⟩
theorem heldL2 (w : World) (a b : Nat) : HeldL w (put4 (put4 w a) b) [(w.heap.size, a), (w.heap.size + 1, b)] := by
  have s1 : (put4 w a).heap.size = w.heap.size + 1 := by simp
  have h0 : HeldL w w [] := ⟨fun p hp => by simp at hp, Below.refl _ _⟩
  have h := (h0.put a).put b
  rw [s1] at h
  exact h.sub (fun p hp => by simp at hp ⊢; exact hp.symm)

/-- purserkeep.work at one op and two words. -/
def KW (op : Int) (a b r : Nat) : Prop := ∀ w : World, Calls Try.prog 9 #[.int .u8 op, wd a, wd b] w fun e w' => e = .returned (wd r) ∧ Below w.heap.size w w'
/-- purser.Work at one op and three words. -/
def PW (op : Int) (a b c r : Nat) : Prop := ∀ w : World, Calls Try.prog 7 #[.int .u8 op, wd a, wd b, wd c] w fun e w' => e = .returned (wd r) ∧ Below w.heap.size w w'

set_option maxHeartbeats 400000 in
theorem true1 (n : Nat) (hn : n < M) (w : World) : Calls Try.prog 11 #[wd n] w fun e w' => e = .returned (.bool (decide (n = 1))) ∧ Below w.heap.size w w' := by
  obtain ⟨e0, e1, e2, e3⟩ := lim_small 1 (by decide)
  have h := eq4_lim n 1 hn (small_lt 1 (by decide))
  rw [e0, e1, e2, e3] at h
  rw [← h]
  clear e0 e1 e2 e3 h
  go_enter Try.func11, Try.ntmps11
  go_wp2
  go_ret
  exact ⟨rfl, (Below.refl _ _).alloc (Nat.le_refl _) _⟩
/-- true1 of 1. -/
def T1 : Prop := ∀ w : World, Calls Try.prog 11 #[wd 1] w fun e w' => e = .returned (.bool true) ∧ Below w.heap.size w w'
theorem t1 : T1 := fun w => by
  have h := true1 1 (small_lt 1 (by decide)) w
  rwa [decide_eq_true rfl] at h

end Go.Proofs.Ytbephahokhnccaa
