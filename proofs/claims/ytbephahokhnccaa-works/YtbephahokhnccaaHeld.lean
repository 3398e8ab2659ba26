/-
  What a law's own variables hold while it calls: words in blocks of its own, kept by every callee.
-/
import Derived.Test.YtbephahokhnccaaCells
import Derived.OrdersHeld
import Derived.Deep.RegionHeld
namespace Go.Proofs.Ytbephahokhnccaa
open Go.RowKit Go.Shelf

theorem small_lt (n : Nat) (h : n < 100) : n < M := by unfold M; omega

/-- The block b holds the word n. -/
abbrev Eq4 (w : World) (b n : Nat) : Prop :=
  w.cell? ⟨b, 0, none⟩ = some (.int .u64 (lim n 0)) ∧ w.cell? ⟨b, 1, none⟩ = some (.int .u64 (lim n 1)) ∧ w.cell? ⟨b, 2, none⟩ = some (.int .u64 (lim n 2)) ∧ w.cell? ⟨b, 3, none⟩ = some (.int .u64 (lim n 3))

theorem Eq4.keep {W w1 : World} {b n B : Nat} (h : Eq4 W b n) (hb : Below B W w1) (hz : b < B) : Eq4 w1 b n :=
  ⟨(hb.cell (p := ⟨b, 0, none⟩) hz).trans h.1, (hb.cell (p := ⟨b, 1, none⟩) hz).trans h.2.1, (hb.cell (p := ⟨b, 2, none⟩) hz).trans h.2.2.1, (hb.cell (p := ⟨b, 3, none⟩) hz).trans h.2.2.2⟩

/-- A new block that holds a word. -/
abbrev put4 (w : World) (n : Nat) : World := w.alloc (.cells #[.int .u64 (lim n 0), .int .u64 (lim n 1), .int .u64 (lim n 2), .int .u64 (lim n 3)] 24)
theorem put4_new (w : World) (n : Nat) : Eq4 (put4 w n) w.heap.size n := by
  refine ⟨?_, ?_, ?_, ?_⟩ <;> simp [go_sem]
theorem put4_below (w : World) (n : Nat) : Below w.heap.size w (put4 w n) := (Below.refl _ _).alloc (Nat.le_refl _) _

/-- All of three words, and that nothing older has turned. -/
abbrev Held3 (w W : World) (b1 n1 b2 n2 b3 n3 : Nat) : Prop :=
  Eq4 W b1 n1 ∧ Eq4 W b2 n2 ∧ Eq4 W b3 n3 ∧ (b1 < W.heap.size ∧ b2 < W.heap.size ∧ b3 < W.heap.size) ∧ Below w.heap.size w W
theorem Held3.keep {w W w' : World} {b1 n1 b2 n2 b3 n3 : Nat} (h : Held3 w W b1 n1 b2 n2 b3 n3) (hb : Below W.heap.size W w') : Held3 w w' b1 n1 b2 n2 b3 n3 := by
  obtain ⟨h1, h2, h3, ⟨z1, z2, z3⟩, hB⟩ := h
  have s := hb.size
  exact ⟨Eq4.keep h1 hb z1, Eq4.keep h2 hb z2, Eq4.keep h3 hb z3, ⟨by omega, by omega, by omega⟩, hB.trans (hb.mono hB.size)⟩
theorem Held3.drew {w W : World} {b1 n1 b2 n2 b3 n3 : Nat} (h : Held3 w W b1 n1 b2 n2 b3 n3) : Held3 w W.drew b1 n1 b2 n2 b3 n3 := h.keep (Below.refl _ _).drew

abbrev Held4 (w W : World) (b1 n1 b2 n2 b3 n3 b4 n4 : Nat) : Prop :=
  Eq4 W b1 n1 ∧ Eq4 W b2 n2 ∧ Eq4 W b3 n3 ∧ Eq4 W b4 n4 ∧ (b1 < W.heap.size ∧ b2 < W.heap.size ∧ b3 < W.heap.size ∧ b4 < W.heap.size) ∧ Below w.heap.size w W
theorem Held4.keep {w W w' : World} {b1 n1 b2 n2 b3 n3 b4 n4 : Nat} (h : Held4 w W b1 n1 b2 n2 b3 n3 b4 n4) (hb : Below W.heap.size W w') : Held4 w w' b1 n1 b2 n2 b3 n3 b4 n4 := by
  obtain ⟨h1, h2, h3, h4, ⟨z1, z2, z3, z4⟩, hB⟩ := h
  have s := hb.size
  exact ⟨Eq4.keep h1 hb z1, Eq4.keep h2 hb z2, Eq4.keep h3 hb z3, Eq4.keep h4 hb z4, ⟨by omega, by omega, by omega, by omega⟩, hB.trans (hb.mono hB.size)⟩
theorem Held4.drew {w W : World} {b1 n1 b2 n2 b3 n3 b4 n4 : Nat} (h : Held4 w W b1 n1 b2 n2 b3 n3 b4 n4) : Held4 w W.drew b1 n1 b2 n2 b3 n3 b4 n4 := h.keep (Below.refl _ _).drew

abbrev Held5 (w W : World) (b1 n1 b2 n2 b3 n3 b4 n4 b5 n5 : Nat) : Prop :=
  Eq4 W b1 n1 ∧ Eq4 W b2 n2 ∧ Eq4 W b3 n3 ∧ Eq4 W b4 n4 ∧ Eq4 W b5 n5 ∧ (b1 < W.heap.size ∧ b2 < W.heap.size ∧ b3 < W.heap.size ∧ b4 < W.heap.size ∧ b5 < W.heap.size) ∧ Below w.heap.size w W
theorem Held5.keep {w W w' : World} {b1 n1 b2 n2 b3 n3 b4 n4 b5 n5 : Nat} (h : Held5 w W b1 n1 b2 n2 b3 n3 b4 n4 b5 n5) (hb : Below W.heap.size W w') : Held5 w w' b1 n1 b2 n2 b3 n3 b4 n4 b5 n5 := by
  obtain ⟨h1, h2, h3, h4, h5, ⟨z1, z2, z3, z4, z5⟩, hB⟩ := h
  have s := hb.size
  exact ⟨Eq4.keep h1 hb z1, Eq4.keep h2 hb z2, Eq4.keep h3 hb z3, Eq4.keep h4 hb z4, Eq4.keep h5 hb z5, ⟨by omega, by omega, by omega, by omega, by omega⟩, hB.trans (hb.mono hB.size)⟩
theorem Held5.drew {w W : World} {b1 n1 b2 n2 b3 n3 b4 n4 b5 n5 : Nat} (h : Held5 w W b1 n1 b2 n2 b3 n3 b4 n4 b5 n5) : Held5 w W.drew b1 n1 b2 n2 b3 n3 b4 n4 b5 n5 := h.keep (Below.refl _ _).drew

/-- One word more. -/
theorem Held3.put {w W : World} {b1 n1 b2 n2 b3 n3 : Nat} (h : Held3 w W b1 n1 b2 n2 b3 n3) (n : Nat) : Held4 w (put4 W n) b1 n1 b2 n2 b3 n3 W.heap.size n := by
  obtain ⟨h1, h2, h3, ⟨z1, z2, z3⟩, hB⟩ := h.keep (put4_below W n)
  exact ⟨h1, h2, h3, put4_new W n, ⟨z1, z2, z3, by simp⟩, hB⟩
theorem Held4.put {w W : World} {b1 n1 b2 n2 b3 n3 b4 n4 : Nat} (h : Held4 w W b1 n1 b2 n2 b3 n3 b4 n4) (n : Nat) : Held5 w (put4 W n) b1 n1 b2 n2 b3 n3 b4 n4 W.heap.size n := by
  obtain ⟨h1, h2, h3, h4, ⟨z1, z2, z3, z4⟩, hB⟩ := h.keep (put4_below W n)
  exact ⟨h1, h2, h3, h4, put4_new W n, ⟨z1, z2, z3, z4, by simp⟩, hB⟩

/-- The three words that come in. -/
theorem held_start (w : World) (a b c : Nat) : Held3 w (put4 (put4 (put4 w a) b) c) w.heap.size a (w.heap.size + 1) b (w.heap.size + 1 + 1) c := by
  have h1 := put4_new w a
  have h2 := put4_new (put4 w a) b
  have h3 := put4_new (put4 (put4 w a) b) c
  have s1 : (put4 w a).heap.size = w.heap.size + 1 := by simp
  have s2 : (put4 (put4 w a) b).heap.size = w.heap.size + 1 + 1 := by simp
  have s3 : (put4 (put4 (put4 w a) b) c).heap.size = w.heap.size + 1 + 1 + 1 := by simp
  have k2 := put4_below (put4 w a) b
  have k3 := put4_below (put4 (put4 w a) b) c
  refine ⟨Eq4.keep (Eq4.keep h1 k2 (by omega)) k3 (by omega), ?_, ?_, ⟨by omega, by omega, by omega⟩, ?_⟩
  · rw [s1] at h2; exact Eq4.keep h2 k3 (by omega)
  · rw [s2] at h3; exact h3
  · exact (put4_below w a).trans ((k2.mono (by omega)).trans (k3.mono (by omega)))

/-- An operation taken first, its place for the answer written out. -/
theorem take_d {P : Program} {ops : Array Oper} {Q : Exit → Act → World → Prop} {md : Region.Mode} {S : World → Prop} {i : Nat} {oi : Oper} {d : Option Tmp} {v : Value} {fuel : Nat} {listed : Array Bool} {a : Act} {w : World} (hi : ops[i]? = some oi) (hd : oi.dst = d)
    (hs : Region.noSelect ops = true) (hf : Region.free md ops listed i = true) (hr : (Region.ready md ops listed).contains i = true)
    (hQ : ∀ c a w, Q (.panic c) (a.put oi.dst v) w → Q (.panic c) a w) (hy : YieldsIf P ops S oi v a) (hS : S w)
    (h : wpAnyH P md ops Q S fuel (listed.setIfInBounds i true) (a.put d v) w) : wpAnyH P md ops Q S (fuel + 1) listed a w := by
  subst hd
  exact wpAnyH_take hi hs hf hr hQ hy hS h

end Go.Proofs.Ytbephahokhnccaa
