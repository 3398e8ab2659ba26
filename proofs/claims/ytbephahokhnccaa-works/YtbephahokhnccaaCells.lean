/-
  A word that lies in a block of memory of the call's own; and plain facts on powers and on the number of bits.
-/
import Derived.Test.YtbephahokhnccaaSum
import Derived.Lib.BitFns
namespace Go.Proofs.Ytbephahokhnccaa
open Go.RowKit Go.Shelf

/-- The block b holds the word n, and may be written. -/
structure Cells4 (w : World) (b n : Nat) : Prop where
  c0 : w.cell? ⟨b, 0, none⟩ = some (.int .u64 (lim n 0))
  c1 : w.cell? ⟨b, 1, none⟩ = some (.int .u64 (lim n 1))
  c2 : w.cell? ⟨b, 2, none⟩ = some (.int .u64 (lim n 2))
  c3 : w.cell? ⟨b, 3, none⟩ = some (.int .u64 (lim n 3))
  f0 : w.frozen? ⟨b, 0, none⟩ = false
  f1 : w.frozen? ⟨b, 1, none⟩ = false
  f2 : w.frozen? ⟨b, 2, none⟩ = false
  f3 : w.frozen? ⟨b, 3, none⟩ = false

theorem Cells4.below {w w1 : World} {b n B : Nat} (h : Cells4 w b n) (hb : Below B w w1) (hz : b < B) : Cells4 w1 b n :=
  ⟨(hb.cell (p := ⟨b, 0, none⟩) hz).trans h.c0, (hb.cell (p := ⟨b, 1, none⟩) hz).trans h.c1, (hb.cell (p := ⟨b, 2, none⟩) hz).trans h.c2, (hb.cell (p := ⟨b, 3, none⟩) hz).trans h.c3,
   (hb.frozen (p := ⟨b, 0, none⟩) hz).trans h.f0, (hb.frozen (p := ⟨b, 1, none⟩) hz).trans h.f1, (hb.frozen (p := ⟨b, 2, none⟩) hz).trans h.f2, (hb.frozen (p := ⟨b, 3, none⟩) hz).trans h.f3⟩

/-- Four stores. -/
abbrev set4 (w : World) (b n : Nat) : World :=
  (((w.setCell ⟨b, 0, none⟩ (.int .u64 (lim n 0))).setCell ⟨b, 1, none⟩ (.int .u64 (lim n 1))).setCell ⟨b, 2, none⟩ (.int .u64 (lim n 2))).setCell ⟨b, 3, none⟩ (.int .u64 (lim n 3))

theorem Cells4.set {w : World} {b m : Nat} (h : Cells4 w b m) (n : Nat) : Cells4 (set4 w b n) b n := by
  obtain ⟨c0, c1, c2, c3, f0, f1, f2, f3⟩ := h
  refine ⟨?_, ?_, ?_, ?_, ?_, ?_, ?_, ?_⟩ <;> simp [go_sem, *]

theorem Cells4.other {w : World} {b m c : Nat} (h : Cells4 w b m) (hne : b ≠ c) (n : Nat) : Cells4 (set4 w c n) b m := by
  obtain ⟨c0, c1, c2, c3, f0, f1, f2, f3⟩ := h
  refine ⟨?_, ?_, ?_, ?_, ?_, ?_, ?_, ?_⟩ <;> simp [go_sem, *]

theorem set4_below {B : Nat} {a w : World} (h : Below B a w) {b : Nat} (hb : B ≤ b) (n : Nat) : Below B a (set4 w b n) :=
  (((h.setCell (p := ⟨b, 0, none⟩) hb _).setCell (p := ⟨b, 1, none⟩) hb _).setCell (p := ⟨b, 2, none⟩) hb _).setCell (p := ⟨b, 3, none⟩) hb _

theorem bitLenAux_lt : ∀ (f x : Nat), x < 2 ^ f → x < 2 ^ Lib.bitLenAux f x
  | 0, x, h => by simpa [Lib.bitLenAux] using h
  | f + 1, x, h => by
    simp only [Lib.bitLenAux]
    split
    · subst_vars; decide
    · have := bitLenAux_lt f (x / 2) (by rw [Nat.pow_succ] at h; omega)
      rw [Nat.add_comm 1, Nat.pow_succ]; omega
theorem bitLenAux_ge : ∀ (f x : Nat), x ≠ 0 → x < 2 ^ f → 2 ^ Lib.bitLenAux f x ≤ 2 * x
  | 0, x, h0, h => by simp at h; omega
  | f + 1, x, h0, h => by
    simp only [Lib.bitLenAux]
    rw [if_neg h0]
    by_cases h1 : x / 2 = 0
    · rw [h1]
      have : Lib.bitLenAux f 0 = 0 := by cases f <;> simp [Lib.bitLenAux]
      rw [this]; omega
    · have := bitLenAux_ge f (x / 2) h1 (by rw [Nat.pow_succ] at h; omega)
      rw [Nat.add_comm 1, Nat.pow_succ]; omega
theorem bitLen_lt (x : Nat) (h : x < 18446744073709551616) : x < 2 ^ Lib.bitLen x := bitLenAux_lt 64 x h
theorem bitLen_ge (x : Nat) (h0 : x ≠ 0) (h : x < 18446744073709551616) : 2 ^ Lib.bitLen x ≤ 2 * x := bitLenAux_ge 64 x h0 h

/-- a to the 2^k; a to the lowest k bits of b. -/
def pw (a k : Nat) : Nat := a ^ (2 ^ k) % M
def pb (a b k : Nat) : Nat := a ^ (b % 2 ^ k) % M
theorem M_pos : 0 < M := by unfold M; decide
theorem pw_lt (a k : Nat) : pw a k < M := Nat.mod_lt _ M_pos
theorem pb_lt (a b k : Nat) : pb a b k < M := Nat.mod_lt _ M_pos
theorem pw_zero (a : Nat) (h : a < M) : pw a 0 = a := by unfold pw; simp [Nat.mod_eq_of_lt h]
theorem pb_zero (a b : Nat) : pb a b 0 = 1 := by unfold pb; simp [Nat.mod_one]; rfl
theorem pw_succ (a k : Nat) : pw a (k + 1) = pw a k * pw a k % M := by
  unfold pw
  rw [← Nat.mul_mod, ← Nat.pow_add, Nat.pow_succ, Nat.mul_two]
theorem mod_bit (b k : Nat) : b % 2 ^ (k + 1) = b % 2 ^ k + if b.testBit k then 2 ^ k else 0 := by
  rw [Nat.pow_succ, Nat.mod_mul, Nat.testBit_eq_decide_div_mod_eq]
  have : b / 2 ^ k % 2 = 0 ∨ b / 2 ^ k % 2 = 1 := by omega
  rcases this with h | h <;> simp [h]
theorem pb_one (a b k : Nat) (h : b.testBit k = true) : pb a b (k + 1) = pb a b k * pw a k % M := by
  unfold pb pw
  rw [mod_bit, if_pos h, ← Nat.mul_mod, ← Nat.pow_add]
theorem pb_none (a b k : Nat) (h : b.testBit k = false) : pb a b (k + 1) = pb a b k := by
  unfold pb
  rw [mod_bit, if_neg (by simp [h]), Nat.add_zero]
theorem pb_all (a b k : Nat) (h : b < 2 ^ k) : pb a b k = a ^ b % M := by unfold pb; rw [Nat.mod_eq_of_lt h]

end Go.Proofs.Ytbephahokhnccaa
