/-
  A stretch of one block is written, and nothing else.
-/
import Derived.Test.YtbephahokhnccaaSum
namespace Go.Proofs.Ytbephahokhnccaa
open Go.RowKit Go.Shelf

/-- Of all that lies in memory only the cells lo .. hi - 1 of the block b may have turned. -/
structure Only (w w' : World) (b lo hi : Nat) : Prop where
  os : w'.os = w.os
  tape : w'.tape = w.tape
  output : w'.output = w.output
  size : w'.heap.size = w.heap.size
  block : ∀ k, k ≠ b → w'.heap[k]? = w.heap[k]?
  cell : ∀ o, o < lo ∨ hi ≤ o → w'.cell? ⟨b, o, none⟩ = w.cell? ⟨b, o, none⟩
  frozen : ∀ o, w'.frozen? ⟨b, o, none⟩ = w.frozen? ⟨b, o, none⟩

theorem Only.refl (w : World) (b lo hi : Nat) : Only w w b lo hi := ⟨rfl, rfl, rfl, rfl, fun _ _ => rfl, fun _ _ => rfl, fun _ => rfl⟩
theorem Only.trans {w w1 w2 : World} {b lo hi : Nat} (h : Only w w1 b lo hi) (k : Only w1 w2 b lo hi) : Only w w2 b lo hi :=
  ⟨k.os.trans h.os, k.tape.trans h.tape, k.output.trans h.output, k.size.trans h.size, fun j hj => (k.block j hj).trans (h.block j hj), fun o ho => (k.cell o ho).trans (h.cell o ho), fun o => (k.frozen o).trans (h.frozen o)⟩
theorem Only.drew {w w1 : World} {b lo hi : Nat} (h : Only w w1 b lo hi) : Only w w1.drew b lo hi := ⟨h.os, h.tape, h.output, h.size, h.block, h.cell, h.frozen⟩
theorem Only.drewN {w w1 : World} {b lo hi : Nat} (h : Only w w1 b lo hi) (n : Nat) : Only w (w1.drewN n) b lo hi := ⟨h.os, h.tape, h.output, h.size, h.block, h.cell, h.frozen⟩
theorem Only.setCell {w w1 : World} {b lo hi : Nat} (h : Only w w1 b lo hi) (o : Nat) (v : Value) (h1 : lo ≤ o) (h2 : o < hi) : Only w (w1.setCell ⟨b, o, none⟩ v) b lo hi := by
  refine ⟨h.os, h.tape, h.output, by simpa using h.size, fun k hk => (Below.heap_setCell _ _ _ _ hk).trans (h.block k hk), fun o' ho => ?_, fun o' => ?_⟩
  · rw [← h.cell o' ho]
    have hne : o ≠ o' := by omega
    simp [go_sem]
  · rw [← h.frozen o']
    simp [go_sem]
/-- A cell of another block. -/
theorem Only.other {w w1 : World} {b lo hi : Nat} (h : Only w w1 b lo hi) {k : Nat} (hk : k ≠ b) (o : Nat) : w1.cell? ⟨k, o, none⟩ = w.cell? ⟨k, o, none⟩ := World.cell?_of_block (w := w) (h.block k hk)
theorem Only.otherF {w w1 : World} {b lo hi : Nat} (h : Only w w1 b lo hi) {k : Nat} (hk : k ≠ b) (o : Nat) : w1.frozen? ⟨k, o, none⟩ = w.frozen? ⟨k, o, none⟩ := World.frozen?_of_block (w := w) (h.block k hk)
theorem Only.below {w w1 : World} {b lo hi B : Nat} (h : Only w w1 b lo hi) (hb : B ≤ b) : Below B w w1 := ⟨h.os, h.tape, h.output, by rw [h.size]; exact Nat.le_refl _, fun k hk => h.block k (by omega)⟩

end Go.Proofs.Ytbephahokhnccaa
