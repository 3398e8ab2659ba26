/-
  A word that comes in: what its reading says of it, and its reading behind the call.
-/
import Derived.Test.YtbephahokhnccaaJ2
import Derived.Test.YtbephahokhnccaaEq
import Derived.ProofKit
import Derived.Lib.SmallJoins
import Derived.Laws.IdiomArrays
namespace Go.Proofs.Ytbephahokhnccaa
open Go.ChangeShapes Go.WideShapes Go.ChangeAt Go.RowKit Go.Joins

/-- A word, read. -/
abbrev wdD (H : Type) (n : Nat) : DataW H := .agg [.lit (.int .u64 (lim n 0)), .lit (.int .u64 (lim n 1)), .lit (.int .u64 (lim n 2)), .lit (.int .u64 (lim n 3))]

theorem c24 : Try.prog.cellsOf 24 = 4 := by kernel_rfl
theorem c22 : Try.prog.cellsOf 22 = 1 := by kernel_rfl

theorem lim_wf (n i : Nat) : (Lit.int .u64 (lim n i)).wf = true := by
  have a := lim_nn n i
  have b := lim_lt n i
  simp [Lit.wf, IntKind.min, IntKind.max, IntKind.signed, IntKind.bits]
  omega

theorem u64_bd {x : Int} (h : (Lit.int .u64 x).wf = true) : 0 ≤ x ∧ x < 18446744073709551616 := by
  simp [Lit.wf, IntKind.min, IntKind.max, IntKind.signed, IntKind.bits] at h
  omega

theorem open_word {H : Type} {enc : TypeId × Value → H} {W : World} {r : Reach} {b0 base : Nat} {spare : Nat → Bool} {held : Bool} {v : Value} {d : DataW H} {p : List MemPlace}
    (hv : Value.okWide Try.prog W r b0 24 v) (h : DataW.Trod enc Try.prog W base spare held 24 v d p) : ∃ n : Nat, n < M ∧ v = wd n ∧ d = wdD H n ∧ p = [] := by
  have hv' : ∃ cs, v = .agg cs ∧ cs.size = 4 := by
    simp only [Value.okWide, u24] at hv
    obtain ⟨cs, h1, h2, _⟩ := hv
    exact ⟨cs, h1, h2.trans c24⟩
  obtain ⟨cs, rfl, hsz⟩ := hv'
  obtain ⟨c0, c1, c2, c3, rfl⟩ := array4 hsz
  obtain ⟨fuel, hf⟩ := h
  have hf' : DataW.trod enc Try.prog W base spare held fuel 24 [c0, c1, c2, c3] = some (d, p) := by simpa [Value.cells] using hf
  obtain ⟨y0, y1, y2, y3, m, hx, h0, h1, h2, h3⟩ := trod_array4 u24 c22 hf'
  obtain ⟨x0, e0, rfl, w0⟩ := DataW.trod_int u22 h0
  obtain ⟨x1, e1, rfl, w1⟩ := DataW.trod_int u22 h1
  obtain ⟨x2, e2, rfl, w2⟩ := DataW.trod_int u22 h2
  obtain ⟨x3, e3, rfl, w3⟩ := DataW.trod_int u22 h3
  simp at e0 e1 e2 e3
  subst e0 e1 e2 e3
  simp at hx
  obtain ⟨rfl, rfl⟩ := hx
  obtain ⟨n, hn, rfl, rfl, rfl, rfl⟩ := wd_of x0 x1 x2 x3 (u64_bd w0).1 (u64_bd w1).1 (u64_bd w2).1 (u64_bd w3).1 (u64_bd w0).2 (u64_bd w1).2 (u64_bd w2).2 (u64_bd w3).2
  exact ⟨n, hn, rfl, rfl, rfl⟩

theorem shut_word {H : Type} {enc : TypeId × Value → H} {W : World} {base : Nat} {spare : Nat → Bool} {held : Bool} (n : Nat) : DataW.Trod enc Try.prog W base spare held 24 (wd n) (wdD H n) [] := by
  refine ⟨2, ?_⟩
  have r4 : List.range 4 = [0, 1, 2, 3] := rfl
  simp [DataW.trod, c24, c22, r4, Value.cells, lim_wf]

end Go.Proofs.Ytbephahokhnccaa
