/-
  No cell of these rows narrows 'for every input' (looked for: loops, veiled, ifaces, maps, wideKeys, modest, calm, conditions, laid).
  DERIVED. THE GIVEN ROWS OF THIS SEAT. 4 by the template 'for every input the law returns true; each argument reads behind the call as it read before'; 0 by the template 'total and deterministic' (their statements: YtbephahokhnccaaTotals.lean).
  GIVEN WITH THE SEED: the statements are not yours to turn. If you find one false, say at which input.
  Laid BY PROGRAM, IN A SANDBOX (cutbox-rows.mjs): the forced cells as the released guide's own fill.sh prints them over the translation 62739e1e20d1c6a4… (all of the seat's roots in one cut). By AI agents, Wed Nov 11 2026. No macro, syntax, notation, axiom, sorry.
-/
import Derived.Test.YtbephahokhnccaaChecked
import GoSem.Claim
import GoSem.ClaimJoined
import GoSem.ClaimMapViews
import Derived.JoinedTies
import Derived.KernelRfl
namespace Go.Proofs.Ytbephahokhnccaa
/- THE CELL 'sum', in the pinned program and in every row, IS THE sha256 OF THE DUMP (.gsa) THAT YtbephahokhnccaaProg.lean LOADS. Nothing in Lean hashes anything: it is a label: what it is worth is what the hold of that sum in a sandbox is worth. -/
noncomputable def Try.pinned : Pinned := { name := "ytbephahokhnccaa", sum := "62739e1e20d1c6a4f8b130e576067bc34394b0862974e6588e2a318f8c4df1a4", checked := Try.checked }
namespace Rows
def none {H : Type} : Left H := { results := [], args := [] }

/-- 'purserlaw.Works': WHATEVER THE INPUT: true; the input reads as it did. -/
def worksSpec : ChangeSpec := { name := "works", fn := fun _ => fun
  | [d1, d2, d3, d4] => { results := [.lit (.bool true)], args := [d1, d2, d3, d4] }
  | _ => none }
def worksRow : OpenClaim := { program := "ytbephahokhnccaa", sum := "62739e1e20d1c6a4f8b130e576067bc34394b0862974e6588e2a318f8c4df1a4", func := "purser/purserlaw.Works", spec := "works", inPlace := ["math/bits.Add64", "math/bits.Sub64"], named := ["math/bits.divideError", "math/bits.overflowError"], apart := false }
def WorksSaid : Prop := worksRow.holds Try.pinned (OpenSpec.ofChange worksSpec)

/-- ITS FALSE NEIGHBOUR: 'it returns false'. Refute it at one input. -/
def worksWrong : ChangeSpec := { name := "works", fn := fun _ => fun
  | [d1, d2, d3, d4] => { results := [.lit (.bool false)], args := [d1, d2, d3, d4] }
  | _ => none }
def WorksWrongFalsely : Prop := worksRow.holds Try.pinned (OpenSpec.ofChange worksWrong)

/-- 'purserkeep.Ring': WHATEVER THE INPUT: true; the input reads as it did. -/
def ringSpec : ChangeSpec := { name := "ring", fn := fun _ => fun
  | [d1, d2, d3] => { results := [.lit (.bool true)], args := [d1, d2, d3] }
  | _ => none }
def ringRow : OpenClaim := { program := "ytbephahokhnccaa", sum := "62739e1e20d1c6a4f8b130e576067bc34394b0862974e6588e2a318f8c4df1a4", func := "purser/purserkeep.Ring", spec := "ring", inPlace := ["math/bits.Add64", "math/bits.Sub64"], named := ["math/bits.divideError", "math/bits.overflowError"], apart := false }
def RingSaid : Prop := ringRow.holds Try.pinned (OpenSpec.ofChange ringSpec)

/-- ITS FALSE NEIGHBOUR: 'it returns false'. Refute it at one input. -/
def ringWrong : ChangeSpec := { name := "ring", fn := fun _ => fun
  | [d1, d2, d3] => { results := [.lit (.bool false)], args := [d1, d2, d3] }
  | _ => none }
def RingWrongFalsely : Prop := ringRow.holds Try.pinned (OpenSpec.ofChange ringWrong)

/-- 'purserkeep.Divides': WHATEVER THE INPUT: true; the input reads as it did. -/
def dividesSpec : ChangeSpec := { name := "divides", fn := fun _ => fun
  | [d1, d2, d3] => { results := [.lit (.bool true)], args := [d1, d2, d3] }
  | _ => none }
def dividesRow : OpenClaim := { program := "ytbephahokhnccaa", sum := "62739e1e20d1c6a4f8b130e576067bc34394b0862974e6588e2a318f8c4df1a4", func := "purser/purserkeep.Divides", spec := "divides", inPlace := ["math/bits.Add64", "math/bits.Sub64"], named := ["math/bits.divideError", "math/bits.overflowError"], apart := false }
def DividesSaid : Prop := dividesRow.holds Try.pinned (OpenSpec.ofChange dividesSpec)

/-- ITS FALSE NEIGHBOUR: 'it returns false'. Refute it at one input. -/
def dividesWrong : ChangeSpec := { name := "divides", fn := fun _ => fun
  | [d1, d2, d3] => { results := [.lit (.bool false)], args := [d1, d2, d3] }
  | _ => none }
def DividesWrongFalsely : Prop := dividesRow.holds Try.pinned (OpenSpec.ofChange dividesWrong)

/-- 'purserkeep.Orders': WHATEVER THE INPUT: true; the input reads as it did. -/
def ordersSpec : ChangeSpec := { name := "orders", fn := fun _ => fun
  | [d1, d2] => { results := [.lit (.bool true)], args := [d1, d2] }
  | _ => none }
def ordersRow : OpenClaim := { program := "ytbephahokhnccaa", sum := "62739e1e20d1c6a4f8b130e576067bc34394b0862974e6588e2a318f8c4df1a4", func := "purser/purserkeep.Orders", spec := "orders", inPlace := ["math/bits.Add64", "math/bits.Sub64"], named := ["math/bits.divideError", "math/bits.overflowError"], apart := false }
def OrdersSaid : Prop := ordersRow.holds Try.pinned (OpenSpec.ofChange ordersSpec)

/-- ITS FALSE NEIGHBOUR: 'it returns false'. Refute it at one input. -/
def ordersWrong : ChangeSpec := { name := "orders", fn := fun _ => fun
  | [d1, d2] => { results := [.lit (.bool false)], args := [d1, d2] }
  | _ => none }
def OrdersWrongFalsely : Prop := ordersRow.holds Try.pinned (OpenSpec.ofChange ordersWrong)

/- THE SECOND FORM. 'bulk': how many values and letters a reading holds, each counted each time it is reached (what is shared counts as often as it is met; a slice's spare places count too). A statement '..UptoSaid' is the law's where the arguments, and the package variables that the reading takes, are together of bulk at most 1048576: NARROWER than '..Said'. Prove '..Said' where nothing that the law and all that it calls make is longer than what came in: it says more and counts as full. Else prove '..UptoSaid'. A law counts once. -/
mutual
def uptoBulk {H : Type} : DataW H → Nat
  | .lit (.string bytes) => bytes.length + 1
  | .lit _ => 1
  | .nil => 1
  | .ptr d => uptoBulk d + 1
  | .slice elems spare => uptoBulkAll elems + uptoBulkAll spare + 1
  | .agg parts => uptoBulkAll parts + 1
  | .iface _ d => uptoBulk d + 1
  | .map entries => uptoBulkEntries entries + 1
  | .held _ => 1
def uptoBulkAll {H : Type} : List (DataW H) → Nat
  | [] => 0
  | d :: r => uptoBulk d + uptoBulkAll r
def uptoBulkEntries {H : Type} : List (Lit × DataW H) → Nat
  | [] => 0
  | x :: r => uptoBulkEntry x + uptoBulkEntries r
def uptoBulkEntry {H : Type} : Lit × DataW H → Nat
  | (.string bytes, d) => bytes.length + uptoBulk d + 1
  | (_, d) => uptoBulk d + 1
 end
def uptoSmall : (H : Type) → List (DataW H) → Bool := fun _ ds => decide (uptoBulkAll ds ≤ 1048576)
def OpenSpec.upto (s : _root_.Go.ChangeSpec) : _root_.Go.OpenSpec := { _root_.Go.OpenSpec.ofChange s with cond := some uptoSmall }

/-- 'purserlaw.Works', WHERE WHAT IT READS IS OF BULK AT MOST 1048576: true; the input reads as it did. -/
def worksUptoRow : OpenClaim := { program := "ytbephahokhnccaa", sum := "62739e1e20d1c6a4f8b130e576067bc34394b0862974e6588e2a318f8c4df1a4", func := "purser/purserlaw.Works", spec := "works", inPlace := ["math/bits.Add64", "math/bits.Sub64"], named := ["math/bits.divideError", "math/bits.overflowError"], apart := false, narrowed := true }
def WorksUptoSaid : Prop := worksUptoRow.holds Try.pinned (OpenSpec.upto worksSpec)

/-- 'purserkeep.Ring', WHERE WHAT IT READS IS OF BULK AT MOST 1048576: true; the input reads as it did. -/
def ringUptoRow : OpenClaim := { program := "ytbephahokhnccaa", sum := "62739e1e20d1c6a4f8b130e576067bc34394b0862974e6588e2a318f8c4df1a4", func := "purser/purserkeep.Ring", spec := "ring", inPlace := ["math/bits.Add64", "math/bits.Sub64"], named := ["math/bits.divideError", "math/bits.overflowError"], apart := false, narrowed := true }
def RingUptoSaid : Prop := ringUptoRow.holds Try.pinned (OpenSpec.upto ringSpec)

/-- 'purserkeep.Divides', WHERE WHAT IT READS IS OF BULK AT MOST 1048576: true; the input reads as it did. -/
def dividesUptoRow : OpenClaim := { program := "ytbephahokhnccaa", sum := "62739e1e20d1c6a4f8b130e576067bc34394b0862974e6588e2a318f8c4df1a4", func := "purser/purserkeep.Divides", spec := "divides", inPlace := ["math/bits.Add64", "math/bits.Sub64"], named := ["math/bits.divideError", "math/bits.overflowError"], apart := false, narrowed := true }
def DividesUptoSaid : Prop := dividesUptoRow.holds Try.pinned (OpenSpec.upto dividesSpec)

/-- 'purserkeep.Orders', WHERE WHAT IT READS IS OF BULK AT MOST 1048576: true; the input reads as it did. -/
def ordersUptoRow : OpenClaim := { program := "ytbephahokhnccaa", sum := "62739e1e20d1c6a4f8b130e576067bc34394b0862974e6588e2a318f8c4df1a4", func := "purser/purserkeep.Orders", spec := "orders", inPlace := ["math/bits.Add64", "math/bits.Sub64"], named := ["math/bits.divideError", "math/bits.overflowError"], apart := false, narrowed := true }
def OrdersUptoSaid : Prop := ordersUptoRow.holds Try.pinned (OpenSpec.upto ordersSpec)

end Rows
end Go.Proofs.Ytbephahokhnccaa
