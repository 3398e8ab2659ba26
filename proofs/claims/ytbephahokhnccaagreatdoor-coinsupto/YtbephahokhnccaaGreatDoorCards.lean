/-
  DERIVED. GIVEN WITH THE SEED: THE CARDS: each row of YtbephahokhnccaaGreatDoorRows.lean that lists a variable, with what it lists TIED to the program's text (the seventh form; the later family's looks); each row that meets fmt, with fmt's text TOLD by the authors' own Lean function (tested against real Go, not proved from fmt's source: count such statements apart). THE CARD IS WHAT COUNTS. Prove the row's statement (the work); the ties are given (YtbephahokhnccaaGreatDoorTie.lean); close each card by the builder's one call (the guide's Derived/Test/ToyasCard.lean, 'card_holds'). Laid BY PROGRAM, IN A SANDBOX (cutbox-door.mjs). By AI agents, Wed Nov 11 2026. No macro, syntax, notation, axiom, sorry.
-/
import Derived.Test.YtbephahokhnccaaGreatDoorRows
import GoSem.ClaimSeven
namespace Go.Proofs.YtbephahokhnccaaGreatDoor
namespace Rows

/-- THE TIED CARD OF 'purserlaw.Runs'. -/
def runsCard : Claim7 := { stood := { row := runsRow, standIns := [], harness := (true, "3430e03593c29cc297c61c08180cadc0f23d07af3fe5f95b60c8e34186d1bde9"), looks := true }, kinds := [], alts := [], goes := true, laidByText := true, laidKinds := [.handle, .sentinel, .sentinel, .sentinel, .sentinel, .sentinel, .sentinel, .sentinel, .sentinel], laidTests := true, laidLooks := .later }
def RunsCardSaid : Prop := Claim7.holds Tryz.pinned (.plain (OpenSpec.ofChange runsSpec)) runsCard

/-- THE TIED CARD OF 'purserkeep.Looped'. -/
def loopedCard : Claim7 := { stood := { row := loopedRow, standIns := [], harness := (true, "3430e03593c29cc297c61c08180cadc0f23d07af3fe5f95b60c8e34186d1bde9"), looks := true }, kinds := [], alts := [], goes := true, laidByText := true, laidKinds := [.handle, .sentinel, .sentinel, .sentinel, .sentinel, .sentinel, .sentinel, .sentinel, .sentinel], laidTests := true, laidLooks := .later }
def LoopedCardSaid : Prop := Claim7.holds Tryz.pinned (.plain (OpenSpec.ofChange loopedSpec)) loopedCard

/-- THE TIED CARD OF 'purserlaw.All'. -/
def allCard : Claim7 := { stood := { row := allRow, standIns := [], harness := (true, "3430e03593c29cc297c61c08180cadc0f23d07af3fe5f95b60c8e34186d1bde9"), looks := true }, kinds := [], alts := [], goes := true, laidByText := true, laidKinds := [.handle, .sentinel, .sentinel, .sentinel, .sentinel, .sentinel, .sentinel, .sentinel, .sentinel], laidTests := true, laidLooks := .later }
def AllCardSaid : Prop := Claim7.holds Tryz.pinned (.plain (OpenSpec.ofChange allSpec)) allCard

/-- THE TIED CARD OF 'purserkeep.Undone'. -/
def undoneCard : Claim7 := { stood := { row := undoneRow, standIns := [], harness := (true, "3430e03593c29cc297c61c08180cadc0f23d07af3fe5f95b60c8e34186d1bde9"), looks := true }, kinds := [], alts := [], goes := true, laidByText := true, laidKinds := [.handle, .sentinel, .sentinel, .sentinel, .sentinel, .sentinel, .sentinel, .sentinel, .sentinel], laidTests := true, laidLooks := .later }
def UndoneCardSaid : Prop := Claim7.holds Tryz.pinned (.plain (OpenSpec.ofChange undoneSpec)) undoneCard

/-- THE TIED CARD OF 'purserkeep.Coins'. -/
def coinsCard : Claim7 := { stood := { row := coinsRow, standIns := [], harness := (true, "3430e03593c29cc297c61c08180cadc0f23d07af3fe5f95b60c8e34186d1bde9"), looks := true }, kinds := [], alts := [], goes := true, laidByText := true, laidKinds := [.handle, .sentinel, .sentinel, .sentinel, .sentinel, .sentinel, .sentinel, .sentinel, .sentinel], laidTests := true, laidLooks := .later }
def CoinsCardSaid : Prop := Claim7.holds Tryz.pinned (.plain (OpenSpec.ofChange coinsSpec)) coinsCard

/-- THE TIED CARD OF 'purserkeep.Nested'. -/
def nestedCard : Claim7 := { stood := { row := nestedRow, standIns := [], harness := (true, "3430e03593c29cc297c61c08180cadc0f23d07af3fe5f95b60c8e34186d1bde9"), looks := true }, kinds := [], alts := [], goes := true, laidByText := true, laidKinds := [.handle, .sentinel, .sentinel, .sentinel, .sentinel, .sentinel, .sentinel, .sentinel, .sentinel], laidTests := true, laidLooks := .later }
def NestedCardSaid : Prop := Claim7.holds Tryz.pinned (.plain (OpenSpec.ofChange nestedSpec)) nestedCard

/-- THE SECOND FORM's CARD OF 'purserlaw.Runs'. -/
def runsUptoCard : Claim7 := { stood := { row := runsUptoRow, standIns := [], harness := (true, "3430e03593c29cc297c61c08180cadc0f23d07af3fe5f95b60c8e34186d1bde9"), looks := true }, kinds := [], alts := [], goes := true, laidByText := true, laidKinds := [.handle, .sentinel, .sentinel, .sentinel, .sentinel, .sentinel, .sentinel, .sentinel, .sentinel], laidTests := true, laidLooks := .later }
def RunsUptoCardSaid : Prop := Claim7.holds Tryz.pinned (.plain (OpenSpec.upto runsSpec)) runsUptoCard

/-- THE SECOND FORM's CARD OF 'purserkeep.Looped'. -/
def loopedUptoCard : Claim7 := { stood := { row := loopedUptoRow, standIns := [], harness := (true, "3430e03593c29cc297c61c08180cadc0f23d07af3fe5f95b60c8e34186d1bde9"), looks := true }, kinds := [], alts := [], goes := true, laidByText := true, laidKinds := [.handle, .sentinel, .sentinel, .sentinel, .sentinel, .sentinel, .sentinel, .sentinel, .sentinel], laidTests := true, laidLooks := .later }
def LoopedUptoCardSaid : Prop := Claim7.holds Tryz.pinned (.plain (OpenSpec.upto loopedSpec)) loopedUptoCard

/-- THE SECOND FORM's CARD OF 'purserlaw.All'. -/
def allUptoCard : Claim7 := { stood := { row := allUptoRow, standIns := [], harness := (true, "3430e03593c29cc297c61c08180cadc0f23d07af3fe5f95b60c8e34186d1bde9"), looks := true }, kinds := [], alts := [], goes := true, laidByText := true, laidKinds := [.handle, .sentinel, .sentinel, .sentinel, .sentinel, .sentinel, .sentinel, .sentinel, .sentinel], laidTests := true, laidLooks := .later }
def AllUptoCardSaid : Prop := Claim7.holds Tryz.pinned (.plain (OpenSpec.upto allSpec)) allUptoCard

/-- THE SECOND FORM's CARD OF 'purserkeep.Undone'. -/
def undoneUptoCard : Claim7 := { stood := { row := undoneUptoRow, standIns := [], harness := (true, "3430e03593c29cc297c61c08180cadc0f23d07af3fe5f95b60c8e34186d1bde9"), looks := true }, kinds := [], alts := [], goes := true, laidByText := true, laidKinds := [.handle, .sentinel, .sentinel, .sentinel, .sentinel, .sentinel, .sentinel, .sentinel, .sentinel], laidTests := true, laidLooks := .later }
def UndoneUptoCardSaid : Prop := Claim7.holds Tryz.pinned (.plain (OpenSpec.upto undoneSpec)) undoneUptoCard

/-- THE SECOND FORM's CARD OF 'purserkeep.Coins'. -/
def coinsUptoCard : Claim7 := { stood := { row := coinsUptoRow, standIns := [], harness := (true, "3430e03593c29cc297c61c08180cadc0f23d07af3fe5f95b60c8e34186d1bde9"), looks := true }, kinds := [], alts := [], goes := true, laidByText := true, laidKinds := [.handle, .sentinel, .sentinel, .sentinel, .sentinel, .sentinel, .sentinel, .sentinel, .sentinel], laidTests := true, laidLooks := .later }
def CoinsUptoCardSaid : Prop := Claim7.holds Tryz.pinned (.plain (OpenSpec.upto coinsSpec)) coinsUptoCard

/-- THE SECOND FORM's CARD OF 'purserkeep.Nested'. -/
def nestedUptoCard : Claim7 := { stood := { row := nestedUptoRow, standIns := [], harness := (true, "3430e03593c29cc297c61c08180cadc0f23d07af3fe5f95b60c8e34186d1bde9"), looks := true }, kinds := [], alts := [], goes := true, laidByText := true, laidKinds := [.handle, .sentinel, .sentinel, .sentinel, .sentinel, .sentinel, .sentinel, .sentinel, .sentinel], laidTests := true, laidLooks := .later }
def NestedUptoCardSaid : Prop := Claim7.holds Tryz.pinned (.plain (OpenSpec.upto nestedSpec)) nestedUptoCard
end Rows
end Go.Proofs.YtbephahokhnccaaGreatDoor
