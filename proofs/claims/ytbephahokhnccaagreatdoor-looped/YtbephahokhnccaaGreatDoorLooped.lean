/- The law Looped returns true at every input; the listed package-level variables are tied to the text of the pruned copy of the program: the card. -/
import Derived.Test.YtbephahokhnccaaGreatDoorCards
import Derived.Test.YtbephahokhnccaaGreatDoorTie
import Derived.Test.YtbephahokhnccaaGreatDoorLoopedRow
namespace Go.Proofs.YtbephahokhnccaaGreatDoor
open Go
set_option maxRecDepth 100000
theorem j5 : Rows.loopedRow.wfByText (OpenSpec.ofChange Rows.loopedSpec) = true := by kernel_rfl
theorem j6 : Tryz.pinned.checked.prog.mainIs = some (true, "3430e03593c29cc297c61c08180cadc0f23d07af3fe5f95b60c8e34186d1bde9".toList) := by kernel_rfl
theorem j7 : true = Tryz.pinned.checked.prog.looks [] := by kernel_rfl
theorem j8 : true = Rows.loopedRow.goesBy Tryz.pinned.checked.prog := by kernel_rfl
theorem j9 : Tryz.prog.wantsStandIn 3 = false := by kernel_rfl
theorem looped_card_holds : Rows.LoopedCardSaid := by
  refine ⟨Claim7.tied_new_at .later [.handle, .sentinel, .sentinel, .sentinel, .sentinel, .sentinel, .sentinel, .sentinel, .sentinel] true (Claim7.new_of_sixth looped_holds (true, "3430e03593c29cc297c61c08180cadc0f23d07af3fe5f95b60c8e34186d1bde9") true rfl ⟨rfl, rfl⟩ j6 rfl (fun f fn hf hfn => ?_)) j5, (fun D hD => by cases hD), looped_row_tie, (fun h => by cases h), j8⟩
  obtain rfl : f = 4 := (Option.some.inj (j1.symm.trans hf)).symm
  obtain rfl : fn = Tryz.f4 := (Option.some.inj (Tryz.func4.symm.trans hfn)).symm
  refine ⟨j7, fun j t ht => ?_⟩
  rw [Tryz.params4] at ht
  have h3 : t = 3 := by
    rcases j with _ | _ | j
    · simpa using ht.symm
    · simpa using ht.symm
    · simp at ht
  subst h3
  exact j9
end Go.Proofs.YtbephahokhnccaaGreatDoor
