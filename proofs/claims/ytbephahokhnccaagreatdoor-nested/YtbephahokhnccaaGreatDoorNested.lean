/- The law Nested returns true at every input; the listed package-level variables are tied to the text of the pruned copy of the program: the card. -/
import Derived.Test.YtbephahokhnccaaGreatDoorCards
import Derived.Test.YtbephahokhnccaaGreatDoorTie
import Derived.Test.YtbephahokhnccaaGreatDoorNestedRow
namespace Go.Proofs.YtbephahokhnccaaGreatDoor
open Go
set_option maxRecDepth 100000
theorem j5 : Rows.nestedRow.wfByText (OpenSpec.ofChange Rows.nestedSpec) = true:=by kernel_rfl
theorem j6 : Tryz.pinned.checked.prog.mainIs = some (true,"3430e03593c29cc297c61c08180cadc0f23d07af3fe5f95b60c8e34186d1bde9".toList):=by kernel_rfl
theorem j7 : true = Tryz.pinned.checked.prog.looks []:=by kernel_rfl
theorem j8 : true = Rows.nestedRow.goesBy Tryz.pinned.checked.prog:=by kernel_rfl
theorem j9 : Tryz.prog.wantsStandIn 3 = false:=by kernel_rfl
theorem j10 : Tryz.prog.wantsStandIn 4 = false:=by kernel_rfl
theorem nested_card_holds : Rows.NestedCardSaid:=by
  refine ⟨Claim7.tied_new_at .later [.handle,.sentinel,.sentinel,.sentinel,.sentinel,.sentinel,.sentinel,.sentinel,.sentinel] true (Claim7.new_of_sixth nested_holds (true,"3430e03593c29cc297c61c08180cadc0f23d07af3fe5f95b60c8e34186d1bde9") true rfl ⟨rfl,rfl⟩ j6 rfl (fun f fn hf hfn=>?_)) j5,(fun D hD=>by cases hD),nested_row_tie,(fun h=>by cases h),j8⟩
  obtain rfl : f = 8:=(Option.some.inj (j1.symm.trans hf)).symm
  obtain rfl : fn = Tryz.f8:=(Option.some.inj (Tryz.func8.symm.trans hfn)).symm
  refine ⟨j7,fun j t ht=>?_⟩
  rw [Tryz.params8] at ht
  have h3 : t = 3 ∨ t = 4:=by
    rcases j with _ | _ | _ | _ | j
    · exact .inl (by simpa using ht.symm)
    · exact .inl (by simpa using ht.symm)
    · exact .inr (by simpa using ht.symm)
    · exact .inr (by simpa using ht.symm)
    · simp at ht
  rcases h3 with rfl | rfl
  · exact j9
  · exact j10
end Go.Proofs.YtbephahokhnccaaGreatDoor
