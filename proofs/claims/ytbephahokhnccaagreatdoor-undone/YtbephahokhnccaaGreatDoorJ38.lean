/-
An order that ends badly leaves nothing behind but the gas, and a refused one nothing (the law Undone, for every list of accounts and every order): the card UndoneCardSaid; its conditions are those of the given row and card, no others.
-/
import Derived.Test.YtbephahokhnccaaGreatDoorCards
import Derived.Test.YtbephahokhnccaaGreatDoorTie
import Derived.Test.YtbephahokhnccaaGreatDoorJ36
import Derived.Test.YtbephahokhnccaaGreatDoorJ37
set_option linter.all false
set_option maxRecDepth 100000
namespace Go.Proofs.YtbephahokhnccaaGreatDoor
section
open Go.ChangeShapes Go.WideShapes Go.RowKit Go.Conc Go.Mark
section
def undone_holds:Rows.UndoneSaid:=
 OpenClaim.holds_of_wide_leaving 6 Tryz.f6 rfl rfl rfl rfl rfl rfl rfl ⟨rfl,rfl,rfl,rfl,rfl⟩ rfl rfl rfl rfl rfl j1 Tryz.func6 j2 j3 j4
  (fun c a H b _=>BW c a H b)
end
end
section
open Go
section
theorem j5:Rows.undoneRow.wfByText (OpenSpec.ofChange Rows.undoneSpec)=true:=kR
theorem j6:Tryz.pinned.checked.prog.mainIs=some (true, "3430e03593c29cc297c61c08180cadc0f23d07af3fe5f95b60c8e34186d1bde9".toList):=kR
theorem j7:true=Tryz.pinned.checked.prog.looks []:=kR
theorem j8:true=Rows.undoneRow.goesBy Tryz.pinned.checked.prog:=kR
theorem j9:Tryz.prog.wantsStandIn 22=false:=kR
theorem Q7:Tryz.prog.wantsStandIn 43=false:=kR
theorem undone_card_holds:Rows.UndoneCardSaid:=by
 refine⟨Claim7.tied_new_at .later [.handle,.sentinel,.sentinel,.sentinel,.sentinel,.sentinel,.sentinel,.sentinel,.sentinel] true (Claim7.new_of_sixth undone_holds (true, "3430e03593c29cc297c61c08180cadc0f23d07af3fe5f95b60c8e34186d1bde9") true rfl ⟨rfl,rfl⟩ j6 rfl (fun f fn hf hfn=>?_)) j5,(fun D hD=>by cases hD),undone_row_tie,(fun h=>by cases h),j8⟩;obtain rfl:f=6:=(Option.some.inj (j1.symm.trans hf)).symm;obtain rfl:fn=Tryz.f6:=(Option.some.inj (Tryz.func6.symm.trans hfn)).symm;refine⟨j7,fun j t ht=>?_⟩;rw[Tryz.params6] at ht;have h3:t=22\/t=43:=by
  rcases j with _|_|j
  .exact .inl (by simpa using ht.symm)
  .exact .inr (by simpa using ht.symm)
  .simp at ht
 rcases h3 with rfl|rfl
 .exact j9
 .exact Q7
#print axioms undone_card_holds
end
end
end Go.Proofs.YtbephahokhnccaaGreatDoor
