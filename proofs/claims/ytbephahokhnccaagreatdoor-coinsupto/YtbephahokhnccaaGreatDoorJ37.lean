import Derived.Test.YtbephahokhnccaaGreatDoorRows
import Derived.Conc.LeavingOf
import Derived.LaidMore
import Derived.SevenTiedAt
import Derived.Test.YtbephahokhnccaaGreatDoorJz
set_option linter.all false
set_option maxRecDepth 100000
namespace Go.Proofs.YtbephahokhnccaaGreatDoor
section
open Go.ChangeShapes Go.WideShapes Go.RowKit Go.Conc Go.Mark
section
def j1:Tryz.pinned.checked.prog.funcNamed Rows.coinsUptoRow.func=some 7:=by kernel_rfl
set_option maxHeartbeats 0 in
def j2:joinedFacts Tryz.pinned.checked.prog 7 Tryz.f7 (Rows.OpenSpec.upto Rows.coinsSpec).bare Rows.coinsUptoRow=true:=by
 unfold joinedFacts;simp only[aBT]
 and_intros
 all_goals (as_aux_lemma=>kernel_rfl)
def j3:Tryz.f7.isInstance Tryz.pinned.checked.prog Rows.coinsUptoRow.origin Rows.coinsUptoRow.targs:=of_decide_eq_true (by kernel_rfl)
def j4:Tryz.f7.isWrapper Tryz.pinned.checked.prog Rows.coinsUptoRow.wrapper Rows.coinsUptoRow.mainSum:=by unfold Func.isWrapper;first| (rw[if_pos (by decide+kernel)];kernel_rfl)| (rw[if_neg (by decide+kernel)];exact⟨rfl,rfl⟩)
end
end
end Go.Proofs.YtbephahokhnccaaGreatDoor
