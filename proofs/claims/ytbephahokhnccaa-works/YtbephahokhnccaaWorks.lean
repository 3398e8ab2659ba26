/-
  Proved: whatever the op and the three words, purserlaw.Works (purser.Work answers as the document's own Work, and the product of 2^32 and 2^33 is 2^65) returns true, and its arguments read behind the call as they read before. No condition.
-/
import Derived.Test.YtbephahokhnccaaJ14
import Derived.Test.YtbephahokhnccaaOpen
import Derived.Test.YtbephahokhnccaaRows
import Derived.Carry
namespace Go.Proofs.Ytbephahokhnccaa
open Go.ChangeShapes Go.WideShapes Go.ChangeAt Go.RowKit

theorem works_all (op : Int) (a b c : Nat) (ha : a < M) (hb : b < M) (hc : c < M) (w : World) :
    Calls Try.prog 3 #[.int .u8 op, wd a, wd b, wd c] w fun e w' => e = .returned (.bool true) ∧ Below w.heap.size w w' := by
  obtain ⟨r, h1, h2⟩ := both_all op a b c ha hb hc
  have e1 : wd 4294967296 = .agg #[.int .u64 4294967296, .int .u64 0, .int .u64 0, .int .u64 0] := by unfold wd; simp [lim]
  have e2 : wd 8589934592 = .agg #[.int .u64 8589934592, .int .u64 0, .int .u64 0, .int .u64 0] := by unfold wd; simp [lim]
  have e3 : wd 0 = .agg #[.int .u64 0, .int .u64 0, .int .u64 0, .int .u64 0] := by unfold wd; simp [lim]
  have H0 := fun w => pwork (fun w => nwork3 4294967296 8589934592 0 (by decide) (by decide) w) w
  have e4 : 4294967296 * 8589934592 % M = 36893488147419103232 := by decide
  rw [e1, e2, e3, e4] at H0
  exact works_walk op a b c r 36893488147419103232 w H0 h1 h2 (by simp [lim, eq4])

set_option maxRecDepth 100000 in
theorem works_lifted (os : Os) (started : os.Started) (H : Type) (enc : TypeId × Value → H) :
    ReturnsInHanded {} Try.checked os 3 .any (Rows.worksSpec.pre6 enc Try.prog Try.f3 Rows.worksRow.domain false) (Rows.worksSpec.post enc Try.prog Try.f3 false true false false) := by
  refine returnsInHanded_of_change (C := Try.checked) (by kernel_rfl) started (by kernel_rfl) Try.func3
    (ChangeSpec.witness6 (enc := enc) (C := Try.checked) false ⟨#[], #[.int .u8 0, wd 0, wd 0, wd 0], []⟩ 8 (by kernel_rfl) (by kernel_rfl) (by kernel_rfl) (by kernel_rfl)) ?_
  intro W base args ds gs before hval0 hW hcnd _
  have hval : ∀ (j : Nat) t v, Try.f3.params[j]? = some t → args[j]? = some v → Value.okWide Try.prog W .any base t v := hval0
  have hW' := hW
  obtain ⟨p, q, hA0, hV, rfl, hfz, hnd⟩ := hW
  have hA : DataW.TrodAll enc Try.prog W 0 (fun _ => true) true Try.f3.params.toList args.toList ds p := hA0
  rw [Try.params3] at hA hval
  obtain ⟨v0, v1, v2, v3, d0, d1, d2, d3, p0, p1, p2, p3, rfl, rfl, rfl, h0, h1, h2, h3⟩ := trodAll_four hA
  obtain ⟨rfl, rfl⟩ := trodVars_none hV
  obtain ⟨op, rfl, rfl, rfl, wf⟩ := open_int Try.underlying5 (hval 0 5 v0 rfl rfl) h0
  obtain ⟨a, ha, rfl, rfl, rfl⟩ := open_word (hval 1 24 v1 rfl rfl) h1
  obtain ⟨b, hb, rfl, rfl, rfl⟩ := open_word (hval 2 24 v2 rfl rfl) h2
  obtain ⟨c, hc, rfl, rfl, rfl⟩ := open_word (hval 3 24 v3 rfl rfl) h3
  clear hA0 hval0
  simp only [List.append_nil] at hW'
  refine (works_all op a b c ha hb hc W).mono fun e W' ⟨he, hg⟩ => ?_
  subst he
  exact ⟨_, rfl, _, _, _, [], [], [], hW', trodAll_mk1 (shut_bool Try.underlying4 _), trodAll_mk4 (shut_int Try.underlying5 wf) (shut_word a) (shut_word b) (shut_word c), rfl, hg.frame _, fun h => by cases h⟩

theorem works_holds : Rows.WorksSaid :=
  OpenClaim.holds_of_wide 3 Try.f3 rfl rfl rfl rfl rfl rfl rfl ⟨rfl, rfl, rfl, rfl, rfl⟩ rfl rfl rfl rfl rfl (by kernel_rfl) Try.func3 (by kernel_rfl)
    (of_decide_eq_true (by kernel_rfl)) (by unfold Func.isWrapper; first | (rw [if_pos (by decide +kernel)]; kernel_rfl) | (rw [if_neg (by decide +kernel)]; exact ⟨rfl, rfl⟩))
    (fun os started H enc _ => works_lifted os started H enc)
#print axioms works_holds

end Go.Proofs.Ytbephahokhnccaa
