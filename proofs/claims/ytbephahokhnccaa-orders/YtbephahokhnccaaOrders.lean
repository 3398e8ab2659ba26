/-
  Proved: whatever the two words, purserkeep.Orders (comparing, bits, bytes and Extend, over purser.Work) returns true, and its arguments read behind the call as they read before. No condition.
-/
import Derived.Test.YtbephahokhnccaaOw
import Derived.Test.YtbephahokhnccaaOm
import Derived.Test.YtbephahokhnccaaOpen
import Derived.Test.YtbephahokhnccaaRows
namespace Go.Proofs.Ytbephahokhnccaa
open Go.ChangeShapes Go.WideShapes Go.ChangeAt Go.RowKit

theorem orders_all (a b : Nat) (ha : a < M) (hb : b < M) (w : World) :
    Calls Try.prog 6 #[wd a, wd b] w fun e w' => e = .returned (.bool true) ∧ Below w.heap.size w w' := by
  have hM2 : 2 < M := by decide
  have s0 : (0 : Nat) < M := M_pos
  have s1 : 1 < M := small_lt 1 (by decide)
  have s2 : 2 < M := small_lt 2 (by decide)
  have s3 : 3 < M := small_lt 3 (by decide)
  have s128 : 128 < M := by decide
  have s129 : 129 < M := by decide
  have s255 : 255 < M := by decide
  have s256 : 256 < M := by decide
  have hHM : HM < M := by decide
  have hna : M - 1 - a < M := by omega
  have hnb : M - 1 - b < M := by omega
  have han := and_lt a b ha
  have hor := or_lt a b ha hb
  have hxo := xor_lt a b ha hb
  have hao := and_add_or a b ha hb
  have hax := and_add_xor a b ha hb
  have hxx := ext0_lt a ha
  have t1 := tw_tri a b
  have t2 := stw_tri a b
  have u1 := tw_le (decide (a < b))
  have u2 := tw_le (decide (b < a))
  have u3 := tw_le (slt a b)
  have u4 := tw_le (slt b a)
  refine orders_walk a b (M - 1) (tw (decide (a < b))) (tw (decide (b < a))) (tw (decide (a = b))) (tw (slt a b)) (tw (slt b a))
    (tw (decide (a < b)) + tw (decide (b < a))) (tw (slt a b) + tw (slt b a)) (a &&& b) (a ||| b) (a ^^^ b) (M - 1 - a) (M - 1 - b) ((a + b) % M) (M - 1 - (a &&& b)) ((0 + M - a) % M) HM (tw (neg a)) (a % 256) (ext0 a) (M - 129) (tw (decide (a = 0))) (decide (a = 0)) w
    (kw12 2 3 s2 s3 (by decide)) (kw2 0 1 s0 s1 (by decide)) (kw14 (M - 1) 0 (by omega) s0 ?_)
    (kw12 a b ha hb rfl) (kw13 a b ha hb rfl) (kw16 a b ha hb rfl) (kw14 a b ha hb rfl) (kw15 a b ha hb rfl)
    (kw1 _ _ (tw_lt _) (tw_lt _) (Nat.mod_eq_of_lt (by omega))) (kw1 _ _ (by omega) (tw_lt _) ?_) (kw1 _ _ (tw_lt _) (tw_lt _) (Nat.mod_eq_of_lt (by omega))) (kw1 _ _ (by omega) (tw_lt _) ?_) (kw12 b a hb ha rfl) (kw14 b a hb ha rfl)
    (kw18 a b rfl) (kw19 a b rfl) (kw20 a b rfl) (kw21 a b ha rfl) (kw21 b a hb rfl)
    (kw1 _ _ han hor ?_) (kw1 a b ha hb rfl) (kw2 _ _ hor han ?_) (kw21 _ a han rfl) (kw19 _ _ (not_and_or a b ha hb)) (kw1 _ 1 hna s1 ?_) (kw2 0 a s0 ha rfl)
    (kw10 2 255 s2 s255 (by decide)) (kw4 a HM ha hHM (top_bit a ha)) (kw14 a 0 ha s0 ?_) (kw22 a ?_) (kw5 a 256 ha s256 ?_) (kw11 a)
    (kw5 _ 256 hxx s256 ?_) (kw14 _ 128 hxx s128 ?_) (kw2 0 129 s0 s129 (by decide)) (kw15 _ _ hxx (by omega) ?_) (kw17 a b ha rfl) ?_ ?_
  · rw [slt_z]; decide
  · rw [t1]; decide
  · rw [t2]; decide
  · rw [hao]
  · rw [← hax, show (a &&& b) + (a ^^^ b) + M - (a &&& b) = (a ^^^ b) + M by omega, Nat.add_mod_right]
    exact Nat.mod_eq_of_lt hxo
  · congr 1; omega
  · rw [slt_z]
  · rw [Nat.div_one]
  · exact rmod_p a 256 (by decide)
  · rw [rmod_p _ 256 (by decide)]; exact ext0_mod a ha
  · rw [ext0_up a ha]; rfl
  · rw [ext0_down a ha]; rfl
  · rw [eq4_lim _ 1 (tw_lt _) s1]
    by_cases h : a = 0
    · rw [decide_eq_true h]; rfl
    · rw [decide_eq_false h]; rfl
  · have k := eq4_lim a 0 ha s0
    simp only [lim_z] at k
    exact k

set_option maxRecDepth 100000 in
theorem orders_lifted (os : Os) (started : os.Started) (H : Type) (enc : TypeId × Value → H) :
    ReturnsInHanded {} Try.checked os 6 .any (Rows.ordersSpec.pre6 enc Try.prog Try.f6 Rows.ordersRow.domain false) (Rows.ordersSpec.post enc Try.prog Try.f6 false true false false) := by
  refine returnsInHanded_of_change (C := Try.checked) (by kernel_rfl) started (by kernel_rfl) Try.func6
    (ChangeSpec.witness6 (enc := enc) (C := Try.checked) false ⟨#[], #[wd 0, wd 0], []⟩ 8 (by kernel_rfl) (by kernel_rfl) (by kernel_rfl) (by kernel_rfl)) ?_
  intro W base args ds gs before hval0 hW hcnd _
  have hval : ∀ (j : Nat) t v, Try.f6.params[j]? = some t → args[j]? = some v → Value.okWide Try.prog W .any base t v := hval0
  have hW' := hW
  obtain ⟨p, q, hA0, hV, rfl, hfz, hnd⟩ := hW
  have hA : DataW.TrodAll enc Try.prog W 0 (fun _ => true) true Try.f6.params.toList args.toList ds p := hA0
  rw [Try.params6] at hA hval
  obtain ⟨v0, v1, d0, d1, p0, p1, rfl, rfl, rfl, h0, h1⟩ := trodAll_two hA
  obtain ⟨rfl, rfl⟩ := trodVars_none hV
  obtain ⟨a, ha, rfl, rfl, rfl⟩ := open_word (hval 0 24 v0 rfl rfl) h0
  obtain ⟨b, hb, rfl, rfl, rfl⟩ := open_word (hval 1 24 v1 rfl rfl) h1
  clear hA0 hval0
  simp only [List.append_nil] at hW'
  refine (orders_all a b ha hb W).mono fun e W' ⟨he, hg⟩ => ?_
  subst he
  exact ⟨_, rfl, _, _, _, [], [], [], hW', trodAll_mk1 (shut_bool Try.underlying4 _), trodAll_mk2 (shut_word a) (shut_word b), rfl, hg.frame _, fun h => by cases h⟩

theorem orders_holds : Rows.OrdersSaid :=
  OpenClaim.holds_of_wide 6 Try.f6 rfl rfl rfl rfl rfl rfl rfl ⟨rfl, rfl, rfl, rfl, rfl⟩ rfl rfl rfl rfl rfl (by kernel_rfl) Try.func6 (by kernel_rfl)
    (of_decide_eq_true (by kernel_rfl)) (by unfold Func.isWrapper; first | (rw [if_pos (by decide +kernel)]; kernel_rfl) | (rw [if_neg (by decide +kernel)]; exact ⟨rfl, rfl⟩))
    (fun os started H enc _ => orders_lifted os started H enc)
#print axioms orders_holds

end Go.Proofs.Ytbephahokhnccaa
