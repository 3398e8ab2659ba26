/-
  Proved: whatever the three words, purserkeep.Divides (the laws of division, whole, signed and modulo a number, over purser.Work) returns true, and its arguments read behind the call as they read before. No condition.
-/
import Derived.Test.YtbephahokhnccaaDw
import Derived.Test.YtbephahokhnccaaDm
import Derived.Test.YtbephahokhnccaaOpen
import Derived.Test.YtbephahokhnccaaRows
namespace Go.Proofs.Ytbephahokhnccaa
open Go.ChangeShapes Go.WideShapes Go.ChangeAt Go.RowKit

theorem divides_all (a b c : Nat) (ha : a < M) (hb : b < M) (hc : c < M) (w : World) :
    Calls Try.prog 5 #[wd a, wd b, wd c] w fun e w' => e = .returned (.bool true) ∧ Below w.heap.size w w' := by
  have s7 := small_lt 7 (by decide)
  have s2 := small_lt 2 (by decide)
  have s1 := small_lt 1 (by decide)
  have hq : a / b < M := div_lt a b ha
  have hr : rmod a b < M := rmod_lt a b hb
  have hx := sdv_lt a b ha
  have hy := smd_lt a b hb
  have hm := rmod_lt (a * b) c hc
  have hn := rmod_lt (a + b) c hc
  refine divides_walk a b c (a / b) (rmod a b) (sdv a b) (smd a b) (rmod (a * b) c) (rmod (a + b) c) w
    (kw4 7 2 s7 s2 (by decide)) (kw5 7 2 s7 s2 (by rw [rmod_p 7 2 (by decide)])) (kw4 a b ha hb rfl) (kw5 a b ha hb rfl) (kw6 a b ha hb rfl) (kw7 a b ha hb rfl) (pw9 a b c ha hb hc rfl) (pw8 a b c ha hb hc rfl) ?_ ?_
  · by_cases h0 : b = 0
    · left
      subst h0
      exact ⟨eq0_t 0 M_pos rfl, eq0_t _ hq (Nat.div_zero a), eq0_t _ hr (rmod_z a), eq0_t _ hx (sdv_z a), eq0_t _ hy (smd_z a)⟩
    · right
      have hle := Nat.div_mul_le_self a b
      refine ⟨eq0_f b hb h0, kw12 _ _ hr hb ?_, ⟨a / b * b, kw3 _ _ hq hb (Nat.mod_eq_of_lt (Nat.lt_of_le_of_lt hle ha)), kw1 _ _ (Nat.lt_of_le_of_lt hle ha) hr ?_⟩,
        ⟨sdv a b * b % M, kw3 _ _ hx hb rfl, kw1 _ _ (Nat.mod_lt _ M_pos) hy (sdv_smd a b ha hb h0)⟩, ?_⟩
      · apply tw_t
        rw [rmod_p a b h0]
        exact Nat.mod_lt _ (Nat.pos_of_ne_zero h0)
      · rw [rmod_p a b h0, Nat.div_add_mod']
        exact Nat.mod_eq_of_lt ha
      · by_cases hy0 : smd a b = 0
        · left; exact eq0_t _ hy hy0
        · right
          refine ⟨eq0_f _ hy hy0, tw (neg a), kw14 _ _ hy M_pos ?_, kw14 _ _ ha M_pos ?_⟩
          · rw [slt_z, neg_smd a b ha hb h0 hy0]
          · rw [slt_z]
  · by_cases h0 : c = 0
    · left
      subst h0
      exact ⟨eq0_t 0 M_pos rfl, eq0_t _ hm (rmod_z _), eq0_t _ hn (rmod_z _)⟩
    · right
      have hp := Nat.pos_of_ne_zero h0
      have hra := rmod_lt a c hc
      have hrb := rmod_lt b c hc
      have hb1 := rmod_lt (b + 1) c hc
      rw [rmod_p _ c h0] at hm hn hra hrb hb1
      rw [rmod_p _ c h0, rmod_p _ c h0]
      have hrbc := Nat.mod_lt b hp
      have hd : (c + M - b % c) % M = c - b % c := by
        have e : c + M - b % c = (c - b % c) + M := by omega
        rw [e, Nat.add_mod_right]
        exact Nat.mod_eq_of_lt (by omega)
      refine ⟨eq0_f c hc h0, kw12 _ _ hm hc (tw_t _ (Nat.mod_lt _ hp)), kw12 _ _ hn hc (tw_t _ (Nat.mod_lt _ hp)), a % c, b % c, c - b % c, (b + 1) % c, a * (b + 1) % c,
        kw5 a c ha hc (rmod_p a c h0), kw5 b c hb hc (rmod_p b c h0), kw2 c _ hc hrb hd, pw8 _ _ c hn (by omega) hc ?_, pw9 _ _ c hra hrb hc ?_, pw8 _ _ c hra hrb hc ?_, pw8 b 1 c hb s1 hc (rmod_p _ c h0), pw9 a _ c ha hb1 hc ?_, pw8 _ a c hm ha hc ?_⟩
      · rw [rmod_p _ c h0]; exact back_ok a b c h0
      · rw [rmod_p _ c h0]; exact (Nat.mul_mod a b c).symm
      · rw [rmod_p _ c h0]; exact (Nat.add_mod a b c).symm
      · rw [rmod_p _ c h0, Nat.mul_mod, Nat.mod_mod, ← Nat.mul_mod]
      · rw [rmod_p _ c h0, Nat.mod_add_mod, Nat.mul_add, Nat.mul_one]

set_option maxRecDepth 100000 in
theorem divides_lifted (os : Os) (started : os.Started) (H : Type) (enc : TypeId × Value → H) :
    ReturnsInHanded {} Try.checked os 5 .any (Rows.dividesSpec.pre6 enc Try.prog Try.f5 Rows.dividesRow.domain false) (Rows.dividesSpec.post enc Try.prog Try.f5 false true false false) := by
  refine returnsInHanded_of_change (C := Try.checked) (by kernel_rfl) started (by kernel_rfl) Try.func5
    (ChangeSpec.witness6 (enc := enc) (C := Try.checked) false ⟨#[], #[wd 0, wd 0, wd 0], []⟩ 8 (by kernel_rfl) (by kernel_rfl) (by kernel_rfl) (by kernel_rfl)) ?_
  intro W base args ds gs before hval0 hW hcnd _
  have hval : ∀ (j : Nat) t v, Try.f5.params[j]? = some t → args[j]? = some v → Value.okWide Try.prog W .any base t v := hval0
  have hW' := hW
  obtain ⟨p, q, hA0, hV, rfl, hfz, hnd⟩ := hW
  have hA : DataW.TrodAll enc Try.prog W 0 (fun _ => true) true Try.f5.params.toList args.toList ds p := hA0
  rw [Try.params5] at hA hval
  obtain ⟨v0, v1, v2, d0, d1, d2, p0, p1, p2, rfl, rfl, rfl, h0, h1, h2⟩ := trodAll_three hA
  obtain ⟨rfl, rfl⟩ := trodVars_none hV
  obtain ⟨a, ha, rfl, rfl, rfl⟩ := open_word (hval 0 24 v0 rfl rfl) h0
  obtain ⟨b, hb, rfl, rfl, rfl⟩ := open_word (hval 1 24 v1 rfl rfl) h1
  obtain ⟨c, hc, rfl, rfl, rfl⟩ := open_word (hval 2 24 v2 rfl rfl) h2
  clear hA0 hval0
  simp only [List.append_nil] at hW'
  refine (divides_all a b c ha hb hc W).mono fun e W' ⟨he, hg⟩ => ?_
  subst he
  exact ⟨_, rfl, _, _, _, [], [], [], hW', trodAll_mk1 (shut_bool Try.underlying4 _), trodAll_mk3 (shut_word a) (shut_word b) (shut_word c), rfl, hg.frame _, fun h => by cases h⟩

theorem divides_holds : Rows.DividesSaid :=
  OpenClaim.holds_of_wide 5 Try.f5 rfl rfl rfl rfl rfl rfl rfl ⟨rfl, rfl, rfl, rfl, rfl⟩ rfl rfl rfl rfl rfl (by kernel_rfl) Try.func5 (by kernel_rfl)
    (of_decide_eq_true (by kernel_rfl)) (by unfold Func.isWrapper; first | (rw [if_pos (by decide +kernel)]; kernel_rfl) | (rw [if_neg (by decide +kernel)]; exact ⟨rfl, rfl⟩))
    (fun os started H enc _ => divides_lifted os started H enc)
#print axioms divides_holds

end Go.Proofs.Ytbephahokhnccaa
