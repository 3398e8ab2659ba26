/-
  Proved: whatever the three words, purserkeep.Ring (the laws of sums, products and powers over purser.Work) returns true, and its arguments read behind the call as they read before. No condition.
-/
import Derived.Test.YtbephahokhnccaaRingW
import Derived.Test.YtbephahokhnccaaRingF
import Derived.Test.YtbephahokhnccaaOpen
namespace Go.Proofs.Ytbephahokhnccaa
open Go.ChangeShapes Go.WideShapes Go.ChangeAt Go.RowKit

theorem mod_mul_l (x c : Nat) : x % M * c % M = x * c % M := by rw [Nat.mul_mod, Nat.mod_mod, ← Nat.mul_mod]
theorem mod_mul_r (x c : Nat) : x * (c % M) % M = x * c % M := by rw [Nat.mul_mod, Nat.mod_mod, ← Nat.mul_mod]

theorem ring_all (a b c : Nat) (ha : a < M) (hb : b < M) (hc : c < M) (w : World) :
    Calls Try.prog 4 #[wd a, wd b, wd c] w fun e w' => e = .returned (.bool true) ∧ Below w.heap.size w w' := by
  have f1 : opw 1 2 3 = 5 := by rw [opw_1]; exact Nat.mod_eq_of_lt (small_lt 5 (by decide))
  have f2 : opw 3 2 3 = 6 := by rw [opw_3]; exact Nat.mod_eq_of_lt (small_lt 6 (by decide))
  have e1 : opw 1 b a = opw 1 a b := by rw [opw_1, opw_1, Nat.add_comm]
  have e2 : opw 2 (opw 1 a b) b = a := by rw [opw_1, opw_2]; unfold M at *; omega
  have e3 : opw 2 a a = 0 := by rw [opw_2]; unfold M at *; omega
  have e4 : opw 1 a 0 = a := by rw [opw_1]; exact Nat.mod_eq_of_lt ha
  have e5 : opw 3 b a = opw 3 a b := by rw [opw_3, opw_3, Nat.mul_comm]
  have e6 : opw 3 a 1 = a := by rw [opw_3, Nat.mul_one]; exact Nat.mod_eq_of_lt ha
  have e7 : opw 3 a (opw 1 b c) = opw 1 (opw 3 a b) (opw 3 a c) := by rw [opw_3, opw_1, opw_1, opw_3, opw_3, mod_mul_r, Nat.mul_add, Nat.add_mod]
  have e8 : opw 3 (opw 3 a b) c = opw 3 a (opw 3 b c) := by rw [opw_3, opw_3, opw_3, opw_3, mod_mul_l, mod_mul_r, Nat.mul_assoc]
  have e9 : opw 1 (opw 1 a b) c = opw 1 a (opw 1 b c) := by rw [opw_1, opw_1, opw_1, opw_1]; unfold M at *; omega
  have e11 : opw 10 a 0 = 1 := by rw [opw_10, Nat.pow_zero]; exact Nat.mod_eq_of_lt (small_lt 1 (by decide))
  have z : ∀ i, lim (opw 2 a a) i = 0 := fun i => by rw [e3]; exact lim_z i
  by_cases E : opw 10 a (opw 1 b 1) = opw 3 (opw 10 a b) a
  · exact ring_t a b c ha hb hc w f1 f2 e1 e2 (z 0) (z 1) (z 2) (z 3) e4 e5 e6 e7 e8 e9 E e11
  · have hM : opw 21 0 0 = b := by
      rw [opw_21]
      by_cases h : b + 1 < M
      · exfalso
        apply E
        rw [opw_1, Nat.mod_eq_of_lt h, opw_10, opw_3, opw_10, mod_mul_l, Nat.pow_succ]
      · omega
    have hE : eq4 (lim (opw 10 a (opw 1 b 1)) 0) (lim (opw 10 a (opw 1 b 1)) 1) (lim (opw 10 a (opw 1 b 1)) 2) (lim (opw 10 a (opw 1 b 1)) 3) (lim (opw 3 (opw 10 a b) a) 0) (lim (opw 3 (opw 10 a b) a) 1) (lim (opw 3 (opw 10 a b) a) 2) (lim (opw 3 (opw 10 a b) a) 3) = false := by
      rw [eq4_lim _ _ (opw_lt _ _ _) (opw_lt _ _ _)]
      exact decide_eq_false E
    exact ring_f a b c ha hb hc w f1 f2 e1 e2 (z 0) (z 1) (z 2) (z 3) e4 e5 e6 e7 e8 e9 hE hM e11

theorem Try.own : ownKnob Try.prog.godebug = none := by kernel_rfl

set_option maxRecDepth 100000 in
theorem ring_lifted (os : Os) (started : os.Started) (H : Type) (enc : TypeId × Value → H) :
    ReturnsInHanded {} Try.checked os 4 .any (Rows.ringSpec.pre6 enc Try.prog Try.f4 Rows.ringRow.domain false) (Rows.ringSpec.post enc Try.prog Try.f4 false true false false) := by
  refine returnsInHanded_of_change (C := Try.checked) Try.own started (by kernel_rfl) Try.func4
    (ChangeSpec.witness6 (enc := enc) (C := Try.checked) false ⟨#[], #[wd 0, wd 0, wd 0], []⟩ 8 (by kernel_rfl) (by kernel_rfl) (by kernel_rfl) (by kernel_rfl)) ?_
  intro W base args ds gs before hval0 hW hcnd _
  have hval : ∀ (j : Nat) t v, Try.f4.params[j]? = some t → args[j]? = some v → Value.okWide Try.prog W .any base t v := hval0
  have hW' := hW
  obtain ⟨p, q, hA0, hV, rfl, hfz, hnd⟩ := hW
  have hA : DataW.TrodAll enc Try.prog W 0 (fun _ => true) true Try.f4.params.toList args.toList ds p := hA0
  rw [Try.params4] at hA hval
  obtain ⟨v0, v1, v2, d0, d1, d2, p0, p1, p2, rfl, rfl, rfl, h0, h1, h2⟩ := trodAll_three hA
  obtain ⟨rfl, rfl⟩ := trodVars_none hV
  obtain ⟨a, ha, rfl, rfl, rfl⟩ := open_word (hval 0 24 v0 rfl rfl) h0
  obtain ⟨b, hb, rfl, rfl, rfl⟩ := open_word (hval 1 24 v1 rfl rfl) h1
  obtain ⟨c, hc, rfl, rfl, rfl⟩ := open_word (hval 2 24 v2 rfl rfl) h2
  clear hA0 hval0
  simp only [List.append_nil] at hW'
  refine (ring_all a b c ha hb hc W).mono fun e W' ⟨he, hg⟩ => ?_
  subst he
  exact ⟨_, rfl, _, _, _, [], [], [], hW', trodAll_mk1 (shut_bool Try.underlying4 _), trodAll_mk3 (shut_word a) (shut_word b) (shut_word c), rfl, hg.frame _, fun h => by cases h⟩

theorem ring_holds : Rows.RingSaid :=
  OpenClaim.holds_of_wide 4 Try.f4 rfl rfl rfl rfl rfl rfl rfl ⟨rfl, rfl, rfl, rfl, rfl⟩ rfl rfl rfl rfl rfl (by kernel_rfl) Try.func4 (by kernel_rfl)
    (of_decide_eq_true (by kernel_rfl)) (by unfold Func.isWrapper; first | (rw [if_pos (by decide +kernel)]; kernel_rfl) | (rw [if_neg (by decide +kernel)]; exact ⟨rfl, rfl⟩))
    (fun os started H enc _ => ring_lifted os started H enc)
#print axioms ring_holds

end Go.Proofs.Ytbephahokhnccaa
