/-
  Plain arithmetic of comparing and of bits, as the law Orders asks it; keep.work at Extend and Byte.
-/
import Derived.Test.YtbephahokhnccaaDm
import Derived.Test.YtbephahokhnccaaE0
namespace Go.Proofs.Ytbephahokhnccaa

theorem tw_le (t : Bool) : tw t ≤ 1 := by cases t <;> decide
theorem tw_lt (t : Bool) : tw t < M := by cases t <;> decide
theorem tw_tri (a b : Nat) : tw (decide (a < b)) + tw (decide (b < a)) + tw (decide (a = b)) = 1 := by
  rcases Nat.lt_trichotomy a b with h | h | h
  · rw [decide_eq_true h, decide_eq_false (show ¬ b < a by omega), decide_eq_false (show ¬ a = b by omega)]; rfl
  · rw [decide_eq_false (show ¬ a < b by omega), decide_eq_false (show ¬ b < a by omega), decide_eq_true h]; rfl
  · rw [decide_eq_false (show ¬ a < b by omega), decide_eq_true h, decide_eq_false (show ¬ a = b by omega)]; rfl
theorem stw_tri (a b : Nat) : tw (slt a b) + tw (slt b a) + tw (decide (a = b)) = 1 := by
  unfold slt
  cases ha : neg a <;> cases hb : neg b
  · exact tw_tri a b
  · have hne : ¬ a = b := fun h => by rw [h, hb] at ha; cases ha
    rw [decide_eq_false hne]; rfl
  · have hne : ¬ a = b := fun h => by rw [h, hb] at ha; cases ha
    rw [decide_eq_false hne]; rfl
  · exact tw_tri a b

theorem bits_two (n a b : Nat) : a < 2 ^ n → b < 2 ^ n → (a &&& b) + (a ||| b) = a + b ∧ (a &&& b) + (a ^^^ b) = (a ||| b) := by
  induction n generalizing a b with
  | zero =>
    intro h1 h2
    have h1 : a = 0 := by simpa using h1
    have h2 : b = 0 := by simpa using h2
    subst h1 h2
    decide
  | succ n ih =>
    intro h1 h2
    rw [Nat.pow_succ] at h1 h2
    obtain ⟨i1, i2⟩ := ih (a / 2) (b / 2) (by omega) (by omega)
    have d1 : (a &&& b) / 2 = (a / 2) &&& (b / 2) := Nat.and_div_two_pow (n := 1)
    have d2 : (a ||| b) / 2 = (a / 2) ||| (b / 2) := Nat.or_div_two_pow (n := 1)
    have d3 : (a ^^^ b) / 2 = (a / 2) ^^^ (b / 2) := Nat.xor_div_two_pow (n := 1)
    have m1 : (a &&& b) % 2 = (a % 2) &&& (b % 2) := Nat.and_mod_two_pow (n := 1)
    have m2 : (a ||| b) % 2 = (a % 2) ||| (b % 2) := Nat.or_mod_two_pow (n := 1)
    have m3 : (a ^^^ b) % 2 = (a % 2) ^^^ (b % 2) := Nat.xor_mod_two_pow (n := 1)
    rw [← d1, ← d2] at i1
    rw [← d1, ← d2, ← d3] at i2
    have ca : a % 2 = 0 ∨ a % 2 = 1 := by omega
    have cb : b % 2 = 0 ∨ b % 2 = 1 := by omega
    have k : ((a &&& b) % 2 + (a ||| b) % 2 = a % 2 + b % 2) ∧ ((a &&& b) % 2 + (a ^^^ b) % 2 = (a ||| b) % 2) := by
      rw [m1, m2, m3]
      rcases ca with ca | ca <;> rcases cb with cb | cb <;> rw [ca, cb] <;> decide
    omega
theorem M_two : M = 2 ^ 256 := by decide
theorem and_add_or (a b : Nat) (ha : a < M) (hb : b < M) : (a &&& b) + (a ||| b) = a + b := (bits_two 256 a b (M_two ▸ ha) (M_two ▸ hb)).1
theorem and_add_xor (a b : Nat) (ha : a < M) (hb : b < M) : (a &&& b) + (a ^^^ b) = (a ||| b) := (bits_two 256 a b (M_two ▸ ha) (M_two ▸ hb)).2
theorem or_lt (a b : Nat) (ha : a < M) (hb : b < M) : a ||| b < M := by
  rw [M_two] at *; exact Nat.or_lt_two_pow ha hb
theorem xor_lt (a b : Nat) (ha : a < M) (hb : b < M) : a ^^^ b < M := by
  rw [M_two] at *; exact Nat.xor_lt_two_pow ha hb
theorem and_lt (a b : Nat) (ha : a < M) : a &&& b < M := Nat.lt_of_le_of_lt Nat.and_le_left ha

theorem not_tb (a : Nat) (ha : a < M) (i : Nat) : (M - 1 - a).testBit i = (decide (i < 256) && !a.testBit i) := by
  have h := Nat.testBit_two_pow_sub_succ (n := 256) (x := a) (M_two ▸ ha) i
  have e : 2 ^ 256 - (a + 1) = M - 1 - a := by rw [← M_two]; omega
  rw [e] at h
  exact h
theorem not_and_or (a b : Nat) (ha : a < M) (hb : b < M) : (M - 1 - a) ||| (M - 1 - b) = M - 1 - (a &&& b) := by
  apply Nat.eq_of_testBit_eq
  intro i
  rw [Nat.testBit_or, not_tb a ha, not_tb b hb, not_tb _ (and_lt a b ha), Nat.testBit_and]
  cases decide (i < 256) <;> cases a.testBit i <;> cases b.testBit i <;> rfl

theorem top_bit (a : Nat) (ha : a < M) : a / HM = tw (neg a) := by
  cases h : neg a
  · rw [neg_f] at h
    exact Nat.div_eq_of_lt h
  · rw [neg_t] at h
    have e := HM_M
    show a / HM = 1
    rw [Nat.div_eq_iff (by decide)]
    omega

/-- Extend at byte 0: the lowest byte, or that and ones above. -/
theorem ext0_of (a : Nat) (ha : a < M) : (128 ≤ a % 256 ∧ ext0 a = M - 256 + a % 256) ∨ (a % 256 < 128 ∧ ext0 a = a % 256) := by
  unfold ext0
  have h7 := Nat.testBit_eq_decide_div_mod_eq (x := a) (i := 7)
  cases h : a.testBit 7
  · right
    rw [h] at h7
    have h7 : ¬ a / 2 ^ 7 % 2 = 1 := of_decide_eq_false h7.symm
    refine ⟨by omega, ?_⟩
    exact Nat.and_two_pow_sub_one_eq_mod a 8
  · left
    rw [h] at h7
    have h7 : a / 2 ^ 7 % 2 = 1 := of_decide_eq_true h7.symm
    refine ⟨by omega, ?_⟩
    have e : M - 256 + a % 256 = (M - 1 - 255) ||| (a % 256) := by
      have k := Nat.shiftLeft_add_eq_or_of_lt (i := 8) (b := a % 256) (Nat.mod_lt _ (by decide)) (2 ^ 248 - 1)
      have k2 : (2 ^ 248 - 1) <<< 8 = M - 256 := by decide
      rw [k2] at k
      exact k
    rw [e]
    show a ||| (M - 1 - 255) = _
    apply Nat.eq_of_testBit_eq
    intro i
    have h255 : (255 : Nat).testBit i = decide (i < 8) := Nat.testBit_two_pow_sub_one 8 i
    have hm : (a % 256).testBit i = (decide (i < 8) && a.testBit i) := Nat.testBit_mod_two_pow a 8 i
    rw [Nat.testBit_or, Nat.testBit_or, not_tb 255 (by decide), h255, hm]
    by_cases c : i < 256
    · rw [decide_eq_true c]
      cases decide (i < 8) <;> cases a.testBit i <;> rfl
    · have hai : a.testBit i = false := Nat.testBit_lt_two_pow (Nat.lt_of_lt_of_le (M_two ▸ ha) (Nat.pow_le_pow_right (by decide) (by omega)))
      rw [hai, decide_eq_false c]
      cases decide (i < 8) <;> rfl
theorem ext0_lt (a : Nat) (ha : a < M) : ext0 a < M := by
  have hm := Nat.mod_lt a (show 256 > 0 by decide)
  have hM : 256 < M := by decide
  rcases ext0_of a ha with ⟨h, e⟩ | ⟨h, e⟩ <;> rw [e] <;> omega
theorem ext0_mod (a : Nat) (ha : a < M) : ext0 a % 256 = a % 256 := by
  have e1 : M - 256 = 452312848583266388373324160190187140051835877600158453279131187530910662655 * 256 := by decide
  rcases ext0_of a ha with ⟨h, e⟩ | ⟨h, e⟩ <;> rw [e]
  · rw [e1]; omega
  · omega
theorem ext0_up (a : Nat) (ha : a < M) : slt (ext0 a) 128 = true := by
  have hm := Nat.mod_lt a (show 256 > 0 by decide)
  have hM : HM + 256 < M := by decide
  have hM2 : 256 < HM := by decide
  have n128 : neg 128 = false := by decide
  unfold slt
  rw [n128]
  rcases ext0_of a ha with ⟨h, e⟩ | ⟨h, e⟩
  · have hn : neg (ext0 a) = true := by rw [neg_t]; omega
    rw [hn]; rfl
  · have hn : neg (ext0 a) = false := by rw [neg_f]; omega
    rw [hn]
    exact decide_eq_true (show ext0 a < 128 by omega)
theorem ext0_down (a : Nat) (ha : a < M) : slt (M - 129) (ext0 a) = true := by
  have hm := Nat.mod_lt a (show 256 > 0 by decide)
  have hM : HM + 256 < M := by decide
  have hM2 : 256 < HM := by decide
  have n129 : neg (M - 129) = true := by decide
  unfold slt
  rw [n129]
  rcases ext0_of a ha with ⟨h, e⟩ | ⟨h, e⟩
  · have hn : neg (ext0 a) = true := by rw [neg_t]; omega
    rw [hn]
    have hl : M - 129 < ext0 a := by
      rw [e]
      clear n129 hn e ha hM2
      generalize HM = k at hM
      generalize M = m at hM ⊢
      omega
    exact (if_neg (by decide)).trans (decide_eq_true hl)
  · have hn : neg (ext0 a) = false := by rw [neg_f]; omega
    rw [hn]; rfl

theorem kw11 (a : Nat) : KW 11 0 a (ext0 a) := fun w => kwork (nwork11 a 0) w
theorem kw22 (a : Nat) {r : Nat} (h : a / 1 % 256 = r) : KW 22 31 a r := by subst h; exact fun w => kwork (nwork22 a 0) w

end Go.Proofs.Ytbephahokhnccaa
