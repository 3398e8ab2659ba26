/-
  Plain arithmetic of the laws of division, of whole and of signed numbers: no program in sight.
-/
import Derived.Test.YtbephahokhnccaaJ11
namespace Go.Proofs.Ytbephahokhnccaa
open Go.RowKit Go.Shelf

theorem rmod_z (n : Nat) : rmod n 0 = 0 := by unfold rmod; rw [if_pos rfl]
theorem rmod_p (n c : Nat) (h : c ≠ 0) : rmod n c = n % c := by unfold rmod; rw [if_neg h]
theorem opp_z : opp 0 = 0 := by unfold opp; rw [Nat.sub_zero, Nat.mod_self]
theorem opp_p (n : Nat) (h0 : n ≠ 0) (h : n ≤ M) : opp n = M - n := by unfold opp; exact Nat.mod_eq_of_lt (by omega)
/-- 2^255. -/
def HM : Nat := 57896044618658097711785492504343953926634992332820282019728792003956564819968
theorem HM_M : HM + HM = M := by decide
theorem neg_t (a : Nat) : neg a = true ↔ HM ≤ a := by unfold neg HM; simp
theorem neg_f (a : Nat) : neg a = false ↔ a < HM := by unfold neg HM; simp
theorem neg_z : neg 0 = false := by rw [neg_f]; decide
theorem siz_t (a : Nat) (h : neg a = true) (ha : a < M) : siz a = M - a := by
  unfold siz; rw [if_pos h]
  have := (neg_t a).1 h
  have h0 : 0 < HM := by decide
  exact opp_p a (by omega) (by omega)
theorem siz_f (a : Nat) (h : neg a = false) : siz a = a := by unfold siz; rw [h]; rfl
theorem siz_le (a : Nat) (ha : a < M) : siz a ≤ HM := by
  have hM := HM_M
  cases h : neg a
  · rw [siz_f a h]; have := (neg_f a).1 h; omega
  · rw [siz_t a h ha]; have := (neg_t a).1 h; omega
theorem siz_pos (a : Nat) (ha : a < M) (h0 : a ≠ 0) : siz a ≠ 0 := by
  cases h : neg a
  · rw [siz_f a h]; exact h0
  · rw [siz_t a h ha]; omega

theorem sdv_z (a : Nat) : sdv a 0 = 0 := by
  unfold sdv
  rw [siz_f 0 neg_z, Nat.div_zero, opp_z]
  split <;> rfl
theorem smd_z (a : Nat) : smd a 0 = 0 := by
  unfold smd
  rw [siz_f 0 neg_z, rmod_z, opp_z]
  split <;> rfl

theorem slt_z (y : Nat) : slt y 0 = neg y := by
  unfold slt
  rw [neg_z]
  cases neg y <;> simp

/-- The signed quotient times the divisor, and the signed rest, is the dividend. -/
theorem sdv_smd (a b : Nat) (ha : a < M) (hb : b < M) (h0 : b ≠ 0) : (sdv a b * b % M + smd a b) % M = a := by
  rw [Nat.mod_add_mod]
  have hB := siz_pos b hb h0
  have hAl := siz_le a ha
  have hBl := siz_le b hb
  have hM := HM_M
  have hD := Nat.div_add_mod' (siz a) (siz b)
  have hQ : siz a / siz b ≤ siz a := Nat.div_le_self _ _
  have hR : siz a % siz b < siz b := Nat.mod_lt _ (by omega)
  unfold sdv smd
  rw [rmod_p _ _ hB]
  generalize hq : siz a / siz b = Q at *
  generalize hr : siz a % siz b = R at *
  clear hq hr
  have hH0 : 0 < HM := by decide
  cases na : neg a <;> cases nb : neg b
  · rw [siz_f a na] at *
    rw [siz_f b nb] at *
    simp
    rw [hD]; exact Nat.mod_eq_of_lt ha
  · rw [siz_f a na] at *
    rw [siz_t b nb hb] at *
    simp
    by_cases hQ0 : Q = 0
    · subst hQ0; rw [opp_z]; simp at hD ⊢; rw [hD]; exact Nat.mod_eq_of_lt ha
    · rw [opp_p Q hQ0 (by omega)]
      have e : (M - Q) * b = M * b - Q * b := Nat.sub_mul _ _ _
      have e2 : Q * (M - b) = Q * M - Q * b := Nat.mul_sub _ _ _
      have e3 : Q * b ≤ M * b := Nat.mul_le_mul_right b (by omega)
      have e4 : Q * b ≤ Q * M := Nat.mul_le_mul_left Q (by omega)
      rw [e]
      rw [e2] at hD
      generalize Q * b = P at *
      unfold M HM at *
      omega
  · rw [siz_t a na ha] at *
    rw [siz_f b nb] at *
    simp
    by_cases hQ0 : Q = 0
    · subst hQ0; rw [opp_z]; simp at hD ⊢
      by_cases hR0 : R = 0
      · omega
      · rw [opp_p R hR0 (by omega)]; unfold M HM at *; omega
    · rw [opp_p Q hQ0 (by omega)]
      have e : (M - Q) * b = M * b - Q * b := Nat.sub_mul _ _ _
      have e3 : Q * b ≤ M * b := Nat.mul_le_mul_right b (by omega)
      rw [e]
      by_cases hR0 : R = 0
      · subst hR0; rw [opp_z]
        generalize Q * b = P at *
        unfold M HM at *; omega
      · rw [opp_p R hR0 (by omega)]
        generalize Q * b = P at *
        unfold M HM at *; omega
  · rw [siz_t a na ha] at *
    rw [siz_t b nb hb] at *
    simp
    have e2 : Q * (M - b) = Q * M - Q * b := Nat.mul_sub _ _ _
    have e4 : Q * b ≤ Q * M := Nat.mul_le_mul_left Q (by omega)
    rw [e2] at hD
    by_cases hR0 : R = 0
    · subst hR0; rw [opp_z]
      generalize Q * b = P at *
      unfold M HM at *; omega
    · rw [opp_p R hR0 (by omega)]
      generalize Q * b = P at *
      unfold M HM at *; omega

/-- The signed rest has the dividend's sign, or is 0. -/
theorem neg_smd (a b : Nat) (ha : a < M) (hb : b < M) (h0 : b ≠ 0) (hy : smd a b ≠ 0) : neg (smd a b) = neg a := by
  have hB := siz_pos b hb h0
  have hBl := siz_le b hb
  have hM := HM_M
  have hR : siz a % siz b < siz b := Nat.mod_lt _ (by omega)
  unfold smd at *
  rw [rmod_p _ _ hB] at *
  generalize siz a % siz b = R at *
  cases na : neg a
  · rw [na] at hy
    simp
    rw [neg_f]; omega
  · rw [na] at hy
    simp at hy ⊢
    have hR0 : R ≠ 0 := by intro h; subst h; exact hy opp_z
    rw [opp_p R hR0 (by omega), neg_t]; omega
theorem smd_lt (a b : Nat) (hb : b < M) : smd a b < M := by
  unfold smd
  split
  · exact opp_lt _
  · exact rmod_lt _ _ (siz_lt b hb)
theorem sdv_lt (a b : Nat) (ha : a < M) : sdv a b < M := by
  unfold sdv
  split
  · exact opp_lt _
  · exact div_lt _ _ (siz_lt a ha)

theorem back_ok (a b c : Nat) (hc : c ≠ 0) : ((a + b) % c + (c - b % c)) % c = a % c := by
  rw [Nat.mod_add_mod]
  have h1 := Nat.div_add_mod b c
  have h2 := Nat.mod_lt b (Nat.pos_of_ne_zero hc)
  have e : a + b + (c - b % c) = a + c * (b / c + 1) := by rw [Nat.mul_add, Nat.mul_one]; omega
  rw [e, Nat.add_mul_mod_self_left]

theorem tw_t (p : Prop) [Decidable p] (h : p) : tw (decide p) = 1 := by rw [decide_eq_true h]; rfl

theorem kw1 (a b : Nat) (ha : a < M) (hb : b < M) {r : Nat} (h : (a + b) % M = r) : KW 1 a b r := by subst h; exact fun w => kwork (fun w => nwork1 a b 0 ha hb w) w
theorem kw2 (a b : Nat) (ha : a < M) (hb : b < M) {r : Nat} (h : (a + M - b) % M = r) : KW 2 a b r := by subst h; exact fun w => kwork (fun w => nwork2 a b 0 ha hb w) w
theorem kw3 (a b : Nat) (ha : a < M) (hb : b < M) {r : Nat} (h : a * b % M = r) : KW 3 a b r := by subst h; exact fun w => kwork (fun w => nwork3 a b 0 ha hb w) w
theorem kw4 (a b : Nat) (ha : a < M) (hb : b < M) {r : Nat} (h : a / b = r) : KW 4 a b r := by subst h; exact fun w => kwork (nwork4 a b 0 ha hb) w
theorem kw5 (a b : Nat) (ha : a < M) (hb : b < M) {r : Nat} (h : rmod a b = r) : KW 5 a b r := by subst h; exact fun w => kwork (nwork5 a b 0 ha hb) w
theorem kw6 (a b : Nat) (ha : a < M) (hb : b < M) {r : Nat} (h : sdv a b = r) : KW 6 a b r := by subst h; exact fun w => kwork (nwork6 a b 0 ha hb) w
theorem kw7 (a b : Nat) (ha : a < M) (hb : b < M) {r : Nat} (h : smd a b = r) : KW 7 a b r := by subst h; exact fun w => kwork (nwork7 a b 0 ha hb) w
theorem kw10 (a b : Nat) (ha : a < M) (hb : b < M) {r : Nat} (h : a ^ b % M = r) : KW 10 a b r := by subst h; exact fun w => kwork (fun w => nwork10 a b 0 ha hb w) w
theorem kw12 (a b : Nat) (ha : a < M) (hb : b < M) {r : Nat} (h : tw (decide (a < b)) = r) : KW 12 a b r := by subst h; exact fun w => kwork (nwork12 a b 0 ha hb) w
theorem kw13 (a b : Nat) (ha : a < M) (hb : b < M) {r : Nat} (h : tw (decide (b < a)) = r) : KW 13 a b r := by subst h; exact fun w => kwork (nwork13 a b 0 ha hb) w
theorem kw14 (a b : Nat) (ha : a < M) (hb : b < M) {r : Nat} (h : tw (slt a b) = r) : KW 14 a b r := by subst h; exact fun w => kwork (nwork14 a b 0 ha hb) w
theorem kw15 (a b : Nat) (ha : a < M) (hb : b < M) {r : Nat} (h : tw (slt b a) = r) : KW 15 a b r := by subst h; exact fun w => kwork (nwork15 a b 0 ha hb) w
theorem kw16 (a b : Nat) (ha : a < M) (hb : b < M) {r : Nat} (h : tw (decide (a = b)) = r) : KW 16 a b r := by subst h; exact fun w => kwork (nwork16 a b 0 ha hb) w
theorem kw17 (a b : Nat) (ha : a < M) {r : Nat} (h : tw (decide (a = 0)) = r) : KW 17 a b r := by subst h; exact fun w => kwork (nwork17 a b 0 ha) w
theorem kw18 (a b : Nat) {r : Nat} (h : a &&& b = r) : KW 18 a b r := by subst h; exact fun w => kwork (nwork18 a b 0) w
theorem kw19 (a b : Nat) {r : Nat} (h : a ||| b = r) : KW 19 a b r := by subst h; exact fun w => kwork (nwork19 a b 0) w
theorem kw20 (a b : Nat) {r : Nat} (h : a ^^^ b = r) : KW 20 a b r := by subst h; exact fun w => kwork (nwork20 a b 0) w
theorem kw21 (a b : Nat) (ha : a < M) {r : Nat} (h : M - 1 - a = r) : KW 21 a b r := by subst h; exact fun w => kwork (fun w => nwork21 a b 0 ha w) w
theorem pw8 (a b c : Nat) (ha : a < M) (hb : b < M) (hc : c < M) {r : Nat} (h : rmod (a + b) c = r) : PW 8 a b c r := by subst h; exact fun w => pwork (nwork8 a b c ha hb hc) w
theorem pw9 (a b c : Nat) (ha : a < M) (hb : b < M) (hc : c < M) {r : Nat} (h : rmod (a * b) c = r) : PW 9 a b c r := by subst h; exact fun w => pwork (nwork9 a b c ha hb hc) w

theorem eq0_t (n : Nat) (hn : n < M) (h : n = 0) : eq4 (lim n 0) (lim n 1) (lim n 2) (lim n 3) (lim 0 0) (lim 0 1) (lim 0 2) (lim 0 3) = true := by
  rw [eq4_lim n 0 hn M_pos]; exact decide_eq_true h
theorem eq0_f (n : Nat) (hn : n < M) (h : n ≠ 0) : eq4 (lim n 0) (lim n 1) (lim n 2) (lim n 3) (lim 0 0) (lim 0 1) (lim 0 2) (lim 0 3) = false := by
  rw [eq4_lim n 0 hn M_pos]; exact decide_eq_false h

end Go.Proofs.Ytbephahokhnccaa
