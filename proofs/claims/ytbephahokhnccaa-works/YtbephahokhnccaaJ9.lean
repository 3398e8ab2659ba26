/-
  number.ones, Extend at every place: what they return.
  number.Byte at every place, Extend and Byte beyond theirs; number.Work at them and at what is no op: what they return.
-/
import Derived.Test.YtbephahokhnccaaJ10
namespace Go.Proofs.Ytbephahokhnccaa
open Go.RowKit Go.Shelf
attribute [local go_sem] wd

theorem pow_lim (n q : Nat) (hq : q < 4) (h0 : 64 * q ≤ n) (h1 : n < 64 * q + 64) : ∀ i, i < 4 → lim (2 ^ n) i = if i = q then (2 : Int) ^ (n - 64 * q) else 0 := by
  intro i hi
  unfold lim
  have e : (18446744073709551616 : Nat) ^ i = 2 ^ (64 * i) := by rw [show (18446744073709551616 : Nat) = 2 ^ 64 from rfl, ← Nat.pow_mul]
  rw [e]
  by_cases c : i = q
  · subst c
    rw [if_pos rfl, Nat.pow_div h0 (by decide), Nat.mod_eq_of_lt (Nat.pow_lt_pow_right (a := 2) (m := n - 64 * i) (n := 64) (by decide) (by omega))]
    simp
  · rw [if_neg c]
    by_cases c2 : i < q
    · rw [Nat.pow_div (by omega) (by decide), show n - 64 * i = (n - 64 * i - 64) + 64 by omega, Nat.pow_add, show (18446744073709551616 : Nat) = 2 ^ 64 from rfl, Nat.mul_mod_left]
      rfl
    · rw [Nat.div_eq_of_lt (Nat.pow_lt_pow_right (by decide) (by omega))]
      rfl
theorem pow_ltM (n : Nat) (h : n < 256) : 2 ^ n < M := by
  have e : M = 2 ^ 256 := by decide
  rw [e]
  exact Nat.pow_lt_pow_right (by decide) h
theorem pow64_lt (s : Nat) (h : s < 64) : (2 : Int) ^ s < 18446744073709551616 ∧ 0 < (2 : Int) ^ s := by
  have h1 : (2 : Nat) ^ s < 2 ^ 64 := Nat.pow_lt_pow_right (by decide) h
  have h2 : 0 < (2 : Nat) ^ s := Nat.pow_pos (by decide)
  have e : ((2 ^ s : Nat) : Int) = (2 : Int) ^ s := by simp
  omega

set_option maxHeartbeats 1000000 in
theorem onesg_0 (n : Nat) (h0 : 0 ≤ n) (h1 : n < 64) (w : World) : Calls Try.prog 66 #[.int .i64 n] w fun e w' => e = .returned (wd (2 ^ n - 1)) ∧ Below w.heap.size w w' := by
  have hp : 0 < 2 ^ n := Nat.pow_pos (by decide)
  have hlt := pow_ltM n (by omega)
  have hl := pow_lim n 0 (by decide) (by omega) (by omega)
  have hb := pow64_lt (n - 0) (by omega)
  have e0 := hl 0 (by decide); have e1 := hl 1 (by decide); have e2 := hl 2 (by decide); have e3 := hl 3 (by decide)
  simp at e0 e1 e2 e3
  have hs := sub (2 ^ n) 1 hlt (by decide)
  rw [show (2 ^ n + M - 1) % M = 2 ^ n - 1 by rw [show 2 ^ n + M - 1 = 2 ^ n - 1 + M by omega, Nat.add_mod_right]; exact Nat.mod_eq_of_lt (by omega)] at hs
  have HC : ∀ w : World, Calls Try.prog 28 #[.agg #[.int .u64 (lim (2 ^ n) 0), .int .u64 (lim (2 ^ n) 1), .int .u64 (lim (2 ^ n) 2), .int .u64 (lim (2 ^ n) 3)], .agg #[.int .u64 1, .int .u64 0, .int .u64 0, .int .u64 0]] w fun e w' => e = .returned (wd (2 ^ n - 1)) ∧ Below w.heap.size w w' := hs
  rw [e0, e1, e2, e3] at HC
  have hq : (n : Int) / 64 = 0 := by omega
  have hm : ((n : Int) % 64).toNat = n - 0 := by omega
  have hm0 : 0 ≤ (n : Int) % 64 := by omega
  rw [Nat.sub_zero] at hb hm
  clear hs hl e0 e1 e2 e3 hlt hp
  generalize 2 ^ n - 1 = r at HC ⊢
  generalize hpp : (2 : Int) ^ n = p at HC hb
  have hw : IntKind.u64.wrap ((2 : Int) ^ n) = p := by rw [hpp, IntKind.wrap_u64]; exact Int.emod_eq_of_lt (by omega) (by omega)
  clear hpp hb
  go_enter Try.func66, Try.ntmps66
  go_wp2_with fail
  refine (HC _).mono ?_
  rintro e w1 ⟨rfl, hb1⟩
  obtain ⟨hc, hf⟩ := bcell hb1
  have hz : w.heap.size + 1 < w1.heap.size := by have := hb1.size; simp at this; omega
  have hB : Below w.heap.size w w1 := Below.over (((Below.refl _ _).alloc (Nat.le_refl _) _).alloc (by simp) _) hb1
  have hc2 := fun i => hc w.heap.size i (by simp; omega)
  have hf2 := fun i => hf w.heap.size i (by simp; omega)
  clear hb1 hc hf
  go_wp2
  simp [bodyPost, results, Try.results66, go_sem, hc2]
  exact set4_below (b := w.heap.size) hB (Nat.le_refl _) _

set_option maxHeartbeats 1000000 in
theorem onesg_1 (n : Nat) (h0 : 64 ≤ n) (h1 : n < 128) (w : World) : Calls Try.prog 66 #[.int .i64 n] w fun e w' => e = .returned (wd (2 ^ n - 1)) ∧ Below w.heap.size w w' := by
  have hp : 0 < 2 ^ n := Nat.pow_pos (by decide)
  have hlt := pow_ltM n (by omega)
  have hl := pow_lim n 1 (by decide) (by omega) (by omega)
  have hb := pow64_lt (n - 64) (by omega)
  have e0 := hl 0 (by decide); have e1 := hl 1 (by decide); have e2 := hl 2 (by decide); have e3 := hl 3 (by decide)
  simp at e0 e1 e2 e3
  have hs := sub (2 ^ n) 1 hlt (by decide)
  rw [show (2 ^ n + M - 1) % M = 2 ^ n - 1 by rw [show 2 ^ n + M - 1 = 2 ^ n - 1 + M by omega, Nat.add_mod_right]; exact Nat.mod_eq_of_lt (by omega)] at hs
  have HC : ∀ w : World, Calls Try.prog 28 #[.agg #[.int .u64 (lim (2 ^ n) 0), .int .u64 (lim (2 ^ n) 1), .int .u64 (lim (2 ^ n) 2), .int .u64 (lim (2 ^ n) 3)], .agg #[.int .u64 1, .int .u64 0, .int .u64 0, .int .u64 0]] w fun e w' => e = .returned (wd (2 ^ n - 1)) ∧ Below w.heap.size w w' := hs
  rw [e0, e1, e2, e3] at HC
  have hq : (n : Int) / 64 = 1 := by omega
  have hm : ((n : Int) % 64).toNat = n - 64 := by omega
  have hm0 : 0 ≤ (n : Int) % 64 := by omega
  generalize n - 64 = s at HC hb hm e1
  clear hs hl e0 e1 e2 e3 hlt hp
  generalize 2 ^ n - 1 = r at HC ⊢
  generalize hpp : (2 : Int) ^ s = p at HC hb
  have hw : IntKind.u64.wrap ((2 : Int) ^ s) = p := by rw [hpp, IntKind.wrap_u64]; exact Int.emod_eq_of_lt (by omega) (by omega)
  clear hpp hb
  go_enter Try.func66, Try.ntmps66
  go_wp2_with fail
  refine (HC _).mono ?_
  rintro e w1 ⟨rfl, hb1⟩
  obtain ⟨hc, hf⟩ := bcell hb1
  have hz : w.heap.size + 1 < w1.heap.size := by have := hb1.size; simp at this; omega
  have hB : Below w.heap.size w w1 := Below.over (((Below.refl _ _).alloc (Nat.le_refl _) _).alloc (by simp) _) hb1
  have hc2 := fun i => hc w.heap.size i (by simp; omega)
  have hf2 := fun i => hf w.heap.size i (by simp; omega)
  clear hb1 hc hf
  go_wp2
  simp [bodyPost, results, Try.results66, go_sem, hc2]
  exact set4_below (b := w.heap.size) hB (Nat.le_refl _) _

set_option maxHeartbeats 1000000 in
theorem onesg_2 (n : Nat) (h0 : 128 ≤ n) (h1 : n < 192) (w : World) : Calls Try.prog 66 #[.int .i64 n] w fun e w' => e = .returned (wd (2 ^ n - 1)) ∧ Below w.heap.size w w' := by
  have hp : 0 < 2 ^ n := Nat.pow_pos (by decide)
  have hlt := pow_ltM n (by omega)
  have hl := pow_lim n 2 (by decide) (by omega) (by omega)
  have hb := pow64_lt (n - 128) (by omega)
  have e0 := hl 0 (by decide); have e1 := hl 1 (by decide); have e2 := hl 2 (by decide); have e3 := hl 3 (by decide)
  simp at e0 e1 e2 e3
  have hs := sub (2 ^ n) 1 hlt (by decide)
  rw [show (2 ^ n + M - 1) % M = 2 ^ n - 1 by rw [show 2 ^ n + M - 1 = 2 ^ n - 1 + M by omega, Nat.add_mod_right]; exact Nat.mod_eq_of_lt (by omega)] at hs
  have HC : ∀ w : World, Calls Try.prog 28 #[.agg #[.int .u64 (lim (2 ^ n) 0), .int .u64 (lim (2 ^ n) 1), .int .u64 (lim (2 ^ n) 2), .int .u64 (lim (2 ^ n) 3)], .agg #[.int .u64 1, .int .u64 0, .int .u64 0, .int .u64 0]] w fun e w' => e = .returned (wd (2 ^ n - 1)) ∧ Below w.heap.size w w' := hs
  rw [e0, e1, e2, e3] at HC
  have hq : (n : Int) / 64 = 2 := by omega
  have hm : ((n : Int) % 64).toNat = n - 128 := by omega
  have hm0 : 0 ≤ (n : Int) % 64 := by omega
  generalize n - 128 = s at HC hb hm e2
  clear hs hl e0 e1 e2 e3 hlt hp
  generalize 2 ^ n - 1 = r at HC ⊢
  generalize hpp : (2 : Int) ^ s = p at HC hb
  have hw : IntKind.u64.wrap ((2 : Int) ^ s) = p := by rw [hpp, IntKind.wrap_u64]; exact Int.emod_eq_of_lt (by omega) (by omega)
  clear hpp hb
  go_enter Try.func66, Try.ntmps66
  go_wp2_with fail
  refine (HC _).mono ?_
  rintro e w1 ⟨rfl, hb1⟩
  obtain ⟨hc, hf⟩ := bcell hb1
  have hz : w.heap.size + 1 < w1.heap.size := by have := hb1.size; simp at this; omega
  have hB : Below w.heap.size w w1 := Below.over (((Below.refl _ _).alloc (Nat.le_refl _) _).alloc (by simp) _) hb1
  have hc2 := fun i => hc w.heap.size i (by simp; omega)
  have hf2 := fun i => hf w.heap.size i (by simp; omega)
  clear hb1 hc hf
  go_wp2
  simp [bodyPost, results, Try.results66, go_sem, hc2]
  exact set4_below (b := w.heap.size) hB (Nat.le_refl _) _

set_option maxHeartbeats 1000000 in
theorem onesg_3 (n : Nat) (h0 : 192 ≤ n) (h1 : n < 256) (w : World) : Calls Try.prog 66 #[.int .i64 n] w fun e w' => e = .returned (wd (2 ^ n - 1)) ∧ Below w.heap.size w w' := by
  have hp : 0 < 2 ^ n := Nat.pow_pos (by decide)
  have hlt := pow_ltM n (by omega)
  have hl := pow_lim n 3 (by decide) (by omega) (by omega)
  have hb := pow64_lt (n - 192) (by omega)
  have e0 := hl 0 (by decide); have e1 := hl 1 (by decide); have e2 := hl 2 (by decide); have e3 := hl 3 (by decide)
  simp at e0 e1 e2 e3
  have hs := sub (2 ^ n) 1 hlt (by decide)
  rw [show (2 ^ n + M - 1) % M = 2 ^ n - 1 by rw [show 2 ^ n + M - 1 = 2 ^ n - 1 + M by omega, Nat.add_mod_right]; exact Nat.mod_eq_of_lt (by omega)] at hs
  have HC : ∀ w : World, Calls Try.prog 28 #[.agg #[.int .u64 (lim (2 ^ n) 0), .int .u64 (lim (2 ^ n) 1), .int .u64 (lim (2 ^ n) 2), .int .u64 (lim (2 ^ n) 3)], .agg #[.int .u64 1, .int .u64 0, .int .u64 0, .int .u64 0]] w fun e w' => e = .returned (wd (2 ^ n - 1)) ∧ Below w.heap.size w w' := hs
  rw [e0, e1, e2, e3] at HC
  have hq : (n : Int) / 64 = 3 := by omega
  have hm : ((n : Int) % 64).toNat = n - 192 := by omega
  have hm0 : 0 ≤ (n : Int) % 64 := by omega
  generalize n - 192 = s at HC hb hm e3
  clear hs hl e0 e1 e2 e3 hlt hp
  generalize 2 ^ n - 1 = r at HC ⊢
  generalize hpp : (2 : Int) ^ s = p at HC hb
  have hw : IntKind.u64.wrap ((2 : Int) ^ s) = p := by rw [hpp, IntKind.wrap_u64]; exact Int.emod_eq_of_lt (by omega) (by omega)
  clear hpp hb
  go_enter Try.func66, Try.ntmps66
  go_wp2_with fail
  refine (HC _).mono ?_
  rintro e w1 ⟨rfl, hb1⟩
  obtain ⟨hc, hf⟩ := bcell hb1
  have hz : w.heap.size + 1 < w1.heap.size := by have := hb1.size; simp at this; omega
  have hB : Below w.heap.size w w1 := Below.over (((Below.refl _ _).alloc (Nat.le_refl _) _).alloc (by simp) _) hb1
  have hc2 := fun i => hc w.heap.size i (by simp; omega)
  have hf2 := fun i => hf w.heap.size i (by simp; omega)
  clear hb1 hc hf
  go_wp2
  simp [bodyPost, results, Try.results66, go_sem, hc2]
  exact set4_below (b := w.heap.size) hB (Nat.le_refl _) _

theorem onesg (n : Nat) (h : n < 256) (w : World) : Calls Try.prog 66 #[.int .i64 n] w fun e w' => e = .returned (wd (2 ^ n - 1)) ∧ Below w.heap.size w w' := by
  have c : n < 64 ∨ (64 ≤ n ∧ n < 128) ∨ (128 ≤ n ∧ n < 192) ∨ 192 ≤ n := by omega
  rcases c with c | c | c | c
  · exact onesg_0 n (by omega) (by omega) w
  · exact onesg_1 n (by omega) (by omega) w
  · exact onesg_2 n (by omega) (by omega) w
  · exact onesg_3 n (by omega) (by omega) w

set_option maxHeartbeats 2000000 in
theorem extg_f (k b l : Nat) (hk : k < 31) (hl : 2 ^ (8 * k + 8) - 1 = l) (hlM : l < M) (hbit : b.testBit (8 * k + 7) = false) (w : World) :
    Calls Try.prog 37 #[wd k, wd b] w fun e w' => e = .returned (wd (b &&& l)) ∧ Below w.heap.size w w' := by
  have hkM : k < M := Nat.lt_trans hk (by decide)
  have hL0 := less k 31 hkM (by decide)
  rw [decide_eq_true hk] at hL0
  obtain ⟨v0, v1, v2, v3⟩ := lim_small k (by omega)
  have HL : ∀ w : World, Calls Try.prog 39 #[.agg #[.int .u64 k, .int .u64 0, .int .u64 0, .int .u64 0], .agg #[.int .u64 31, .int .u64 0, .int .u64 0, .int .u64 0]] w fun e w' => e = .returned (.bool true) ∧ Below w.heap.size w w' := fun w => by
    have h := hL0 w
    unfold wd at h
    rw [v0, v1, v2, v3] at h
    exact h
  have HT : ∀ w : World, Calls Try.prog 65 #[wd b, .int .i64 ((k : Int) * 8 + 7)] w fun e w' => e = .returned (.bool false) ∧ Below w.heap.size w w' := fun w => by
    have h := bit b (8 * k + 7) (by omega) w
    rw [hbit, show ((8 * k + 7 : Nat) : Int) = (k : Int) * 8 + 7 by omega] at h
    exact h
  have HO : ∀ w : World, Calls Try.prog 66 #[.int .i64 ((k : Int) * 8 + 7 + 1)] w fun e w' => e = .returned (wd l) ∧ Below w.heap.size w w' := fun w => by
    have h := onesg (8 * k + 8) (by omega) w
    rw [hl, show ((8 * k + 8 : Nat) : Int) = (k : Int) * 8 + 7 + 1 by omega] at h
    exact h
  have HN := not l hlM
  have i0 : IntKind.i64.wrap (k : Int) = k := by rw [IntKind.wrap_i64]; omega
  have i1 : IntKind.i64.wrap ((k : Int) * 8) = (k : Int) * 8 := by rw [IntKind.wrap_i64]; omega
  have i2 : IntKind.i64.wrap ((k : Int) * 8 + 7) = (k : Int) * 8 + 7 := by rw [IntKind.wrap_i64]; omega
  have i3 : IntKind.i64.wrap ((k : Int) * 8 + 7 + 1) = (k : Int) * 8 + 7 + 1 := by rw [IntKind.wrap_i64]; omega
  clear hbit hl hL0 hk
  unfold wd
  rw [v0, v1, v2, v3]
  clear v0 v1 v2 v3
  go_enter Try.func37, Try.ntmps37
  go_wp2_with fail
  refine (HL _).mono ?_
  rintro e w1 ⟨rfl, hb1⟩
  obtain ⟨hc, hf⟩ := bcell hb1
  have q0 : w1.cell? ⟨w.heap.size, 0, none⟩ = some (.int .u64 k) := (hc w.heap.size _ (by simp <;> omega)).trans (by simp [go_sem])
  have Cb : Cells4 w1 (w.heap.size + 1) b := ⟨(hc (w.heap.size + 1) _ (by simp <;> omega)).trans (by simp [go_sem]), (hc (w.heap.size + 1) _ (by simp <;> omega)).trans (by simp [go_sem]), (hc (w.heap.size + 1) _ (by simp <;> omega)).trans (by simp [go_sem]), (hc (w.heap.size + 1) _ (by simp <;> omega)).trans (by simp [go_sem]), (hf (w.heap.size + 1) _ (by simp <;> omega)).trans (by simp [go_sem]), (hf (w.heap.size + 1) _ (by simp <;> omega)).trans (by simp [go_sem]), (hf (w.heap.size + 1) _ (by simp <;> omega)).trans (by simp [go_sem]), (hf (w.heap.size + 1) _ (by simp <;> omega)).trans (by simp [go_sem])⟩
  have Cr : Cells4 w1 (w.heap.size + 1 + 1) 0 := ⟨(hc (w.heap.size + 1 + 1) _ (by simp <;> omega)).trans (by simp [go_sem, lim_z]), (hc (w.heap.size + 1 + 1) _ (by simp <;> omega)).trans (by simp [go_sem, lim_z]), (hc (w.heap.size + 1 + 1) _ (by simp <;> omega)).trans (by simp [go_sem, lim_z]), (hc (w.heap.size + 1 + 1) _ (by simp <;> omega)).trans (by simp [go_sem, lim_z]), (hf (w.heap.size + 1 + 1) _ (by simp <;> omega)).trans (by simp [go_sem]), (hf (w.heap.size + 1 + 1) _ (by simp <;> omega)).trans (by simp [go_sem]), (hf (w.heap.size + 1 + 1) _ (by simp <;> omega)).trans (by simp [go_sem]), (hf (w.heap.size + 1 + 1) _ (by simp <;> omega)).trans (by simp [go_sem])⟩
  have hB : Below w.heap.size w w1 := Below.over (below3 w _ _ _) hb1
  have hz : w.heap.size + 1 + 1 < w1.heap.size := by have := hb1.size; simp at this; omega
  clear hb1 hc hf HL
  go_wp2_with fail
  refine (HO _).mono ?_
  rintro e w2 ⟨rfl, hb2⟩
  replace Cb := Cb.below hb2 (by omega)
  replace Cr := Cr.below hb2 hz
  replace hz : w.heap.size + 1 + 1 < w2.heap.size := Nat.lt_of_lt_of_le hz hb2.size
  replace hB := Below.over hB hb2
  clear hb2 q0
  have hz2 : w2.heap.size < (w2.alloc (.cells #[.int .u64 (lim l 0), .int .u64 (lim l 1), .int .u64 (lim l 2), .int .u64 (lim l 3)] 24)).heap.size := by simp
  have Cl : Cells4 (w2.alloc (.cells #[.int .u64 (lim l 0), .int .u64 (lim l 1), .int .u64 (lim l 2), .int .u64 (lim l 3)] 24)) w2.heap.size l := ⟨by simp [go_sem], by simp [go_sem], by simp [go_sem], by simp [go_sem], by simp [go_sem], by simp [go_sem], by simp [go_sem], by simp [go_sem]⟩
  have hba := below1 w2 (.cells #[.int .u64 (lim l 0), .int .u64 (lim l 1), .int .u64 (lim l 2), .int .u64 (lim l 3)] 24)
  replace Cb := Cb.below hba (by omega)
  replace Cr := Cr.below hba hz
  replace hB := Below.over hB hba
  clear hba
  go_upto_region 5 with fail
  generalize w2.alloc (.cells #[.int .u64 (lim l 0), .int .u64 (lim l 1), .int .u64 (lim l 2), .int .u64 (lim l 3)] 24) = wA at *
  obtain ⟨c0, c1, c2, c3, f0, f1, f2, f3⟩ := id Cb
  go_wp2_with fail
  clear c0 c1 c2 c3 f0 f1 f2 f3
  refine (HT _).mono ?_
  rintro e w3 ⟨rfl, hb3⟩
  replace Cb := Cb.below hb3 (by omega)
  replace Cr := Cr.below hb3 (by omega)
  replace Cl := Cl.below hb3 (by omega)
  replace hz2 : w2.heap.size < w3.heap.size := Nat.lt_of_lt_of_le hz2 hb3.size
  replace hB := Below.over hB hb3
  clear hb3 HT
  obtain ⟨c0, c1, c2, c3, -, -, -, -⟩ := id Cb
  obtain ⟨l0, l1, l2, l3, -, -, -, -⟩ := id Cl
  go_wp2_with fail
  clear c0 c1 c2 c3 l0 l1 l2 l3
  refine (and_ b l _).mono ?_
  rintro e w4 ⟨rfl, hb4⟩
  obtain ⟨x0, x1, x2, x3, x4, x5, x6, x7⟩ := Cr.below hb4 (by omega)
  replace hB := Below.over hB hb4
  clear hb4 Cb Cr Cl
  go_wp2
  simp [bodyPost, results, Try.results37, go_sem, x0, x1, x2, x3]
  exact set4_below hB (by omega) _

set_option maxHeartbeats 2000000 in
theorem extg_t (k b l : Nat) (hk : k < 31) (hl : 2 ^ (8 * k + 8) - 1 = l) (hlM : l < M) (hbit : b.testBit (8 * k + 7) = true) (w : World) :
    Calls Try.prog 37 #[wd k, wd b] w fun e w' => e = .returned (wd (b ||| (M - 1 - l))) ∧ Below w.heap.size w w' := by
  have hkM : k < M := Nat.lt_trans hk (by decide)
  have hL0 := less k 31 hkM (by decide)
  rw [decide_eq_true hk] at hL0
  obtain ⟨v0, v1, v2, v3⟩ := lim_small k (by omega)
  have HL : ∀ w : World, Calls Try.prog 39 #[.agg #[.int .u64 k, .int .u64 0, .int .u64 0, .int .u64 0], .agg #[.int .u64 31, .int .u64 0, .int .u64 0, .int .u64 0]] w fun e w' => e = .returned (.bool true) ∧ Below w.heap.size w w' := fun w => by
    have h := hL0 w
    unfold wd at h
    rw [v0, v1, v2, v3] at h
    exact h
  have HT : ∀ w : World, Calls Try.prog 65 #[wd b, .int .i64 ((k : Int) * 8 + 7)] w fun e w' => e = .returned (.bool true) ∧ Below w.heap.size w w' := fun w => by
    have h := bit b (8 * k + 7) (by omega) w
    rw [hbit, show ((8 * k + 7 : Nat) : Int) = (k : Int) * 8 + 7 by omega] at h
    exact h
  have HO : ∀ w : World, Calls Try.prog 66 #[.int .i64 ((k : Int) * 8 + 7 + 1)] w fun e w' => e = .returned (wd l) ∧ Below w.heap.size w w' := fun w => by
    have h := onesg (8 * k + 8) (by omega) w
    rw [hl, show ((8 * k + 8 : Nat) : Int) = (k : Int) * 8 + 7 + 1 by omega] at h
    exact h
  have HN := not l hlM
  have i0 : IntKind.i64.wrap (k : Int) = k := by rw [IntKind.wrap_i64]; omega
  have i1 : IntKind.i64.wrap ((k : Int) * 8) = (k : Int) * 8 := by rw [IntKind.wrap_i64]; omega
  have i2 : IntKind.i64.wrap ((k : Int) * 8 + 7) = (k : Int) * 8 + 7 := by rw [IntKind.wrap_i64]; omega
  have i3 : IntKind.i64.wrap ((k : Int) * 8 + 7 + 1) = (k : Int) * 8 + 7 + 1 := by rw [IntKind.wrap_i64]; omega
  clear hbit hl hL0 hk
  unfold wd
  rw [v0, v1, v2, v3]
  clear v0 v1 v2 v3
  go_enter Try.func37, Try.ntmps37
  go_wp2_with fail
  refine (HL _).mono ?_
  rintro e w1 ⟨rfl, hb1⟩
  obtain ⟨hc, hf⟩ := bcell hb1
  have q0 : w1.cell? ⟨w.heap.size, 0, none⟩ = some (.int .u64 k) := (hc w.heap.size _ (by simp <;> omega)).trans (by simp [go_sem])
  have Cb : Cells4 w1 (w.heap.size + 1) b := ⟨(hc (w.heap.size + 1) _ (by simp <;> omega)).trans (by simp [go_sem]), (hc (w.heap.size + 1) _ (by simp <;> omega)).trans (by simp [go_sem]), (hc (w.heap.size + 1) _ (by simp <;> omega)).trans (by simp [go_sem]), (hc (w.heap.size + 1) _ (by simp <;> omega)).trans (by simp [go_sem]), (hf (w.heap.size + 1) _ (by simp <;> omega)).trans (by simp [go_sem]), (hf (w.heap.size + 1) _ (by simp <;> omega)).trans (by simp [go_sem]), (hf (w.heap.size + 1) _ (by simp <;> omega)).trans (by simp [go_sem]), (hf (w.heap.size + 1) _ (by simp <;> omega)).trans (by simp [go_sem])⟩
  have Cr : Cells4 w1 (w.heap.size + 1 + 1) 0 := ⟨(hc (w.heap.size + 1 + 1) _ (by simp <;> omega)).trans (by simp [go_sem, lim_z]), (hc (w.heap.size + 1 + 1) _ (by simp <;> omega)).trans (by simp [go_sem, lim_z]), (hc (w.heap.size + 1 + 1) _ (by simp <;> omega)).trans (by simp [go_sem, lim_z]), (hc (w.heap.size + 1 + 1) _ (by simp <;> omega)).trans (by simp [go_sem, lim_z]), (hf (w.heap.size + 1 + 1) _ (by simp <;> omega)).trans (by simp [go_sem]), (hf (w.heap.size + 1 + 1) _ (by simp <;> omega)).trans (by simp [go_sem]), (hf (w.heap.size + 1 + 1) _ (by simp <;> omega)).trans (by simp [go_sem]), (hf (w.heap.size + 1 + 1) _ (by simp <;> omega)).trans (by simp [go_sem])⟩
  have hB : Below w.heap.size w w1 := Below.over (below3 w _ _ _) hb1
  have hz : w.heap.size + 1 + 1 < w1.heap.size := by have := hb1.size; simp at this; omega
  clear hb1 hc hf HL
  go_wp2_with fail
  refine (HO _).mono ?_
  rintro e w2 ⟨rfl, hb2⟩
  replace Cb := Cb.below hb2 (by omega)
  replace Cr := Cr.below hb2 hz
  replace hz : w.heap.size + 1 + 1 < w2.heap.size := Nat.lt_of_lt_of_le hz hb2.size
  replace hB := Below.over hB hb2
  clear hb2 q0
  have hz2 : w2.heap.size < (w2.alloc (.cells #[.int .u64 (lim l 0), .int .u64 (lim l 1), .int .u64 (lim l 2), .int .u64 (lim l 3)] 24)).heap.size := by simp
  have Cl : Cells4 (w2.alloc (.cells #[.int .u64 (lim l 0), .int .u64 (lim l 1), .int .u64 (lim l 2), .int .u64 (lim l 3)] 24)) w2.heap.size l := ⟨by simp [go_sem], by simp [go_sem], by simp [go_sem], by simp [go_sem], by simp [go_sem], by simp [go_sem], by simp [go_sem], by simp [go_sem]⟩
  have hba := below1 w2 (.cells #[.int .u64 (lim l 0), .int .u64 (lim l 1), .int .u64 (lim l 2), .int .u64 (lim l 3)] 24)
  replace Cb := Cb.below hba (by omega)
  replace Cr := Cr.below hba hz
  replace hB := Below.over hB hba
  clear hba
  go_upto_region 5 with fail
  generalize w2.alloc (.cells #[.int .u64 (lim l 0), .int .u64 (lim l 1), .int .u64 (lim l 2), .int .u64 (lim l 3)] 24) = wA at *
  obtain ⟨c0, c1, c2, c3, f0, f1, f2, f3⟩ := id Cb
  go_wp2_with fail
  clear c0 c1 c2 c3 f0 f1 f2 f3
  refine (HT _).mono ?_
  rintro e w3 ⟨rfl, hb3⟩
  replace Cb := Cb.below hb3 (by omega)
  replace Cr := Cr.below hb3 (by omega)
  replace Cl := Cl.below hb3 (by omega)
  replace hz2 : w2.heap.size < w3.heap.size := Nat.lt_of_lt_of_le hz2 hb3.size
  replace hB := Below.over hB hb3
  clear hb3 HT
  go_upto_region 6 with fail
  refine wp_region_held_drew (S := fun W => Below w.heap.size w W ∧ Cells4 W (w.heap.size + 1) b ∧ Cells4 W w2.heap.size l ∧ w2.heap.size < W.heap.size) (by kernel_rfl) ⟨hB.drew, Cb.below (Below.refl w3.heap.size w3).drew (by omega), Cl.below (Below.refl _ _).drew hz2, hz2⟩ (fun hH => ?_)
  refine take_d (i := 0) (d := some 23) (v := .agg #[.int .u64 (lim b 0), .int .u64 (lim b 1), .int .u64 (lim b 2), .int .u64 (lim b 3)]) rfl rfl (by kernel_rfl) (by kernel_rfl) (by kernel_rfl) (fun _ _ _ h => h) (Or.inl ⟨by rfl, fun W hW => ?_⟩) hH ?_
  · obtain ⟨c0, c1, c2, c3, -, -, -, -⟩ := hW.2.1
    clear hW hH
    go_simp
  simp only [Act.put, List.setIfInBounds_toArray, List.set_cons_zero, List.set_cons_succ]
  refine take_d (i := 1) (d := some 24) (v := .agg #[.int .u64 (lim l 0), .int .u64 (lim l 1), .int .u64 (lim l 2), .int .u64 (lim l 3)]) rfl rfl (by kernel_rfl) (by kernel_rfl) (by kernel_rfl) (fun _ _ _ h => h) (Or.inl ⟨by rfl, fun W hW => ?_⟩) hH ?_
  · obtain ⟨c0, c1, c2, c3, -, -, -, -⟩ := hW.2.2.1
    clear hW hH
    go_simp
  simp only [Act.put, List.setIfInBounds_toArray, List.set_cons_zero, List.set_cons_succ]
  replace Cr : Cells4 w3.drew (w.heap.size + 1 + 1) 0 := Cr.below (Below.refl _ _).drew (Nat.lt_trans hz hz2)
  replace hz2 : w2.heap.size < w3.drew.heap.size := hz2
  generalize w3.drew = wa at hH Cr hz2 ⊢
  refine wpAnyH_ready (rs := [2]) (by kernel_rfl) (by simp) ?_
  refine AllReadyH.cons rfl (fun K hK => ?_) AllReadyH.nil
  go_simp
  refine (HN _).mono ?_
  rintro e wb ⟨rfl, hbn⟩
  go_wp2_with fail
  refine hK.out _ _ ⟨hH.1.trans (hbn.mono hH.1.size), hH.2.1.below hbn (by omega), hH.2.2.1.below hbn hH.2.2.2, Nat.lt_of_lt_of_le hH.2.2.2 hbn.size⟩ (fun hH => ?_)
  replace Cr := Cr.below hbn (by omega)
  clear hbn hK K
  refine wpAnyH_ready (rs := [3]) (by kernel_rfl) (by simp) ?_
  refine AllReadyH.cons rfl (fun K hK => ?_) AllReadyH.nil
  go_simp
  refine (or_ b (M - 1 - l) _).mono ?_
  rintro e wc ⟨rfl, hbn⟩
  go_wp2_with fail
  have hz3 := hH.2.2.2
  refine hK.out _ _ ⟨hH.1.trans (hbn.mono hH.1.size), hH.2.1.below hbn (by omega), hH.2.2.1.below hbn hH.2.2.2, Nat.lt_of_lt_of_le hH.2.2.2 hbn.size⟩ (fun hH => ?_)
  replace Cr := Cr.below hbn (by omega)
  clear hbn hK K
  refine wpAnyH_ready (rs := [4]) (by kernel_rfl) (by simp) ?_
  refine AllReadyH.cons rfl (fun K hK => ?_) AllReadyH.nil
  obtain ⟨x0, x1, x2, x3, x4, x5, x6, x7⟩ := id Cr
  go_simp
  refine hK.out _ _ ⟨set4_below hH.1 (by omega) _, hH.2.1.other (by omega) _, hH.2.2.1.other (by omega) _, by simpa using hH.2.2.2⟩ (fun hH => ?_)
  clear hK K Cr
  refine wpAnyH_done (by kernel_rfl) ?_ _
  go_wp2
  simp [bodyPost, results, Try.results37, go_sem, x0, x1, x2, x3]
  exact hH.1

end Go.Proofs.Ytbephahokhnccaa

namespace Go.Proofs.Ytbephahokhnccaa
open Go.RowKit Go.Shelf
attribute [local go_sem] wd

set_option maxHeartbeats 2000000 in
theorem byteg_0 (k p b : Nat) (hp : p + k = 31) (_ : 0 ≤ p) (h1 : p < 8) (w : World) :
    Calls Try.prog 45 #[wd k, wd b] w fun e w' => e = .returned (.agg #[.int .u64 (bits .and .u64 (lim b 0 / 2 ^ (8 * (p % 8))) 255), .int .u64 0, .int .u64 0, .int .u64 0]) ∧ Below w.heap.size w w' := by
  have hkM : k < M := Nat.lt_trans (show k < 32 by omega) (by decide)
  have hL0 := less k 32 hkM (by decide)
  rw [decide_eq_true (show k < 32 by omega)] at hL0
  obtain ⟨v0, v1, v2, v3⟩ := lim_small k (by omega)
  have HL : ∀ w : World, Calls Try.prog 39 #[.agg #[.int .u64 k, .int .u64 0, .int .u64 0, .int .u64 0], .agg #[.int .u64 32, .int .u64 0, .int .u64 0, .int .u64 0]] w fun e w' => e = .returned (.bool true) ∧ Below w.heap.size w w' := fun w => by
    have h := hL0 w
    unfold wd at h
    rw [v0, v1, v2, v3] at h
    exact h
  have i0 : IntKind.u64.wrap (31 - (k : Int)) = (p : Int) := by rw [IntKind.wrap_u64]; omega
  have i1 : IntKind.u64.wrap ((p : Int).tdiv 8) = 0 := by rw [Int.tdiv_eq_ediv_of_nonneg (by omega), IntKind.wrap_u64]; omega
  have j1 : (p : Int) / 8 = 0 := by omega
  have j2 : p / 8 = 0 := by omega
  have i2 : (p : Int).tmod 8 = ((p % 8 : Nat) : Int) := by rw [Int.tmod_eq_emod_of_nonneg (by omega)]; omega
  have i3 : (p : Int) % 8 = ((p % 8 : Nat) : Int) := by omega
  have i4 : IntKind.u64.wrap (((p % 8 : Nat) : Int) * 8) = ((8 * (p % 8) : Nat) : Int) := by rw [IntKind.wrap_u64]; omega
  have i5 : 8 * (p % 8) < 64 := by omega
  have hle : w.heap.size ≤ w.heap.size + 1 + 1 := by omega
  unfold wd
  rw [v0, v1, v2, v3]
  clear v0 v1 v2 v3 hL0 hkM
  generalize p % 8 = r at *
  generalize 8 * r = s at *
  go_enter Try.func45, Try.ntmps45
  go_wp2_with fail
  refine (HL _).mono ?_
  rintro e w1 ⟨rfl, hb1⟩
  obtain ⟨hc, hf⟩ := bcell hb1
  have q0 : w1.cell? ⟨w.heap.size, 0, none⟩ = some (.int .u64 k) := (hc w.heap.size _ (by simp <;> omega)).trans (by simp [go_sem])
  have Cb : Cells4 w1 (w.heap.size + 1) b := ⟨(hc (w.heap.size + 1) _ (by simp <;> omega)).trans (by simp [go_sem]), (hc (w.heap.size + 1) _ (by simp <;> omega)).trans (by simp [go_sem]), (hc (w.heap.size + 1) _ (by simp <;> omega)).trans (by simp [go_sem]), (hc (w.heap.size + 1) _ (by simp <;> omega)).trans (by simp [go_sem]), (hf (w.heap.size + 1) _ (by simp <;> omega)).trans (by simp [go_sem]), (hf (w.heap.size + 1) _ (by simp <;> omega)).trans (by simp [go_sem]), (hf (w.heap.size + 1) _ (by simp <;> omega)).trans (by simp [go_sem]), (hf (w.heap.size + 1) _ (by simp <;> omega)).trans (by simp [go_sem])⟩
  have Cr : Cells4 w1 (w.heap.size + 1 + 1) 0 := ⟨(hc (w.heap.size + 1 + 1) _ (by simp <;> omega)).trans (by simp [go_sem, lim_z]), (hc (w.heap.size + 1 + 1) _ (by simp <;> omega)).trans (by simp [go_sem, lim_z]), (hc (w.heap.size + 1 + 1) _ (by simp <;> omega)).trans (by simp [go_sem, lim_z]), (hc (w.heap.size + 1 + 1) _ (by simp <;> omega)).trans (by simp [go_sem, lim_z]), (hf (w.heap.size + 1 + 1) _ (by simp <;> omega)).trans (by simp [go_sem]), (hf (w.heap.size + 1 + 1) _ (by simp <;> omega)).trans (by simp [go_sem]), (hf (w.heap.size + 1 + 1) _ (by simp <;> omega)).trans (by simp [go_sem]), (hf (w.heap.size + 1 + 1) _ (by simp <;> omega)).trans (by simp [go_sem])⟩
  have hB : Below w.heap.size w w1 := Below.over (below3 w _ _ _) hb1
  clear hb1 hc hf HL
  obtain ⟨c0, c1, c2, c3, f0, f1, f2, f3⟩ := id Cb
  obtain ⟨x0, x1, x2, x3, x4, x5, x6, x7⟩ := id Cr
  go_wp2
  simp [bodyPost, results, Try.results45, go_sem, x0, x1, x2, x3]
  exact (((hB.setCell (p := ⟨w.heap.size + 1 + 1, 0, none⟩) hle _).setCell (p := ⟨w.heap.size + 1 + 1, 1, none⟩) hle _).setCell (p := ⟨w.heap.size + 1 + 1, 2, none⟩) hle _).setCell (p := ⟨w.heap.size + 1 + 1, 3, none⟩) hle _

set_option maxHeartbeats 2000000 in
theorem byteg_1 (k p b : Nat) (hp : p + k = 31) (h0 : 8 ≤ p) (h1 : p < 16) (w : World) :
    Calls Try.prog 45 #[wd k, wd b] w fun e w' => e = .returned (.agg #[.int .u64 (bits .and .u64 (lim b 1 / 2 ^ (8 * (p % 8))) 255), .int .u64 0, .int .u64 0, .int .u64 0]) ∧ Below w.heap.size w w' := by
  have hkM : k < M := Nat.lt_trans (show k < 32 by omega) (by decide)
  have hL0 := less k 32 hkM (by decide)
  rw [decide_eq_true (show k < 32 by omega)] at hL0
  obtain ⟨v0, v1, v2, v3⟩ := lim_small k (by omega)
  have HL : ∀ w : World, Calls Try.prog 39 #[.agg #[.int .u64 k, .int .u64 0, .int .u64 0, .int .u64 0], .agg #[.int .u64 32, .int .u64 0, .int .u64 0, .int .u64 0]] w fun e w' => e = .returned (.bool true) ∧ Below w.heap.size w w' := fun w => by
    have h := hL0 w
    unfold wd at h
    rw [v0, v1, v2, v3] at h
    exact h
  have i0 : IntKind.u64.wrap (31 - (k : Int)) = (p : Int) := by rw [IntKind.wrap_u64]; omega
  have i1 : IntKind.u64.wrap ((p : Int).tdiv 8) = 1 := by rw [Int.tdiv_eq_ediv_of_nonneg (by omega), IntKind.wrap_u64]; omega
  have j1 : (p : Int) / 8 = 1 := by omega
  have j2 : p / 8 = 1 := by omega
  have i2 : (p : Int).tmod 8 = ((p % 8 : Nat) : Int) := by rw [Int.tmod_eq_emod_of_nonneg (by omega)]; omega
  have i3 : (p : Int) % 8 = ((p % 8 : Nat) : Int) := by omega
  have i4 : IntKind.u64.wrap (((p % 8 : Nat) : Int) * 8) = ((8 * (p % 8) : Nat) : Int) := by rw [IntKind.wrap_u64]; omega
  have i5 : 8 * (p % 8) < 64 := by omega
  have hle : w.heap.size ≤ w.heap.size + 1 + 1 := by omega
  unfold wd
  rw [v0, v1, v2, v3]
  clear v0 v1 v2 v3 hL0 hkM
  generalize p % 8 = r at *
  generalize 8 * r = s at *
  go_enter Try.func45, Try.ntmps45
  go_wp2_with fail
  refine (HL _).mono ?_
  rintro e w1 ⟨rfl, hb1⟩
  obtain ⟨hc, hf⟩ := bcell hb1
  have q0 : w1.cell? ⟨w.heap.size, 0, none⟩ = some (.int .u64 k) := (hc w.heap.size _ (by simp <;> omega)).trans (by simp [go_sem])
  have Cb : Cells4 w1 (w.heap.size + 1) b := ⟨(hc (w.heap.size + 1) _ (by simp <;> omega)).trans (by simp [go_sem]), (hc (w.heap.size + 1) _ (by simp <;> omega)).trans (by simp [go_sem]), (hc (w.heap.size + 1) _ (by simp <;> omega)).trans (by simp [go_sem]), (hc (w.heap.size + 1) _ (by simp <;> omega)).trans (by simp [go_sem]), (hf (w.heap.size + 1) _ (by simp <;> omega)).trans (by simp [go_sem]), (hf (w.heap.size + 1) _ (by simp <;> omega)).trans (by simp [go_sem]), (hf (w.heap.size + 1) _ (by simp <;> omega)).trans (by simp [go_sem]), (hf (w.heap.size + 1) _ (by simp <;> omega)).trans (by simp [go_sem])⟩
  have Cr : Cells4 w1 (w.heap.size + 1 + 1) 0 := ⟨(hc (w.heap.size + 1 + 1) _ (by simp <;> omega)).trans (by simp [go_sem, lim_z]), (hc (w.heap.size + 1 + 1) _ (by simp <;> omega)).trans (by simp [go_sem, lim_z]), (hc (w.heap.size + 1 + 1) _ (by simp <;> omega)).trans (by simp [go_sem, lim_z]), (hc (w.heap.size + 1 + 1) _ (by simp <;> omega)).trans (by simp [go_sem, lim_z]), (hf (w.heap.size + 1 + 1) _ (by simp <;> omega)).trans (by simp [go_sem]), (hf (w.heap.size + 1 + 1) _ (by simp <;> omega)).trans (by simp [go_sem]), (hf (w.heap.size + 1 + 1) _ (by simp <;> omega)).trans (by simp [go_sem]), (hf (w.heap.size + 1 + 1) _ (by simp <;> omega)).trans (by simp [go_sem])⟩
  have hB : Below w.heap.size w w1 := Below.over (below3 w _ _ _) hb1
  clear hb1 hc hf HL
  obtain ⟨c0, c1, c2, c3, f0, f1, f2, f3⟩ := id Cb
  obtain ⟨x0, x1, x2, x3, x4, x5, x6, x7⟩ := id Cr
  go_wp2
  simp [bodyPost, results, Try.results45, go_sem, x0, x1, x2, x3]
  exact (((hB.setCell (p := ⟨w.heap.size + 1 + 1, 0, none⟩) hle _).setCell (p := ⟨w.heap.size + 1 + 1, 1, none⟩) hle _).setCell (p := ⟨w.heap.size + 1 + 1, 2, none⟩) hle _).setCell (p := ⟨w.heap.size + 1 + 1, 3, none⟩) hle _

set_option maxHeartbeats 2000000 in
theorem byteg_2 (k p b : Nat) (hp : p + k = 31) (h0 : 16 ≤ p) (h1 : p < 24) (w : World) :
    Calls Try.prog 45 #[wd k, wd b] w fun e w' => e = .returned (.agg #[.int .u64 (bits .and .u64 (lim b 2 / 2 ^ (8 * (p % 8))) 255), .int .u64 0, .int .u64 0, .int .u64 0]) ∧ Below w.heap.size w w' := by
  have hkM : k < M := Nat.lt_trans (show k < 32 by omega) (by decide)
  have hL0 := less k 32 hkM (by decide)
  rw [decide_eq_true (show k < 32 by omega)] at hL0
  obtain ⟨v0, v1, v2, v3⟩ := lim_small k (by omega)
  have HL : ∀ w : World, Calls Try.prog 39 #[.agg #[.int .u64 k, .int .u64 0, .int .u64 0, .int .u64 0], .agg #[.int .u64 32, .int .u64 0, .int .u64 0, .int .u64 0]] w fun e w' => e = .returned (.bool true) ∧ Below w.heap.size w w' := fun w => by
    have h := hL0 w
    unfold wd at h
    rw [v0, v1, v2, v3] at h
    exact h
  have i0 : IntKind.u64.wrap (31 - (k : Int)) = (p : Int) := by rw [IntKind.wrap_u64]; omega
  have i1 : IntKind.u64.wrap ((p : Int).tdiv 8) = 2 := by rw [Int.tdiv_eq_ediv_of_nonneg (by omega), IntKind.wrap_u64]; omega
  have j1 : (p : Int) / 8 = 2 := by omega
  have j2 : p / 8 = 2 := by omega
  have i2 : (p : Int).tmod 8 = ((p % 8 : Nat) : Int) := by rw [Int.tmod_eq_emod_of_nonneg (by omega)]; omega
  have i3 : (p : Int) % 8 = ((p % 8 : Nat) : Int) := by omega
  have i4 : IntKind.u64.wrap (((p % 8 : Nat) : Int) * 8) = ((8 * (p % 8) : Nat) : Int) := by rw [IntKind.wrap_u64]; omega
  have i5 : 8 * (p % 8) < 64 := by omega
  have hle : w.heap.size ≤ w.heap.size + 1 + 1 := by omega
  unfold wd
  rw [v0, v1, v2, v3]
  clear v0 v1 v2 v3 hL0 hkM
  generalize p % 8 = r at *
  generalize 8 * r = s at *
  go_enter Try.func45, Try.ntmps45
  go_wp2_with fail
  refine (HL _).mono ?_
  rintro e w1 ⟨rfl, hb1⟩
  obtain ⟨hc, hf⟩ := bcell hb1
  have q0 : w1.cell? ⟨w.heap.size, 0, none⟩ = some (.int .u64 k) := (hc w.heap.size _ (by simp <;> omega)).trans (by simp [go_sem])
  have Cb : Cells4 w1 (w.heap.size + 1) b := ⟨(hc (w.heap.size + 1) _ (by simp <;> omega)).trans (by simp [go_sem]), (hc (w.heap.size + 1) _ (by simp <;> omega)).trans (by simp [go_sem]), (hc (w.heap.size + 1) _ (by simp <;> omega)).trans (by simp [go_sem]), (hc (w.heap.size + 1) _ (by simp <;> omega)).trans (by simp [go_sem]), (hf (w.heap.size + 1) _ (by simp <;> omega)).trans (by simp [go_sem]), (hf (w.heap.size + 1) _ (by simp <;> omega)).trans (by simp [go_sem]), (hf (w.heap.size + 1) _ (by simp <;> omega)).trans (by simp [go_sem]), (hf (w.heap.size + 1) _ (by simp <;> omega)).trans (by simp [go_sem])⟩
  have Cr : Cells4 w1 (w.heap.size + 1 + 1) 0 := ⟨(hc (w.heap.size + 1 + 1) _ (by simp <;> omega)).trans (by simp [go_sem, lim_z]), (hc (w.heap.size + 1 + 1) _ (by simp <;> omega)).trans (by simp [go_sem, lim_z]), (hc (w.heap.size + 1 + 1) _ (by simp <;> omega)).trans (by simp [go_sem, lim_z]), (hc (w.heap.size + 1 + 1) _ (by simp <;> omega)).trans (by simp [go_sem, lim_z]), (hf (w.heap.size + 1 + 1) _ (by simp <;> omega)).trans (by simp [go_sem]), (hf (w.heap.size + 1 + 1) _ (by simp <;> omega)).trans (by simp [go_sem]), (hf (w.heap.size + 1 + 1) _ (by simp <;> omega)).trans (by simp [go_sem]), (hf (w.heap.size + 1 + 1) _ (by simp <;> omega)).trans (by simp [go_sem])⟩
  have hB : Below w.heap.size w w1 := Below.over (below3 w _ _ _) hb1
  clear hb1 hc hf HL
  obtain ⟨c0, c1, c2, c3, f0, f1, f2, f3⟩ := id Cb
  obtain ⟨x0, x1, x2, x3, x4, x5, x6, x7⟩ := id Cr
  go_wp2
  simp [bodyPost, results, Try.results45, go_sem, x0, x1, x2, x3]
  exact (((hB.setCell (p := ⟨w.heap.size + 1 + 1, 0, none⟩) hle _).setCell (p := ⟨w.heap.size + 1 + 1, 1, none⟩) hle _).setCell (p := ⟨w.heap.size + 1 + 1, 2, none⟩) hle _).setCell (p := ⟨w.heap.size + 1 + 1, 3, none⟩) hle _

set_option maxHeartbeats 2000000 in
theorem byteg_3 (k p b : Nat) (hp : p + k = 31) (h0 : 24 ≤ p) (_ : p < 32) (w : World) :
    Calls Try.prog 45 #[wd k, wd b] w fun e w' => e = .returned (.agg #[.int .u64 (bits .and .u64 (lim b 3 / 2 ^ (8 * (p % 8))) 255), .int .u64 0, .int .u64 0, .int .u64 0]) ∧ Below w.heap.size w w' := by
  have hkM : k < M := Nat.lt_trans (show k < 32 by omega) (by decide)
  have hL0 := less k 32 hkM (by decide)
  rw [decide_eq_true (show k < 32 by omega)] at hL0
  obtain ⟨v0, v1, v2, v3⟩ := lim_small k (by omega)
  have HL : ∀ w : World, Calls Try.prog 39 #[.agg #[.int .u64 k, .int .u64 0, .int .u64 0, .int .u64 0], .agg #[.int .u64 32, .int .u64 0, .int .u64 0, .int .u64 0]] w fun e w' => e = .returned (.bool true) ∧ Below w.heap.size w w' := fun w => by
    have h := hL0 w
    unfold wd at h
    rw [v0, v1, v2, v3] at h
    exact h
  have i0 : IntKind.u64.wrap (31 - (k : Int)) = (p : Int) := by rw [IntKind.wrap_u64]; omega
  have i1 : IntKind.u64.wrap ((p : Int).tdiv 8) = 3 := by rw [Int.tdiv_eq_ediv_of_nonneg (by omega), IntKind.wrap_u64]; omega
  have j1 : (p : Int) / 8 = 3 := by omega
  have j2 : p / 8 = 3 := by omega
  have i2 : (p : Int).tmod 8 = ((p % 8 : Nat) : Int) := by rw [Int.tmod_eq_emod_of_nonneg (by omega)]; omega
  have i3 : (p : Int) % 8 = ((p % 8 : Nat) : Int) := by omega
  have i4 : IntKind.u64.wrap (((p % 8 : Nat) : Int) * 8) = ((8 * (p % 8) : Nat) : Int) := by rw [IntKind.wrap_u64]; omega
  have i5 : 8 * (p % 8) < 64 := by omega
  have hle : w.heap.size ≤ w.heap.size + 1 + 1 := by omega
  unfold wd
  rw [v0, v1, v2, v3]
  clear v0 v1 v2 v3 hL0 hkM
  generalize p % 8 = r at *
  generalize 8 * r = s at *
  go_enter Try.func45, Try.ntmps45
  go_wp2_with fail
  refine (HL _).mono ?_
  rintro e w1 ⟨rfl, hb1⟩
  obtain ⟨hc, hf⟩ := bcell hb1
  have q0 : w1.cell? ⟨w.heap.size, 0, none⟩ = some (.int .u64 k) := (hc w.heap.size _ (by simp <;> omega)).trans (by simp [go_sem])
  have Cb : Cells4 w1 (w.heap.size + 1) b := ⟨(hc (w.heap.size + 1) _ (by simp <;> omega)).trans (by simp [go_sem]), (hc (w.heap.size + 1) _ (by simp <;> omega)).trans (by simp [go_sem]), (hc (w.heap.size + 1) _ (by simp <;> omega)).trans (by simp [go_sem]), (hc (w.heap.size + 1) _ (by simp <;> omega)).trans (by simp [go_sem]), (hf (w.heap.size + 1) _ (by simp <;> omega)).trans (by simp [go_sem]), (hf (w.heap.size + 1) _ (by simp <;> omega)).trans (by simp [go_sem]), (hf (w.heap.size + 1) _ (by simp <;> omega)).trans (by simp [go_sem]), (hf (w.heap.size + 1) _ (by simp <;> omega)).trans (by simp [go_sem])⟩
  have Cr : Cells4 w1 (w.heap.size + 1 + 1) 0 := ⟨(hc (w.heap.size + 1 + 1) _ (by simp <;> omega)).trans (by simp [go_sem, lim_z]), (hc (w.heap.size + 1 + 1) _ (by simp <;> omega)).trans (by simp [go_sem, lim_z]), (hc (w.heap.size + 1 + 1) _ (by simp <;> omega)).trans (by simp [go_sem, lim_z]), (hc (w.heap.size + 1 + 1) _ (by simp <;> omega)).trans (by simp [go_sem, lim_z]), (hf (w.heap.size + 1 + 1) _ (by simp <;> omega)).trans (by simp [go_sem]), (hf (w.heap.size + 1 + 1) _ (by simp <;> omega)).trans (by simp [go_sem]), (hf (w.heap.size + 1 + 1) _ (by simp <;> omega)).trans (by simp [go_sem]), (hf (w.heap.size + 1 + 1) _ (by simp <;> omega)).trans (by simp [go_sem])⟩
  have hB : Below w.heap.size w w1 := Below.over (below3 w _ _ _) hb1
  clear hb1 hc hf HL
  obtain ⟨c0, c1, c2, c3, f0, f1, f2, f3⟩ := id Cb
  obtain ⟨x0, x1, x2, x3, x4, x5, x6, x7⟩ := id Cr
  go_wp2
  simp [bodyPost, results, Try.results45, go_sem, x0, x1, x2, x3]
  exact (((hB.setCell (p := ⟨w.heap.size + 1 + 1, 0, none⟩) hle _).setCell (p := ⟨w.heap.size + 1 + 1, 1, none⟩) hle _).setCell (p := ⟨w.heap.size + 1 + 1, 2, none⟩) hle _).setCell (p := ⟨w.heap.size + 1 + 1, 3, none⟩) hle _

theorem byte_val (b q r : Nat) (hr : r < 8) : bits .and .u64 (lim b q / 2 ^ (8 * r)) 255 = ((b / 2 ^ (64 * q + 8 * r) % 256 : Nat) : Int) := by
  have h0 := lim_nn b q; have h1 := lim_lt b q
  have hp : (0 : Int) < 2 ^ (8 * r) := Int.pow_pos (by decide)
  rw [and255 _ (Int.ediv_nonneg h0 (Int.le_of_lt hp)) (Int.lt_of_le_of_lt (Int.ediv_le_self _ h0) h1)]
  unfold lim
  have e : (18446744073709551616 : Nat) ^ q = 2 ^ (64 * q) := by rw [show (18446744073709551616 : Nat) = 2 ^ 64 from rfl, ← Nat.pow_mul]
  rw [e, Nat.pow_add, ← Nat.div_div_eq_div_mul]
  generalize b / 2 ^ (64 * q) = x
  have h : x % 18446744073709551616 / 2 ^ (8 * r) % 256 = x / 2 ^ (8 * r) % 256 := by
    have d : (18446744073709551616 : Nat) = 2 ^ (8 * r) * (2 ^ (56 - 8 * r) * 256) := by
      rw [show (256 : Nat) = 2 ^ 8 from rfl, ← Nat.pow_add, ← Nat.pow_add, show 8 * r + (56 - 8 * r + 8) = 64 by omega]
    rw [d, Nat.mod_mul_right_div_self, Nat.mod_mod_of_dvd _ ⟨_, Nat.mul_comm _ _⟩]
  rw [← h]
  simp
theorem byteg (k b : Nat) (hk : k < 32) (w : World) : Calls Try.prog 45 #[wd k, wd b] w fun e w' => e = .returned (wd (b / 2 ^ (8 * (31 - k)) % 256)) ∧ Below w.heap.size w w' := by
  have hv : b / 2 ^ (8 * (31 - k)) % 256 < 18446744073709551616 := Nat.lt_of_lt_of_le (Nat.mod_lt _ (by decide)) (by decide)
  obtain ⟨v0, v1, v2, v3⟩ := lim_small _ hv
  have c : 31 - k < 8 ∨ (8 ≤ 31 - k ∧ 31 - k < 16) ∨ (16 ≤ 31 - k ∧ 31 - k < 24) ∨ (24 ≤ 31 - k ∧ 31 - k < 32) := by omega
  rcases c with c | c | c | c
  · refine (byteg_0 k (31 - k) b (by omega) (by omega) (by omega) w).mono fun e w' ⟨he, hb'⟩ => ⟨?_, hb'⟩
    rw [he, byte_val b 0 ((31 - k) % 8) (by omega), show 64 * 0 + 8 * ((31 - k) % 8) = 8 * (31 - k) by omega]
    unfold wd
    rw [v0, v1, v2, v3]
  · refine (byteg_1 k (31 - k) b (by omega) (by omega) (by omega) w).mono fun e w' ⟨he, hb'⟩ => ⟨?_, hb'⟩
    rw [he, byte_val b 1 ((31 - k) % 8) (by omega), show 64 * 1 + 8 * ((31 - k) % 8) = 8 * (31 - k) by omega]
    unfold wd
    rw [v0, v1, v2, v3]
  · refine (byteg_2 k (31 - k) b (by omega) (by omega) (by omega) w).mono fun e w' ⟨he, hb'⟩ => ⟨?_, hb'⟩
    rw [he, byte_val b 2 ((31 - k) % 8) (by omega), show 64 * 2 + 8 * ((31 - k) % 8) = 8 * (31 - k) by omega]
    unfold wd
    rw [v0, v1, v2, v3]
  · refine (byteg_3 k (31 - k) b (by omega) (by omega) (by omega) w).mono fun e w' ⟨he, hb'⟩ => ⟨?_, hb'⟩
    rw [he, byte_val b 3 ((31 - k) % 8) (by omega), show 64 * 3 + 8 * ((31 - k) % 8) = 8 * (31 - k) by omega]
    unfold wd
    rw [v0, v1, v2, v3]

set_option maxHeartbeats 400000 in
theorem ext_hi (a b : Nat) (ha : a < M) (h : ¬ a < 31) (w : World) : Calls Try.prog 37 #[wd a, wd b] w fun e w' => e = .returned (wd b) ∧ Below w.heap.size w w' := by
  have hL0 := less a 31 ha (by decide)
  rw [decide_eq_false h] at hL0
  have HL : ∀ w : World, Calls Try.prog 39 #[wd a, .agg #[.int .u64 31, .int .u64 0, .int .u64 0, .int .u64 0]] w fun e w' => e = .returned (.bool false) ∧ Below w.heap.size w w' := hL0
  clear hL0
  have ez : wd 0 = .agg #[.int .u64 0, .int .u64 0, .int .u64 0, .int .u64 0] := by unfold wd; simp [lim_z]
  clear ez
  go_enter Try.func37, Try.ntmps37
  go_wp2_with fail
  refine (HL _).mono ?_
  rintro e w1 ⟨rfl, hb1⟩
  obtain ⟨hc, hf⟩ := bcell hb1
  have Cb : Cells4 w1 (w.heap.size + 1) b := ⟨(hc (w.heap.size + 1) _ (by simp <;> omega)).trans (by simp [go_sem]), (hc (w.heap.size + 1) _ (by simp <;> omega)).trans (by simp [go_sem]), (hc (w.heap.size + 1) _ (by simp <;> omega)).trans (by simp [go_sem]), (hc (w.heap.size + 1) _ (by simp <;> omega)).trans (by simp [go_sem]), (hf (w.heap.size + 1) _ (by simp <;> omega)).trans (by simp [go_sem]), (hf (w.heap.size + 1) _ (by simp <;> omega)).trans (by simp [go_sem]), (hf (w.heap.size + 1) _ (by simp <;> omega)).trans (by simp [go_sem]), (hf (w.heap.size + 1) _ (by simp <;> omega)).trans (by simp [go_sem])⟩
  have Cr : Cells4 w1 (w.heap.size + 1 + 1) 0 := ⟨(hc (w.heap.size + 1 + 1) _ (by simp <;> omega)).trans (by simp [go_sem, lim_z]), (hc (w.heap.size + 1 + 1) _ (by simp <;> omega)).trans (by simp [go_sem, lim_z]), (hc (w.heap.size + 1 + 1) _ (by simp <;> omega)).trans (by simp [go_sem, lim_z]), (hc (w.heap.size + 1 + 1) _ (by simp <;> omega)).trans (by simp [go_sem, lim_z]), (hf (w.heap.size + 1 + 1) _ (by simp <;> omega)).trans (by simp [go_sem]), (hf (w.heap.size + 1 + 1) _ (by simp <;> omega)).trans (by simp [go_sem]), (hf (w.heap.size + 1 + 1) _ (by simp <;> omega)).trans (by simp [go_sem]), (hf (w.heap.size + 1 + 1) _ (by simp <;> omega)).trans (by simp [go_sem])⟩
  have hB : Below w.heap.size w w1 := Below.over (below3 w _ _ _) hb1
  have hle : w.heap.size ≤ w.heap.size + 1 + 1 := by omega
  clear hb1 hc hf HL
  obtain ⟨c0, c1, c2, c3, f0, f1, f2, f3⟩ := id Cb
  obtain ⟨x0, x1, x2, x3, x4, x5, x6, x7⟩ := id Cr
  go_wp2
  simp [bodyPost, results, Try.results37, go_sem, x0, x1, x2, x3]
  exact (((hB.setCell (p := ⟨w.heap.size + 1 + 1, 0, none⟩) hle _).setCell (p := ⟨w.heap.size + 1 + 1, 1, none⟩) hle _).setCell (p := ⟨w.heap.size + 1 + 1, 2, none⟩) hle _).setCell (p := ⟨w.heap.size + 1 + 1, 3, none⟩) hle _

set_option maxHeartbeats 400000 in
theorem byte_hi (a b : Nat) (ha : a < M) (h : ¬ a < 32) (w : World) : Calls Try.prog 45 #[wd a, wd b] w fun e w' => e = .returned (wd 0) ∧ Below w.heap.size w w' := by
  have hL0 := less a 32 ha (by decide)
  rw [decide_eq_false h] at hL0
  have HL : ∀ w : World, Calls Try.prog 39 #[wd a, .agg #[.int .u64 32, .int .u64 0, .int .u64 0, .int .u64 0]] w fun e w' => e = .returned (.bool false) ∧ Below w.heap.size w w' := hL0
  clear hL0
  have ez : wd 0 = .agg #[.int .u64 0, .int .u64 0, .int .u64 0, .int .u64 0] := by unfold wd; simp [lim_z]
  rw [ez]
  go_enter Try.func45, Try.ntmps45
  go_wp2_with fail
  refine (HL _).mono ?_
  rintro e w1 ⟨rfl, hb1⟩
  obtain ⟨hc, hf⟩ := bcell hb1
  have Cb : Cells4 w1 (w.heap.size + 1) b := ⟨(hc (w.heap.size + 1) _ (by simp <;> omega)).trans (by simp [go_sem]), (hc (w.heap.size + 1) _ (by simp <;> omega)).trans (by simp [go_sem]), (hc (w.heap.size + 1) _ (by simp <;> omega)).trans (by simp [go_sem]), (hc (w.heap.size + 1) _ (by simp <;> omega)).trans (by simp [go_sem]), (hf (w.heap.size + 1) _ (by simp <;> omega)).trans (by simp [go_sem]), (hf (w.heap.size + 1) _ (by simp <;> omega)).trans (by simp [go_sem]), (hf (w.heap.size + 1) _ (by simp <;> omega)).trans (by simp [go_sem]), (hf (w.heap.size + 1) _ (by simp <;> omega)).trans (by simp [go_sem])⟩
  have Cr : Cells4 w1 (w.heap.size + 1 + 1) 0 := ⟨(hc (w.heap.size + 1 + 1) _ (by simp <;> omega)).trans (by simp [go_sem, lim_z]), (hc (w.heap.size + 1 + 1) _ (by simp <;> omega)).trans (by simp [go_sem, lim_z]), (hc (w.heap.size + 1 + 1) _ (by simp <;> omega)).trans (by simp [go_sem, lim_z]), (hc (w.heap.size + 1 + 1) _ (by simp <;> omega)).trans (by simp [go_sem, lim_z]), (hf (w.heap.size + 1 + 1) _ (by simp <;> omega)).trans (by simp [go_sem]), (hf (w.heap.size + 1 + 1) _ (by simp <;> omega)).trans (by simp [go_sem]), (hf (w.heap.size + 1 + 1) _ (by simp <;> omega)).trans (by simp [go_sem]), (hf (w.heap.size + 1 + 1) _ (by simp <;> omega)).trans (by simp [go_sem])⟩
  have hB : Below w.heap.size w w1 := Below.over (below3 w _ _ _) hb1
  have hle : w.heap.size ≤ w.heap.size + 1 + 1 := by omega
  clear hb1 hc hf HL
  obtain ⟨c0, c1, c2, c3, f0, f1, f2, f3⟩ := id Cb
  obtain ⟨x0, x1, x2, x3, x4, x5, x6, x7⟩ := id Cr
  go_wp2
  simp [bodyPost, results, Try.results45, go_sem, x0, x1, x2, x3]
  exact (((hB.setCell (p := ⟨w.heap.size + 1 + 1, 0, none⟩) hle _).setCell (p := ⟨w.heap.size + 1 + 1, 1, none⟩) hle _).setCell (p := ⟨w.heap.size + 1 + 1, 2, none⟩) hle _).setCell (p := ⟨w.heap.size + 1 + 1, 3, none⟩) hle _

/-- Extend and Byte, as numbers. -/
def extv (a b : Nat) : Nat := if a < 31 then (if b.testBit (8 * a + 7) then b ||| (M - 1 - (2 ^ (8 * a + 8) - 1)) else b &&& (2 ^ (8 * a + 8) - 1)) else b
def bytev (a b : Nat) : Nat := if a < 32 then b / 2 ^ (8 * (31 - a)) % 256 else 0
theorem ext_any (a b : Nat) (ha : a < M) (w : World) : Calls Try.prog 37 #[wd a, wd b] w fun e w' => e = .returned (wd (extv a b)) ∧ Below w.heap.size w w' := by
  unfold extv
  by_cases h : a < 31
  · rw [if_pos h]
    have hp : 0 < 2 ^ (8 * a + 8) := Nat.pow_pos (by decide)
    have hl : 2 ^ (8 * a + 8) - 1 < M := Nat.lt_of_le_of_lt (Nat.sub_le _ _) (pow_ltM _ (by omega))
    cases hb : b.testBit (8 * a + 7)
    · exact extg_f a b _ h rfl hl hb w
    · exact extg_t a b _ h rfl hl hb w
  · rw [if_neg h]
    exact ext_hi a b ha h w
theorem byte_any (a b : Nat) (ha : a < M) (w : World) : Calls Try.prog 45 #[wd a, wd b] w fun e w' => e = .returned (wd (bytev a b)) ∧ Below w.heap.size w w' := by
  unfold bytev
  by_cases h : a < 32
  · rw [if_pos h]
    exact byteg a b h w
  · rw [if_neg h]
    exact byte_hi a b ha h w

set_option maxHeartbeats 400000 in
theorem nwork11g (a b c : Nat) (ha : a < M) : NWork 11 a b c (extv a b) := by
  intro w
  have HC := ext_any a b ha
  go_enter Try.func12, Try.ntmps12
  go_wp2_with fail
  refine (HC _).mono ?_
  rintro e w1 ⟨rfl, hb1⟩
  obtain ⟨hc, hf⟩ := bcell hb1
  have hz : w.heap.size + 1 + 1 + 1 < w1.heap.size := by have := hb1.size; simp at this; omega
  have hB : Below w.heap.size w w1 := Below.over (below4 w _ _ _ _) hb1
  clear hb1
  go_wp2
  simp [bodyPost, results, Try.results12, go_sem, hc]
  exact set4_below hB (by omega) _

set_option maxHeartbeats 400000 in
theorem nwork22g (a b c : Nat) (ha : a < M) : NWork 22 a b c (bytev a b) := by
  intro w
  have HC := byte_any a b ha
  go_enter Try.func12, Try.ntmps12
  go_wp2_with fail
  refine (HC _).mono ?_
  rintro e w1 ⟨rfl, hb1⟩
  obtain ⟨hc, hf⟩ := bcell hb1
  have hz : w.heap.size + 1 + 1 + 1 < w1.heap.size := by have := hb1.size; simp at this; omega
  have hB : Below w.heap.size w w1 := Below.over (below4 w _ _ _ _) hb1
  clear hb1
  go_wp2
  simp [bodyPost, results, Try.results12, go_sem, hc]
  exact set4_below hB (by omega) _

set_option maxHeartbeats 2000000 in
theorem nwork_no (op : Int) (h : op < 1 ∨ 22 < op) (a b c : Nat) : NWork op a b c 0 := by
  intro w
  have n1 : (op == 1) = false := by simp; omega
  have n2 : (op == 2) = false := by simp; omega
  have n3 : (op == 3) = false := by simp; omega
  have n4 : (op == 4) = false := by simp; omega
  have n5 : (op == 5) = false := by simp; omega
  have n6 : (op == 6) = false := by simp; omega
  have n7 : (op == 7) = false := by simp; omega
  have n8 : (op == 8) = false := by simp; omega
  have n9 : (op == 9) = false := by simp; omega
  have n10 : (op == 10) = false := by simp; omega
  have n11 : (op == 11) = false := by simp; omega
  have n12 : (op == 12) = false := by simp; omega
  have n13 : (op == 13) = false := by simp; omega
  have n14 : (op == 14) = false := by simp; omega
  have n15 : (op == 15) = false := by simp; omega
  have n16 : (op == 16) = false := by simp; omega
  have n17 : (op == 17) = false := by simp; omega
  have n18 : (op == 18) = false := by simp; omega
  have n19 : (op == 19) = false := by simp; omega
  have n20 : (op == 20) = false := by simp; omega
  have n21 : (op == 21) = false := by simp; omega
  have n22 : (op == 22) = false := by simp; omega
  have ez : wd 0 = .agg #[.int .u64 0, .int .u64 0, .int .u64 0, .int .u64 0] := by unfold wd; simp [lim_z]
  rw [ez]
  clear ez h
  go_enter Try.func12, Try.ntmps12
  go_wp2
  simp [bodyPost, results, Try.results12, go_sem]
  exact below4 _ _ _ _ _

end Go.Proofs.Ytbephahokhnccaa

