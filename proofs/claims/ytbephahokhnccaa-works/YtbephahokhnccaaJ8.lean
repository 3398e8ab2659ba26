/-
  purserref: small: what it returns.
  Plain arithmetic of Extend: bits above a place turned one by one.
  purserref.extend: what it returns.
  purserref.octets: what it returns.
-/
import Derived.Test.YtbephahokhnccaaL9
import Derived.Test.YtbephahokhnccaaJ9
import Derived.Laws.IdiomStrings
namespace Go.Proofs.Ytbephahokhnccaa
open Go.RowKit Go.Shelf
attribute [local go_sem] wd

set_option maxHeartbeats 400000 in
theorem small_lo (a : Nat) (h : a ≤ 1099511627776) (w : World) : Calls Try.prog 25 #[wd a] w fun e w' => e = .returned (.int .i64 a) ∧ Below w.heap.size w w' := by
  obtain ⟨v0, v1, v2, v3⟩ := lim_small a (by omega)
  unfold wd
  rw [v0, v1, v2, v3]
  have h1 : ¬ (1099511627776 : Int) < a := by omega
  have h2 : IntKind.i64.wrap (a : Int) = a := by rw [IntKind.wrap_i64]; omega
  clear v0 v1 v2 v3
  go_enter Try.func25, Try.ntmps25
  go_wp2
  go_ret
  exact ⟨rfl, (Below.refl _ _).alloc (Nat.le_refl _) _⟩
set_option maxHeartbeats 400000 in
theorem small_x1 (x0 x1 x2 x3 : Int) (h : 0 < x1) (w : World) : Calls Try.prog 25 #[.agg #[.int .u64 x0, .int .u64 x1, .int .u64 x2, .int .u64 x3]] w fun e w' => e = .returned (.int .i64 1099511627776) ∧ Below w.heap.size w w' := by
  go_enter Try.func25, Try.ntmps25
  go_wp2
  go_ret
  exact ⟨rfl, (Below.refl _ _).alloc (Nat.le_refl _) _⟩
set_option maxHeartbeats 400000 in
theorem small_x2 (x0 x2 x3 : Int) (h : 0 < x2) (w : World) : Calls Try.prog 25 #[.agg #[.int .u64 x0, .int .u64 0, .int .u64 x2, .int .u64 x3]] w fun e w' => e = .returned (.int .i64 1099511627776) ∧ Below w.heap.size w w' := by
  go_enter Try.func25, Try.ntmps25
  go_wp2
  go_ret
  exact ⟨rfl, (Below.refl _ _).alloc (Nat.le_refl _) _⟩
set_option maxHeartbeats 400000 in
theorem small_x3 (x0 x3 : Int) (h : 0 < x3) (w : World) : Calls Try.prog 25 #[.agg #[.int .u64 x0, .int .u64 0, .int .u64 0, .int .u64 x3]] w fun e w' => e = .returned (.int .i64 1099511627776) ∧ Below w.heap.size w w' := by
  go_enter Try.func25, Try.ntmps25
  go_wp2
  go_ret
  exact ⟨rfl, (Below.refl _ _).alloc (Nat.le_refl _) _⟩
set_option maxHeartbeats 400000 in
theorem small_x0 (x0 : Int) (h : 1099511627776 < x0) (w : World) : Calls Try.prog 25 #[.agg #[.int .u64 x0, .int .u64 0, .int .u64 0, .int .u64 0]] w fun e w' => e = .returned (.int .i64 1099511627776) ∧ Below w.heap.size w w' := by
  go_enter Try.func25, Try.ntmps25
  go_wp2
  go_ret
  exact ⟨rfl, (Below.refl _ _).alloc (Nat.le_refl _) _⟩
theorem small_hi (a : Nat) (ha : a < M) (h : 1099511627776 < a) (w : World) : Calls Try.prog 25 #[wd a] w fun e w' => e = .returned (.int .i64 1099511627776) ∧ Below w.heap.size w w' := by
  have s := lim_sum a ha
  have n0 := lim_nn a 0; have n1 := lim_nn a 1; have n2 := lim_nn a 2; have n3 := lim_nn a 3
  unfold wd
  by_cases c1 : 0 < lim a 1
  · exact small_x1 _ _ _ _ c1 w
  · have e1 : lim a 1 = 0 := by omega
    rw [e1]
    by_cases c2 : 0 < lim a 2
    · exact small_x2 _ _ _ c2 w
    · have e2 : lim a 2 = 0 := by omega
      rw [e2]
      by_cases c3 : 0 < lim a 3
      · exact small_x3 _ _ c3 w
      · have e3 : lim a 3 = 0 := by omega
        rw [e3]
        exact small_x0 _ (by omega) w

end Go.Proofs.Ytbephahokhnccaa

namespace Go.Proofs.Ytbephahokhnccaa

/-- The lowest i bits of E, the others of b. -/
def vx (E b i : Nat) : Nat := 2 ^ i * (b / 2 ^ i) + E % 2 ^ i
theorem vx_tb (E b i j : Nat) : (vx E b i).testBit j = if j < i then E.testBit j else b.testBit j := by
  unfold vx
  rw [Nat.testBit_two_pow_mul_add _ (Nat.mod_lt _ (Nat.pow_pos (by decide)))]
  by_cases h : j < i
  · rw [if_pos h, if_pos h, Nat.testBit_mod_two_pow, decide_eq_true h, Bool.true_and]
  · rw [if_neg h, if_neg h, Nat.testBit_div_two_pow, show j - i + i = j by omega]
theorem vx_div (E b i : Nat) : vx E b i / 2 ^ i = b / 2 ^ i := by
  unfold vx
  rw [Nat.mul_add_div (Nat.pow_pos (by decide)), Nat.div_eq_of_lt (Nat.mod_lt _ (Nat.pow_pos (by decide))), Nat.add_zero]
theorem vx_next (E b i : Nat) : vx E b (i + 1) + 2 ^ i * (b / 2 ^ i % 2) = vx E b i + 2 ^ i * (E / 2 ^ i % 2) := by
  unfold vx
  have h1 : b / 2 ^ i / 2 = b / 2 ^ (i + 1) := by rw [Nat.div_div_eq_div_mul, Nat.pow_succ]
  have h2 : E % 2 ^ (i + 1) = E % 2 ^ i + 2 ^ i * (E / 2 ^ i % 2) := by rw [Nat.pow_succ, Nat.mod_mul]
  rw [h2, ← h1]
  have h3 : b / 2 ^ i = 2 * (b / 2 ^ i / 2) + b / 2 ^ i % 2 := by omega
  have h4 : 2 ^ i * (b / 2 ^ i) = 2 ^ (i + 1) * (b / 2 ^ i / 2) + 2 ^ i * (b / 2 ^ i % 2) := by
    rw [Nat.pow_succ, Nat.mul_assoc, ← Nat.mul_add, ← h3]
  omega
theorem dig_tb (n k m : Nat) (hm : m < 32) : (n / 4294967296 ^ k % 4294967296).testBit m = n.testBit (32 * k + m) := by
  have e : (4294967296 : Nat) ^ k = 2 ^ (32 * k) := by rw [show (4294967296 : Nat) = 2 ^ 32 from rfl, ← Nat.pow_mul]
  rw [e, show (4294967296 : Nat) = 2 ^ 32 from rfl, Nat.testBit_mod_two_pow, Nat.testBit_div_two_pow, decide_eq_true hm, Bool.true_and, Nat.add_comm]
/-- Two numbers that differ at bit i alone have the same digits but one. -/
theorem dig_same (u v i k : Nat) (h : ∀ j, j ≠ i → u.testBit j = v.testBit j) (hk : k ≠ i / 32) : dig u k = dig v k := by
  rw [digN, digN]
  congr 1
  apply Nat.eq_of_testBit_eq
  intro m
  by_cases hm : m < 32
  · rw [dig_tb u k m hm, dig_tb v k m hm, h _ (by omega)]
  · have z : ∀ n, (n / 4294967296 ^ k % 4294967296).testBit m = false := fun n => Nat.testBit_lt_two_pow (Nat.lt_of_lt_of_le (Nat.mod_lt _ (by decide)) (show 2 ^ 32 ≤ 2 ^ m from Nat.pow_le_pow_right (by decide) (by omega)))
    rw [z, z]
theorem dl_turn (u v i : Nat) (h : ∀ j, j ≠ i → u.testBit j = v.testBit j) (hi : i < 512) : (dl v).set (i / 32) (.int .u64 (dig u (i / 32))) = dl u := by
  apply List.ext_getElem?
  intro j
  rw [List.getElem?_set]
  by_cases hj : j < 16
  · by_cases e : i / 32 = j
    · rw [if_pos e, if_pos (by rw [dl_len]; omega), ← e, dl_get u (i / 32) (by omega)]
    · rw [if_neg e, dl_get v j hj, dl_get u j hj, dig_same u v i j h (fun h => e h.symm)]
  · rw [if_neg (by omega), List.getElem?_eq_none (by rw [dl_len]; omega), List.getElem?_eq_none (by rw [dl_len]; omega)]
/-- The digit that turns: up or down by the bit. -/
theorem dig_turn (u v i : Nat) (h : u = v + 2 ^ i) (hv : v / 2 ^ i % 2 = 0) : dig u (i / 32) = dig v (i / 32) + 2 ^ (i % 32) := by
  rw [digN, digN]
  have e : (4294967296 : Nat) ^ (i / 32) = 2 ^ (32 * (i / 32)) := by rw [show (4294967296 : Nat) = 2 ^ 32 from rfl, ← Nat.pow_mul]
  have ei : 2 ^ i = 2 ^ (32 * (i / 32)) * 2 ^ (i % 32) := by rw [← Nat.pow_add, show 32 * (i / 32) + i % 32 = i by omega]
  have hp : 0 < 2 ^ (32 * (i / 32)) := Nat.pow_pos (by decide)
  have hb : v / 2 ^ (32 * (i / 32)) / 2 ^ (i % 32) % 2 = 0 := by rw [Nat.div_div_eq_div_mul, ← ei]; exact hv
  rw [e, h, ei, Nat.add_mul_div_left _ _ hp]
  generalize v / 2 ^ (32 * (i / 32)) = x at hb
  have hr : i % 32 < 32 := by omega
  generalize i % 32 = r at hb hr
  have hq : 0 < 2 ^ r := Nat.pow_pos (by decide)
  have d : (4294967296 : Nat) = 2 ^ r * (2 * 2 ^ (31 - r)) := by
    rw [← Nat.pow_succ', ← Nat.pow_add, show r + (31 - r + 1) = 32 by omega]
  have hx : x % 4294967296 = x % 2 ^ r + 2 ^ r * (x / 2 ^ r % (2 * 2 ^ (31 - r))) := by rw [d, Nat.mod_mul]
  have hy : x / 2 ^ r % (2 * 2 ^ (31 - r)) % 2 = 0 := by rw [Nat.mod_mul_right_mod]; exact hb
  have hz : x / 2 ^ r % (2 * 2 ^ (31 - r)) < 2 * 2 ^ (31 - r) := Nat.mod_lt _ (Nat.mul_pos (by decide) (Nat.pow_pos (by decide)))
  have hxl := Nat.mod_lt x hq
  have hs : x % 4294967296 + 2 ^ r < 4294967296 := by
    have h1 : x / 2 ^ r % (2 * 2 ^ (31 - r)) + 2 ≤ 2 * 2 ^ (31 - r) := by omega
    have h2 : 2 ^ r * (x / 2 ^ r % (2 * 2 ^ (31 - r)) + 2) ≤ 2 ^ r * (2 * 2 ^ (31 - r)) := Nat.mul_le_mul_left _ h1
    rw [← d, Nat.mul_add] at h2
    omega
  have hf : (x + 2 ^ r) % 4294967296 = x % 4294967296 + 2 ^ r := by
    rw [Nat.add_mod, Nat.mod_eq_of_lt (show 2 ^ r < 4294967296 by omega), Nat.mod_eq_of_lt hs]
  rw [hf]
  simp

end Go.Proofs.Ytbephahokhnccaa

namespace Go.Proofs.Ytbephahokhnccaa
open Go.RowKit Go.Shelf
attribute [local go_sem] wd

theorem extv_lo (k b j : Nat) (hk : k < 31) (hj : j < 8 * k + 8) : (extv k b).testBit j = b.testBit j := by
  unfold extv
  rw [if_pos hk]
  have hp : 0 < 2 ^ (8 * k + 8) := Nat.pow_pos (by decide)
  have hl : 2 ^ (8 * k + 8) - 1 < M := Nat.lt_of_le_of_lt (Nat.sub_le _ _) (pow_ltM _ (by omega))
  cases b.testBit (8 * k + 7)
  · rw [if_neg (by decide), Nat.testBit_and, Nat.testBit_two_pow_sub_one, decide_eq_true hj, Bool.and_true]
  · rw [if_pos rfl, Nat.testBit_or, not_tb _ hl, Nat.testBit_two_pow_sub_one, decide_eq_true hj]
    simp
theorem extv_hi (k b j : Nat) (hk : k < 31) (hj : 8 * k + 8 ≤ j) (hj2 : j < 256) : (extv k b).testBit j = b.testBit (8 * k + 7) := by
  unfold extv
  rw [if_pos hk]
  have hl : 2 ^ (8 * k + 8) - 1 < M := Nat.lt_of_le_of_lt (Nat.sub_le _ _) (pow_ltM _ (by omega))
  cases b.testBit (8 * k + 7)
  · rw [if_neg (by decide), Nat.testBit_and, Nat.testBit_two_pow_sub_one, decide_eq_false (by omega), Bool.and_false]
  · rw [if_pos rfl, Nat.testBit_or, not_tb _ hl, Nat.testBit_two_pow_sub_one, decide_eq_false (show ¬ j < 8 * k + 8 by omega), decide_eq_true hj2]
    simp
theorem extv_lt (k b : Nat) (hk : k < 31) (hb : b < M) : extv k b < M := by
  unfold extv
  rw [if_pos hk]
  have hp : 0 < 2 ^ (8 * k + 8) := Nat.pow_pos (by decide)
  split
  · exact or_lt _ _ hb (by have := M_pos; omega)
  · exact and_lt _ _ hb
theorem tb_num (b i : Nat) : b.testBit i = decide (b / 2 ^ i % 2 = 1) := Nat.testBit_eq_decide_div_mod_eq
theorem M256 : M = 2 ^ 256 := by decide
theorem vx_start (k b : Nat) (hk : k < 31) : vx (extv k b) b (8 * k + 8) = b := by
  apply Nat.eq_of_testBit_eq
  intro j
  rw [vx_tb]
  by_cases h : j < 8 * k + 8
  · rw [if_pos h, extv_lo k b j hk h]
  · rw [if_neg h]
theorem vx_end (E b : Nat) (hE : E < M) (hb : b < M) : vx E b 256 = E := by
  apply Nat.eq_of_testBit_eq
  intro j
  rw [vx_tb]
  by_cases h : j < 256
  · rw [if_pos h]
  · rw [if_neg h]
    have z : ∀ n, n < M → n.testBit j = false := fun n hn => Nat.testBit_lt_two_pow (Nat.lt_of_lt_of_le (M256 ▸ hn) (Nat.pow_le_pow_right (by decide) (by omega)))
    rw [z E hE, z b hb]

theorem vx_same (E b i j : Nat) (hj : j ≠ i) : (vx E b (i + 1)).testBit j = (vx E b i).testBit j := by
  rw [vx_tb, vx_tb]
  by_cases c : j < i
  · rw [if_pos c, if_pos (by omega)]
  · rw [if_neg c, if_neg (by omega)]

abbrev XF (w W : World) (B6 n : Nat) : Prop := Below w.heap.size w W ∧ (∃ m, Cells4 W (w.heap.size + 1 + 1) m) ∧ LH W B6 (dl n) ∧ w.heap.size + 1 + 1 < B6
theorem XF.keep {w W W' : World} {B6 n : Nat} (h : XF w W B6 n) (hb : Below W.heap.size W W') : XF w W' B6 n := by
  obtain ⟨hB, ⟨m, C⟩, L, hz⟩ := h
  have := L.z
  exact ⟨hB.trans (hb.mono hB.size), ⟨m, C.below hb (by omega)⟩, L.below hb, hz⟩

theorem cells_other_at {W : World} {b c m : Nat} (h : Cells4 W b m) (hne : b ≠ c) (k : Nat) (v : Value) : Cells4 (W.setCell ⟨c, k, none⟩ v) b m := by
  obtain ⟨c0, c1, c2, c3, f0, f1, f2, f3⟩ := h
  refine ⟨?_, ?_, ?_, ?_, ?_, ?_, ?_, ?_⟩ <;> simp [go_sem, *]

set_option maxHeartbeats 4000000 in
theorem rext_0 (k b : Nat) (hk : k < 31) (hb : b < M) (htop : b / 2 ^ (8 * k + 7) % 2 = 0) (w : World) :
    Calls Try.prog 22 #[wd k, wd b] w fun e w' => e = .returned (wd (extv k b % M)) ∧ Below w.heap.size w w' := by
  have hsm := small_lo k (by omega)
  have hst := vx_start k b hk
  have hEl := extv_lt k b hk hb
  have hEh : ∀ j, 8 * k + 8 ≤ j → j < 256 → extv k b / 2 ^ j % 2 = 0 := fun j h1 h2 => by
    have h := extv_hi k b j hk h1 h2
    rw [tb_num, tb_num, htop] at h
    have c : extv k b / 2 ^ j % 2 = 0 ∨ extv k b / 2 ^ j % 2 = 1 := by omega
    rcases c with c | c <;> rw [c] at h <;> simp at h <;> exact c
  have hbt : ∀ w : World, Calls Try.prog 51 #[.agg (dl b).toArray, .int .i64 (8 * (k : Int) + 7)] w fun e w' => e = .returned (.int .u64 0) ∧ Below w.heap.size w w' := fun w => by
    have h := lbitL b (8 * k + 7) (by omega) w
    rw [htop, show ((8 * k + 7 : Nat) : Int) = 8 * (k : Int) + 7 by omega] at h
    exact h
  generalize extv k b = E at hst hEl hEh ⊢
  have i1 : IntKind.i64.wrap (8 * (k : Int)) = 8 * (k : Int) := by rw [IntKind.wrap_i64]; omega
  have i2 : IntKind.i64.wrap (8 * (k : Int) + 7) = 8 * (k : Int) + 7 := by rw [IntKind.wrap_i64]; omega
  have i3 : IntKind.i64.wrap (8 * (k : Int) + 8) = 8 * (k : Int) + 8 := by rw [IntKind.wrap_i64]; omega
  have i4 : ¬ (31 : Int) ≤ k := by omega
  have hS := s3_start w k b
  go_enter Try.func22, Try.ntmps22
  go_upto_region 1 with fail
  generalize ((w.alloc (.cells #[.int .u64 (lim k 0), .int .u64 (lim k 1), .int .u64 (lim k 2), .int .u64 (lim k 3)] 24)).alloc (.cells #[.int .u64 (lim b 0), .int .u64 (lim b 1), .int .u64 (lim b 2), .int .u64 (lim b 3)] 24)).alloc (.cells #[.int .u64 0, .int .u64 0, .int .u64 0, .int .u64 0] 24) = W0 at hS ⊢
  obtain ⟨hB, h1, h2, ⟨m, C⟩, hz⟩ := id hS
  obtain ⟨k0, k1, k2, k3⟩ := h1
  go_wp2_with fail
  clear k0 k1 k2 k3 hB C hz h2
  refine (hsm _).mono ?_
  rintro e w1 ⟨rfl, hbn⟩
  replace hS := hS.keep hbn
  clear hbn hsm
  obtain ⟨hB, h1, h2, ⟨m, C⟩, hz⟩ := id hS
  obtain ⟨k0, k1, k2, k3⟩ := h2
  go_wp2_with fail
  clear k0 k1 k2 k3 hB C hz h1
  refine (spreadL b hb _).mono ?_
  rintro e w2 ⟨rfl, hbn⟩
  replace hS := hS.keep hbn
  clear hbn
  have hLb := ll_dl b
  have hlen := hLb.len
  have hsc := sc34 w2 hLb
  go_upto_region 5 with fail
  have hbn : Below w2.heap.size w2 (w2.alloc (.cells (dl b).toArray 34)) := (Below.refl _ _).alloc (Nat.le_refl _) _
  obtain ⟨hB, h1, h2, ⟨m, C⟩, hz⟩ := hS
  have P : XF w (w2.alloc (.cells (dl b).toArray 34)) w2.heap.size b := ⟨hB.trans (hbn.mono hB.size), ⟨m, C.below hbn hz⟩, lh_new w2 hLb, hz⟩
  clear hbn hB h1 h2 C hz hsc hlen
  generalize w2.alloc (.cells (dl b).toArray 34) = W2 at P ⊢
  generalize w2.heap.size = B6 at P ⊢
  refine wp_region_list ?_
  refine ld34 P.2.2.1 hLb rfl rfl rfl ?_
  go_wp2_with fail
  refine (hbt _).mono ?_
  rintro e w3 ⟨rfl, hbn⟩
  replace P := P.keep hbn
  clear hbn hbt
  go_wp2
  go_loopw [8] (fun i wr => ∃ n : Nat, i = .int .i64 n ∧ 8 * k + 8 ≤ n ∧ n ≤ 256 ∧ XF w wr B6 (vx E b n)) (fun i _ => 256 - (intOf i).toNat)
  case atStart => exact ⟨8 * k + 8, by rw [show ((8 * k + 8 : Nat) : Int) = 8 * (k : Int) + 8 by omega], by omega, by omega, by rw [hst]; exact P⟩
  case round =>
    clear P
    obtain ⟨i, rfl, hi0, hi, P⟩ := hrel
    by_cases hlt : i < 256
    · have hlt' : (i : Int) < 256 := by omega
      have ht := hEh i hi0 hlt
      have hbit := lbitL (vx E b i) i (by omega)
      rw [vx_div] at hbit
      have hc : b / 2 ^ i % 2 = 0 ∨ b / 2 ^ i % 2 = 1 := by omega
      go_upto_region 9 with fail
      refine wp_region_list ?_
      refine ld34 P.2.2.1 (ll_dl _) rfl rfl rfl ?_
      go_wp2_with fail
      clear i1 i2 i3 i4
      rcases hc with hbb | hbb
      · rw [hbb] at hbit
        have hu : vx E b (i + 1) = vx E b i := by have := vx_next E b i; rw [ht, hbb] at this; omega
        refine (hbit _).mono ?_
        rintro e w4 ⟨rfl, hbn⟩
        replace P := P.keep hbn
        clear hbn
        go_wp2
        go_roundw
        case rel => exact ⟨i + 1, by go_num, by omega, by omega, by rw [hu]; exact P⟩
        case measure => simp [intOf]; omega
      · rw [hbb] at hbit
        have hd : dig (vx E b (i + 1)) (i / 32) = dig (vx E b i) (i / 32) - 2 ^ (i % 32) := by
          have h1 := dig_turn (vx E b i) (vx E b (i + 1)) i (by have := vx_next E b i; rw [ht, hbb] at this; omega) (by
            have h2 := vx_tb E b (i + 1) i
            rw [if_pos (by omega), tb_num, tb_num, ht] at h2
            have h3 : vx E b (i + 1) / 2 ^ i % 2 = 0 ∨ vx E b (i + 1) / 2 ^ i % 2 = 1 := by omega
            rcases h3 with h3 | h3
            · exact h3
            · rw [h3] at h2; simp at h2)
          omega
        have hset := dl_turn (vx E b (i + 1)) (vx E b i) i (vx_same E b i) (by omega)
        have x0 := dig_nn (vx E b i) (i / 32)
        have x1 := dig_lt (vx E b i) (i / 32)
        have y0 := dig_nn (vx E b (i + 1)) (i / 32)
        have y1 := dig_lt (vx E b (i + 1)) (i / 32)
        have hcell := dl_get (vx E b i) (i / 32) (by omega)
        have hlen := dl_len (vx E b i)
        have hpw := pow64_lt (i % 32) (by omega)
        generalize dig (vx E b i) (i / 32) = x at hd x0 x1 hcell
        generalize dig (vx E b (i + 1)) (i / 32) = y at hd y0 y1 hset
        have s1 : IntKind.u64.wrap (18446744073709551615 * 2 ^ (i % 32)) = 18446744073709551616 - 2 ^ (i % 32) := by
          rw [IntKind.wrap_u64, show (18446744073709551615 : Int) * 2 ^ (i % 32) = (18446744073709551616 - 2 ^ (i % 32)) + 18446744073709551616 * (2 ^ (i % 32) - 1) by omega, Int.add_mul_emod_self_left]
          exact Int.emod_eq_of_lt (by omega) (by omega)
        have s2 : IntKind.u64.wrap (x + (18446744073709551616 - 2 ^ (i % 32))) = y := by
          rw [IntKind.wrap_u64, hd, show x + (18446744073709551616 - 2 ^ (i % 32)) = x - 2 ^ (i % 32) + 18446744073709551616 * 1 by omega, Int.add_mul_emod_self_left]
          exact Int.emod_eq_of_lt (by omega) (by omega)
        refine (hbit _).mono ?_
        rintro e w4 ⟨rfl, hbn⟩
        replace P := P.keep hbn
        clear hbn hd x0 x1 y0 y1 hpw
        have c0 := P.2.2.1.cell hcell
        have f0 := P.2.2.1.fz (k := i / 32) (by omega)
        have r0 : IntKind.u64.wrap 2 = 2 := by decide
        have r1 : IntKind.u64.wrap 1 = 1 := by decide
        have r2 : IntKind.u64.wrap 0 = 0 := by decide
        have r3 : IntKind.u64.wrap (-1) = 18446744073709551615 := by decide
        have q1 : ((i : Int) % 32).toNat = i % 32 := by omega
        have q2 : 0 ≤ (i : Int) / 32 := by omega
        have q3 : (i : Int) / 32 < 16 := by omega
        have q4 : ((i : Int) / 32).toNat = i / 32 := by omega
        have q5 : 0 ≤ (i : Int) % 32 := by omega
        go_wp2
        go_region
        go_wp2
        clear c0 f0
        go_roundw
        case rel =>
          obtain ⟨hB, ⟨m, C⟩, L, hz⟩ := P
          refine ⟨i + 1, by go_num, by omega, by omega, (hB.setCell (p := ⟨B6, i / 32, none⟩) (show w.heap.size ≤ B6 by omega) _).drew, ⟨m, Cells4.below (B := w.heap.size + 1 + 1 + 1) (cells_other_at C (by omega) (i / 32) (.int .u64 y)) (Below.refl _ _).drew (by omega)⟩, ?_, hz⟩
          rw [← hset]
          exact (L.setAt hlen (by omega) _).drew
        case measure => simp [intOf]; omega
    · have hi6 : i = 256 := by omega
      subst hi6
      rw [vx_end E b hEl hb] at P
      go_upto_region 11 with fail
      refine wp_region_list ?_
      refine ld34 P.2.2.1 (ll_dl _) rfl rfl rfl ?_
      go_wp2_with fail
      refine (wordL E _).mono ?_
      rintro e w4 ⟨rfl, hbn⟩
      replace P := P.keep hbn
      clear hbn
      obtain ⟨hB, ⟨m, C⟩, L, hz⟩ := P
      obtain ⟨y0, y1, y2, y3, y4, y5, y6, y7⟩ := C
      go_wp2
      simp [bodyPost, results, Try.results22, go_sem, y0, y1, y2, y3]
      exact set4_below (b := w.heap.size + 1 + 1) hB (by omega) _

set_option maxHeartbeats 4000000 in
theorem rext_1 (k b : Nat) (hk : k < 31) (hb : b < M) (htop : b / 2 ^ (8 * k + 7) % 2 = 1) (w : World) :
    Calls Try.prog 22 #[wd k, wd b] w fun e w' => e = .returned (wd (extv k b % M)) ∧ Below w.heap.size w w' := by
  have hsm := small_lo k (by omega)
  have hst := vx_start k b hk
  have hEl := extv_lt k b hk hb
  have hEh : ∀ j, 8 * k + 8 ≤ j → j < 256 → extv k b / 2 ^ j % 2 = 1 := fun j h1 h2 => by
    have h := extv_hi k b j hk h1 h2
    rw [tb_num, tb_num, htop] at h
    have c : extv k b / 2 ^ j % 2 = 0 ∨ extv k b / 2 ^ j % 2 = 1 := by omega
    rcases c with c | c <;> rw [c] at h <;> simp at h <;> exact c
  have hbt : ∀ w : World, Calls Try.prog 51 #[.agg (dl b).toArray, .int .i64 (8 * (k : Int) + 7)] w fun e w' => e = .returned (.int .u64 1) ∧ Below w.heap.size w w' := fun w => by
    have h := lbitL b (8 * k + 7) (by omega) w
    rw [htop, show ((8 * k + 7 : Nat) : Int) = 8 * (k : Int) + 7 by omega] at h
    exact h
  generalize extv k b = E at hst hEl hEh ⊢
  have i1 : IntKind.i64.wrap (8 * (k : Int)) = 8 * (k : Int) := by rw [IntKind.wrap_i64]; omega
  have i2 : IntKind.i64.wrap (8 * (k : Int) + 7) = 8 * (k : Int) + 7 := by rw [IntKind.wrap_i64]; omega
  have i3 : IntKind.i64.wrap (8 * (k : Int) + 8) = 8 * (k : Int) + 8 := by rw [IntKind.wrap_i64]; omega
  have i4 : ¬ (31 : Int) ≤ k := by omega
  have hS := s3_start w k b
  go_enter Try.func22, Try.ntmps22
  go_upto_region 1 with fail
  generalize ((w.alloc (.cells #[.int .u64 (lim k 0), .int .u64 (lim k 1), .int .u64 (lim k 2), .int .u64 (lim k 3)] 24)).alloc (.cells #[.int .u64 (lim b 0), .int .u64 (lim b 1), .int .u64 (lim b 2), .int .u64 (lim b 3)] 24)).alloc (.cells #[.int .u64 0, .int .u64 0, .int .u64 0, .int .u64 0] 24) = W0 at hS ⊢
  obtain ⟨hB, h1, h2, ⟨m, C⟩, hz⟩ := id hS
  obtain ⟨k0, k1, k2, k3⟩ := h1
  go_wp2_with fail
  clear k0 k1 k2 k3 hB C hz h2
  refine (hsm _).mono ?_
  rintro e w1 ⟨rfl, hbn⟩
  replace hS := hS.keep hbn
  clear hbn hsm
  obtain ⟨hB, h1, h2, ⟨m, C⟩, hz⟩ := id hS
  obtain ⟨k0, k1, k2, k3⟩ := h2
  go_wp2_with fail
  clear k0 k1 k2 k3 hB C hz h1
  refine (spreadL b hb _).mono ?_
  rintro e w2 ⟨rfl, hbn⟩
  replace hS := hS.keep hbn
  clear hbn
  have hLb := ll_dl b
  have hlen := hLb.len
  have hsc := sc34 w2 hLb
  go_upto_region 5 with fail
  have hbn : Below w2.heap.size w2 (w2.alloc (.cells (dl b).toArray 34)) := (Below.refl _ _).alloc (Nat.le_refl _) _
  obtain ⟨hB, h1, h2, ⟨m, C⟩, hz⟩ := hS
  have P : XF w (w2.alloc (.cells (dl b).toArray 34)) w2.heap.size b := ⟨hB.trans (hbn.mono hB.size), ⟨m, C.below hbn hz⟩, lh_new w2 hLb, hz⟩
  clear hbn hB h1 h2 C hz hsc hlen
  generalize w2.alloc (.cells (dl b).toArray 34) = W2 at P ⊢
  generalize w2.heap.size = B6 at P ⊢
  refine wp_region_list ?_
  refine ld34 P.2.2.1 hLb rfl rfl rfl ?_
  go_wp2_with fail
  refine (hbt _).mono ?_
  rintro e w3 ⟨rfl, hbn⟩
  replace P := P.keep hbn
  clear hbn hbt
  go_wp2
  go_loopw [8] (fun i wr => ∃ n : Nat, i = .int .i64 n ∧ 8 * k + 8 ≤ n ∧ n ≤ 256 ∧ XF w wr B6 (vx E b n)) (fun i _ => 256 - (intOf i).toNat)
  case atStart => exact ⟨8 * k + 8, by rw [show ((8 * k + 8 : Nat) : Int) = 8 * (k : Int) + 8 by omega], by omega, by omega, by rw [hst]; exact P⟩
  case round =>
    clear P
    obtain ⟨i, rfl, hi0, hi, P⟩ := hrel
    by_cases hlt : i < 256
    · have hlt' : (i : Int) < 256 := by omega
      have ht := hEh i hi0 hlt
      have hbit := lbitL (vx E b i) i (by omega)
      rw [vx_div] at hbit
      have hc : b / 2 ^ i % 2 = 0 ∨ b / 2 ^ i % 2 = 1 := by omega
      go_upto_region 9 with fail
      refine wp_region_list ?_
      refine ld34 P.2.2.1 (ll_dl _) rfl rfl rfl ?_
      go_wp2_with fail
      clear i1 i2 i3 i4
      rcases hc with hbb | hbb
      · rw [hbb] at hbit
        have hd : dig (vx E b (i + 1)) (i / 32) = dig (vx E b i) (i / 32) + 2 ^ (i % 32) := dig_turn _ _ i (by have := vx_next E b i; rw [ht, hbb] at this; omega) (by rw [vx_div]; exact hbb)
        have hset := dl_turn (vx E b (i + 1)) (vx E b i) i (vx_same E b i) (by omega)
        have x0 := dig_nn (vx E b i) (i / 32)
        have x1 := dig_lt (vx E b i) (i / 32)
        have y0 := dig_nn (vx E b (i + 1)) (i / 32)
        have y1 := dig_lt (vx E b (i + 1)) (i / 32)
        have hcell := dl_get (vx E b i) (i / 32) (by omega)
        have hlen := dl_len (vx E b i)
        have hpw := pow64_lt (i % 32) (by omega)
        generalize dig (vx E b i) (i / 32) = x at hd x0 x1 hcell
        generalize dig (vx E b (i + 1)) (i / 32) = y at hd y0 y1 hset
        have s1 : IntKind.u64.wrap (2 ^ (i % 32)) = 2 ^ (i % 32) := uw _ (by omega) (by omega)
        have s2 : IntKind.u64.wrap (x + 2 ^ (i % 32)) = y := by rw [hd]; exact uw _ (by omega) (by omega)
        refine (hbit _).mono ?_
        rintro e w4 ⟨rfl, hbn⟩
        replace P := P.keep hbn
        clear hbn hd x0 x1 y0 y1 hpw
        have c0 := P.2.2.1.cell hcell
        have f0 := P.2.2.1.fz (k := i / 32) (by omega)
        have r0 : IntKind.u64.wrap 2 = 2 := by decide
        have r1 : IntKind.u64.wrap 1 = 1 := by decide
        have r2 : IntKind.u64.wrap 0 = 0 := by decide
        have r3 : IntKind.u64.wrap (-1) = 18446744073709551615 := by decide
        have q1 : ((i : Int) % 32).toNat = i % 32 := by omega
        have q2 : 0 ≤ (i : Int) / 32 := by omega
        have q3 : (i : Int) / 32 < 16 := by omega
        have q4 : ((i : Int) / 32).toNat = i / 32 := by omega
        have q5 : 0 ≤ (i : Int) % 32 := by omega
        go_wp2
        go_region
        go_wp2
        clear c0 f0
        go_roundw
        case rel =>
          obtain ⟨hB, ⟨m, C⟩, L, hz⟩ := P
          refine ⟨i + 1, by go_num, by omega, by omega, (hB.setCell (p := ⟨B6, i / 32, none⟩) (show w.heap.size ≤ B6 by omega) _).drew, ⟨m, Cells4.below (B := w.heap.size + 1 + 1 + 1) (cells_other_at C (by omega) (i / 32) (.int .u64 y)) (Below.refl _ _).drew (by omega)⟩, ?_, hz⟩
          rw [← hset]
          exact (L.setAt hlen (by omega) _).drew
        case measure => simp [intOf]; omega
      · rw [hbb] at hbit
        have hu : vx E b (i + 1) = vx E b i := by have := vx_next E b i; rw [ht, hbb] at this; omega
        refine (hbit _).mono ?_
        rintro e w4 ⟨rfl, hbn⟩
        replace P := P.keep hbn
        clear hbn
        go_wp2
        go_roundw
        case rel => exact ⟨i + 1, by go_num, by omega, by omega, by rw [hu]; exact P⟩
        case measure => simp [intOf]; omega
    · have hi6 : i = 256 := by omega
      subst hi6
      rw [vx_end E b hEl hb] at P
      go_upto_region 11 with fail
      refine wp_region_list ?_
      refine ld34 P.2.2.1 (ll_dl _) rfl rfl rfl ?_
      go_wp2_with fail
      refine (wordL E _).mono ?_
      rintro e w4 ⟨rfl, hbn⟩
      replace P := P.keep hbn
      clear hbn
      obtain ⟨hB, ⟨m, C⟩, L, hz⟩ := P
      obtain ⟨y0, y1, y2, y3, y4, y5, y6, y7⟩ := C
      go_wp2
      simp [bodyPost, results, Try.results22, go_sem, y0, y1, y2, y3]
      exact set4_below (b := w.heap.size + 1 + 1) hB (by omega) _

set_option maxHeartbeats 1000000 in
theorem rext_b (a b n : Nat) (hn : 31 ≤ n) (w : World) (hsm : ∀ w : World, Calls Try.prog 25 #[wd a] w fun e w' => e = .returned (.int .i64 n) ∧ Below w.heap.size w w') :
    Calls Try.prog 22 #[wd a, wd b] w fun e w' => e = .returned (wd b) ∧ Below w.heap.size w w' := by
  have i4 : (31 : Int) ≤ n := by omega
  have hS := s3_start w a b
  go_enter Try.func22, Try.ntmps22
  go_upto_region 1 with fail
  generalize ((w.alloc (.cells #[.int .u64 (lim a 0), .int .u64 (lim a 1), .int .u64 (lim a 2), .int .u64 (lim a 3)] 24)).alloc (.cells #[.int .u64 (lim b 0), .int .u64 (lim b 1), .int .u64 (lim b 2), .int .u64 (lim b 3)] 24)).alloc (.cells #[.int .u64 0, .int .u64 0, .int .u64 0, .int .u64 0] 24) = W0 at hS ⊢
  obtain ⟨hB, h1, h2, ⟨m, C⟩, hz⟩ := id hS
  obtain ⟨k0, k1, k2, k3⟩ := h1
  go_wp2_with fail
  clear k0 k1 k2 k3 hB C hz h2
  refine (hsm _).mono ?_
  rintro e w1 ⟨rfl, hbn⟩
  replace hS := hS.keep hbn
  clear hbn hsm
  obtain ⟨hB, h1, h2, ⟨m, C⟩, hz⟩ := hS
  obtain ⟨k0, k1, k2, k3⟩ := h2
  obtain ⟨y0, y1, y2, y3, y4, y5, y6, y7⟩ := C
  go_wp2
  simp [bodyPost, results, Try.results22, go_sem, y0, y1, y2, y3]
  exact set4_below (b := w.heap.size + 1 + 1) hB (by omega) _
theorem rext (a b : Nat) (ha : a < M) (hb : b < M) (w : World) : Calls Try.prog 22 #[wd a, wd b] w fun e w' => e = .returned (wd (extv a b)) ∧ Below w.heap.size w w' := by
  by_cases h : a < 31
  · have hm := Nat.mod_eq_of_lt (extv_lt a b h hb)
    have c : b / 2 ^ (8 * a + 7) % 2 = 0 ∨ b / 2 ^ (8 * a + 7) % 2 = 1 := by omega
    rcases c with c | c
    · have k := rext_0 a b h hb c w
      rw [hm] at k
      exact k
    · have k := rext_1 a b h hb c w
      rw [hm] at k
      exact k
  · have e : extv a b = b := by unfold extv; rw [if_neg h]
    rw [e]
    by_cases c : a ≤ 1099511627776
    · exact rext_b a b a (by omega) w (small_lo a c)
    · exact rext_b a b 1099511627776 (by omega) w (small_hi a ha (by omega))

end Go.Proofs.Ytbephahokhnccaa

namespace Go.Proofs.Ytbephahokhnccaa
open Go.RowKit Go.Shelf
attribute [local go_sem] wd

/-- The lowest n bytes of b, the highest first. -/
def ob (b : Nat) : Nat → List UInt8
  | 0 => []
  | n + 1 => UInt8.ofNat (b / 2 ^ (8 * n)) :: ob b n
theorem ob_len (b : Nat) : ∀ n, (ob b n).length = n
  | 0 => rfl
  | n + 1 => by show (ob b n).length + 1 = n + 1; rw [ob_len b n]
theorem ob_get (b : Nat) : ∀ n k, k < n → (ob b n)[k]? = some (UInt8.ofNat (b / 2 ^ (8 * (n - 1 - k))))
  | 0, k, h => by omega
  | n + 1, 0, h => by show some _ = some _; rw [show n + 1 - 1 - 0 = n by omega]
  | n + 1, k + 1, h => by
    show (ob b n)[k]? = _
    rw [ob_get b n k (by omega), show n + 1 - 1 - (k + 1) = n - 1 - k by omega]
theorem ob_cat (u : UInt8) (l : List UInt8) : (⟨#[u]⟩ : ByteArray) ++ ⟨l.toArray⟩ = ⟨(u :: l).toArray⟩ := by
  apply ByteArray.ext
  simp
theorem oct_val (b q r n : Nat) (hn : n = 8 * q + r) (hr : r < 8) : lim b q / 2 ^ (8 * r) % 256 = (((UInt8.ofNat (b / 2 ^ (8 * n))).toNat : Nat) : Int) := by
  have h0 := lim_nn b q; have h1 := lim_lt b q
  have hp : (0 : Int) < 2 ^ (8 * r) := Int.pow_pos (by decide)
  have h := byte_val b q r hr
  rw [and255 _ (Int.ediv_nonneg h0 (Int.le_of_lt hp)) (Int.lt_of_le_of_lt (Int.ediv_le_self _ h0) h1)] at h
  rw [h, show 64 * q + 8 * r = 8 * n by omega]
  simp
theorem conv1 (W : World) (v : Int) (u : UInt8) (h : v = ((u.toNat : Nat) : Int)) :
    (convert 50 9 (.slice (some ⟨W.heap.size, 0, none⟩) 1 1)).run Try.prog (W.alloc (.cells #[.int .u8 v] 5)) = .ok (.string ⟨#[u]⟩) (W.alloc (.cells #[.int .u8 v] 5)) := by
  refine run_convert_bytes_back (P := Try.prog) _ 50 9 5 ⟨W.heap.size, 0, none⟩ 1 [u] Try.underlying50 Try.underlying5 Try.underlying9 ?_
  intro j hj
  have hj0 : j = 0 := by simpa using hj
  subst hj0
  subst h
  simp [go_sem]

set_option maxHeartbeats 2000000 in
theorem octets (b : Nat) (w : World) :
    Calls Try.prog 26 #[wd b] w fun e w' => e = .returned (.string ⟨(ob b 32).toArray⟩) ∧ Below w.heap.size w w' := by
  change Calls Try.prog 26 #[.agg #[.int .u64 (lim b 0), .int .u64 (lim b 1), .int .u64 (lim b 2), .int .u64 (lim b 3)]] w _
  go_enter Try.func26, Try.ntmps26
  go_wp2
  go_loopw [3, 4] (fun s i wr => ∃ n : Nat, i = .int .i64 n ∧ n ≤ 32 ∧ s = .string ⟨(ob b n).toArray⟩ ∧ Eq4 wr w.heap.size b ∧ w.heap.size < wr.heap.size ∧ Below w.heap.size w wr) (fun _ i _ => 32 - (intOf i).toNat)
  case atStart => exact ⟨0, rfl, by decide, rfl, by refine ⟨?_, ?_, ?_, ?_⟩ <;> simp [go_sem], by simp, (Below.refl _ _).alloc (Nat.le_refl _) _⟩
  case round =>
    obtain ⟨n, rfl, hn, rfl, C, hz, hB⟩ := hrel
    by_cases hlt : n < 32
    · have hlt' : (n : Int) < 32 := by omega
      have hcat := ob_cat (UInt8.ofNat (b / 2 ^ (8 * n))) (ob b n)
      have hnx : ob b (n + 1) = UInt8.ofNat (b / 2 ^ (8 * n)) :: ob b n := rfl
      have hk := (Below.refl wr.heap.size wr).alloc (Nat.le_refl _)
      have c : n / 8 = 0 ∨ n / 8 = 1 ∨ n / 8 = 2 ∨ n / 8 = 3 := by omega
      rcases c with c | c | c | c
      · have q0 : (n : Int) / 8 = 0 := by omega
        have hv := oct_val b 0 (n % 8) n (by omega) (by omega)
        have hcv := conv1 wr (lim b 0 / 2 ^ (8 * (n % 8)) % 256) _ hv
        obtain ⟨k0, k1, k2, k3⟩ := id C
        clear hv
        generalize UInt8.ofNat (b / 2 ^ (8 * n)) = u at *
        have hl0 := ob_len b n
        have hn9 : n ≤ 9223372036854775806 := by omega
        generalize ob b n = l0 at *
        go_wp2
        go_roundw
        case rel =>
          exact ⟨n + 1, by go_num, by omega, by rw [hnx], Eq4.keep C (hk _) hz, Nat.lt_of_lt_of_le hz (hk _).size, hB.trans ((hk _).mono hB.size)⟩
        case measure => simp [intOf]; omega
      · have q0 : (n : Int) / 8 = 1 := by omega
        have hv := oct_val b 1 (n % 8) n (by omega) (by omega)
        have hcv := conv1 wr (lim b 1 / 2 ^ (8 * (n % 8)) % 256) _ hv
        obtain ⟨k0, k1, k2, k3⟩ := id C
        clear hv
        generalize UInt8.ofNat (b / 2 ^ (8 * n)) = u at *
        have hl0 := ob_len b n
        have hn9 : n ≤ 9223372036854775806 := by omega
        generalize ob b n = l0 at *
        go_wp2
        go_roundw
        case rel =>
          exact ⟨n + 1, by go_num, by omega, by rw [hnx], Eq4.keep C (hk _) hz, Nat.lt_of_lt_of_le hz (hk _).size, hB.trans ((hk _).mono hB.size)⟩
        case measure => simp [intOf]; omega
      · have q0 : (n : Int) / 8 = 2 := by omega
        have hv := oct_val b 2 (n % 8) n (by omega) (by omega)
        have hcv := conv1 wr (lim b 2 / 2 ^ (8 * (n % 8)) % 256) _ hv
        obtain ⟨k0, k1, k2, k3⟩ := id C
        clear hv
        generalize UInt8.ofNat (b / 2 ^ (8 * n)) = u at *
        have hl0 := ob_len b n
        have hn9 : n ≤ 9223372036854775806 := by omega
        generalize ob b n = l0 at *
        go_wp2
        go_roundw
        case rel =>
          exact ⟨n + 1, by go_num, by omega, by rw [hnx], Eq4.keep C (hk _) hz, Nat.lt_of_lt_of_le hz (hk _).size, hB.trans ((hk _).mono hB.size)⟩
        case measure => simp [intOf]; omega
      · have q0 : (n : Int) / 8 = 3 := by omega
        have hv := oct_val b 3 (n % 8) n (by omega) (by omega)
        have hcv := conv1 wr (lim b 3 / 2 ^ (8 * (n % 8)) % 256) _ hv
        obtain ⟨k0, k1, k2, k3⟩ := id C
        clear hv
        generalize UInt8.ofNat (b / 2 ^ (8 * n)) = u at *
        have hl0 := ob_len b n
        have hn9 : n ≤ 9223372036854775806 := by omega
        generalize ob b n = l0 at *
        go_wp2
        go_roundw
        case rel =>
          exact ⟨n + 1, by go_num, by omega, by rw [hnx], Eq4.keep C (hk _) hz, Nat.lt_of_lt_of_le hz (hk _).size, hB.trans ((hk _).mono hB.size)⟩
        case measure => simp [intOf]; omega
    · have hn2 : n = 32 := by omega
      subst hn2
      go_wp2
      go_ret
      exact ⟨rfl, hB⟩

end Go.Proofs.Ytbephahokhnccaa

