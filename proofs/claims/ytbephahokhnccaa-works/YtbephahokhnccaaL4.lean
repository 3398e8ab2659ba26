/-
  purserref.times: what it returns.
-/
import Derived.Test.YtbephahokhnccaaJ4
import Derived.Test.YtbephahokhnccaaHeld
namespace Go.Proofs.Ytbephahokhnccaa
open Go.RowKit Go.Shelf
attribute [local go_sem] wd

theorem spreadL (a : Nat) (ha : a < M) (w : World) : Calls Try.prog 19 #[wd a] w fun e w' => e = .returned (.agg (dl a).toArray) ∧ Below w.heap.size w w' := spread a ha w
/-- A number laid into a new block. -/
theorem sc34 (w : World) {l : List Value} (hl : LL l) : (storeCells ⟨w.heap.size, 0, none⟩ l 0).run Try.prog (w.alloc (.cells #[.int .u64 0, .int .u64 0, .int .u64 0, .int .u64 0, .int .u64 0, .int .u64 0, .int .u64 0, .int .u64 0, .int .u64 0, .int .u64 0, .int .u64 0, .int .u64 0, .int .u64 0, .int .u64 0, .int .u64 0, .int .u64 0] 34)) = .ok () (w.alloc (.cells l.toArray 34)) := by
  simpa using run_storeCells_new (P := Try.prog) w 34 #[.int .u64 0, .int .u64 0, .int .u64 0, .int .u64 0, .int .u64 0, .int .u64 0, .int .u64 0, .int .u64 0, .int .u64 0, .int .u64 0, .int .u64 0, .int .u64 0, .int .u64 0, .int .u64 0, .int .u64 0, .int .u64 0] l.toArray (by simpa [hl.len] using i34) (by simp [hl.len]) hl.one

/-- What is carried into digit k of U + x * b. -/
def cyT (U x b k : Nat) : Nat := (U % 4294967296 ^ k + x * (b % 4294967296 ^ k)) / 4294967296 ^ k
theorem cyT_0 (U x b : Nat) : cyT U x b 0 = 0 := by unfold cyT; simp [Nat.mod_one]
theorem cyT_lt (U x b k : Nat) (hx : x < 4294967296) : cyT U x b k < 4294967296 := by
  unfold cyT
  have hp := pow_pos' k
  have h1 := Nat.mod_lt U hp; have h2 := Nat.mod_lt b hp
  refine Nat.div_lt_of_lt_mul ?_
  have h3 : x * (b % 4294967296 ^ k) ≤ 4294967295 * (4294967296 ^ k - 1) := Nat.mul_le_mul (by omega) (by omega)
  omega
theorem modlin (U x b m : Nat) : (U + x * b) % m = (U % m + x * (b % m)) % m := by
  have h1 : (x * b) % m = (x * (b % m)) % m := by rw [Nat.mul_mod, Nat.mul_mod x (b % m), Nat.mod_mod]
  rw [Nat.add_mod, h1, Nat.add_mod_mod]
theorem times_dig (U x b k : Nat) : dig U k + x * dig b k + cyT U x b k = dig (U + x * b) k + cyT U x b (k + 1) * 4294967296 := by
  have hp := pow_pos' k
  have e : (U % 4294967296 ^ (k + 1) + x * (b % 4294967296 ^ (k + 1))) / 4294967296 ^ k = U / 4294967296 ^ k % 4294967296 + x * (b / 4294967296 ^ k % 4294967296) + cyT U x b k := by
    rw [mod_next, mod_next]
    have : U % 4294967296 ^ k + 4294967296 ^ k * (U / 4294967296 ^ k % 4294967296) + x * (b % 4294967296 ^ k + 4294967296 ^ k * (b / 4294967296 ^ k % 4294967296)) = (U % 4294967296 ^ k + x * (b % 4294967296 ^ k)) + 4294967296 ^ k * (U / 4294967296 ^ k % 4294967296 + x * (b / 4294967296 ^ k % 4294967296)) := by
      rw [Nat.mul_add, Nat.mul_add, Nat.mul_left_comm x]; omega
    rw [this, Nat.add_mul_div_left _ _ hp]
    unfold cyT
    omega
  have d : cyT U x b (k + 1) = (U % 4294967296 ^ (k + 1) + x * (b % 4294967296 ^ (k + 1))) / 4294967296 ^ k / 4294967296 := by
    unfold cyT
    rw [Nat.div_div_eq_div_mul, ← Nat.pow_succ]
  have f : (U + x * b) / 4294967296 ^ k % 4294967296 = (U % 4294967296 ^ (k + 1) + x * (b % 4294967296 ^ (k + 1))) / 4294967296 ^ k % 4294967296 := by
    rw [← Nat.mod_mul_right_div_self (U + x * b), ← Nat.mod_mul_right_div_self (U % _ + x * (b % _)), ← Nat.pow_succ]
    congr 1
    exact modlin U x b _
  rw [digN, digN, digN, f, d, e]
  have c : ((x * (b / 4294967296 ^ k % 4294967296) : Nat) : Int) = (x : Int) * ((b / 4294967296 ^ k % 4294967296 : Nat) : Int) := Int.natCast_mul _ _
  rw [← c]
  omega
theorem times_step (o x y c : Int) (o0 : 0 ≤ o) (o1 : o < 4294967296) (x0 : 0 ≤ x) (x1 : x < 4294967296) (y0 : 0 ≤ y) (y1 : y < 4294967296) (c0 : 0 ≤ c) (c1 : c < 4294967296) :
    ∃ p u d : Int, IntKind.u64.wrap (x * y) = p ∧ IntKind.u64.wrap (o + p) = o + p ∧ IntKind.u64.wrap (o + p + c) = o + p + c ∧ 0 ≤ o + p + c ∧ (o + p + c) % 4294967296 = u ∧ (o + p + c).tmod 4294967296 = u ∧
      IntKind.u64.wrap ((o + p + c).tdiv 4294967296) = d ∧ u + d * 4294967296 = o + x * y + c ∧ 0 ≤ u ∧ u < 4294967296 := by
  have h0 : 0 ≤ x * y := Int.mul_nonneg x0 y0
  have h1 : x * y ≤ 4294967295 * 4294967295 := Int.mul_le_mul (by omega) (by omega) y0 (by decide)
  generalize hp : x * y = p at h0 h1
  refine ⟨p, (o + p + c) % 4294967296, (o + p + c) / 4294967296, uw _ (by omega) (by omega), uw _ (by omega) (by omega), uw _ (by omega) (by omega), by omega, rfl, Int.tmod_eq_emod_of_nonneg (by omega), ?_, by omega, by omega, by omega⟩
  rw [Int.tdiv_eq_ediv_of_nonneg (by omega)]
  exact uw _ (by omega) (by omega)

/-- The product of a's lowest i digits and b. -/
def part (a b i : Nat) : Nat := a % 4294967296 ^ i * b
theorem part_0 (a b : Nat) : part a b 0 = 0 := by unfold part; simp [Nat.mod_one]
theorem part_8 (a b : Nat) (ha : a < M) : part a b 8 = a * b := by unfold part; rw [Nat.mod_eq_of_lt (show a < 4294967296 ^ 8 from ha)]
theorem part_lt (a b i : Nat) (hb : b < M) : part a b i < 4294967296 ^ (i + 8) := by
  unfold part
  rw [Nat.pow_add]
  exact Nat.mul_lt_mul_of_lt_of_le (Nat.mod_lt _ (pow_pos' i)) (Nat.le_of_lt hb) (by decide)
/-- What stands from digit i on. -/
def upn (a b i : Nat) : Nat := part a b i / 4294967296 ^ i
theorem part_next (a b i : Nat) : part a b (i + 1) = part a b i % 4294967296 ^ i + 4294967296 ^ i * (upn a b i + a / 4294967296 ^ i % 4294967296 * b) := by
  unfold upn
  rw [Nat.mul_add, ← Nat.add_assoc, Nat.mod_add_div]
  unfold part
  rw [mod_next, Nat.add_mul, Nat.mul_assoc]
theorem dig_up (n i k : Nat) : dig n (i + k) = dig (n / 4294967296 ^ i) k := by
  rw [digN, digN, Nat.pow_add, Nat.div_div_eq_div_mul]
theorem part_lo (a b i j : Nat) (hj : j < i) : dig (part a b (i + 1)) j = dig (part a b i) j := by
  rw [part_next, digN, digN]
  have e : (4294967296 : Nat) ^ i = 4294967296 ^ j * (4294967296 ^ (i - 1 - j) * 4294967296) := by
    rw [← Nat.pow_succ, ← Nat.pow_add, show j + (i - 1 - j + 1) = i by omega]
  have h : (part a b i % 4294967296 ^ i + 4294967296 ^ i * (upn a b i + a / 4294967296 ^ i % 4294967296 * b)) % 4294967296 ^ i = part a b i % 4294967296 ^ i := by
    rw [Nat.add_mul_mod_self_left, Nat.mod_mod]
  rw [← Nat.mod_mul_right_div_self (part a b i % 4294967296 ^ i + 4294967296 ^ i * (upn a b i + a / 4294967296 ^ i % 4294967296 * b)), ← Nat.mod_mul_right_div_self (part a b i)]
  have hd : 4294967296 ^ j * 4294967296 ∣ (4294967296 : Nat) ^ i := ⟨4294967296 ^ (i - 1 - j), by rw [e]; ac_rfl⟩
  rw [← Nat.mod_mod_of_dvd _ hd, h, Nat.mod_mod_of_dvd _ hd]
theorem part_up (a b i k : Nat) : dig (part a b (i + 1)) (i + k) = dig (upn a b i + a / 4294967296 ^ i % 4294967296 * b) k := by
  rw [dig_up, part_next, Nat.add_mul_div_left _ _ (pow_pos' i), Nat.div_eq_of_lt (Nat.mod_lt _ (pow_pos' i)), Nat.zero_add]
theorem part_old (a b i k : Nat) : dig (part a b i) (i + k) = dig (upn a b i) k := by rw [dig_up]; rfl

theorem mix_same (s a k : Nat) (h : ∀ i, i < k → dig s i = dig a i) : mix s a k = dl a := by
  unfold mix
  apply List.ext_getElem?
  intro j
  by_cases hj : j < 16
  · by_cases hk : j < k
    · rw [List.getElem?_append_left (by simp [dl_len]; omega), List.getElem?_take_of_lt hk, dl_get s j hj, dl_get a j hj, h j hk]
    · rw [List.getElem?_append_right (by simp [dl_len]; omega)]
      simp only [List.length_take, dl_len, List.getElem?_drop]
      congr 1
      omega
  · rw [List.getElem?_eq_none (by simp [dl_len]; omega), List.getElem?_eq_none (by rw [dl_len]; omega)]
theorem mix_all (s a k : Nat) (hk : k ≤ 16) (h : ∀ i, k ≤ i → i < 16 → dig s i = dig a i) : mix s a k = dl s := by
  unfold mix
  apply List.ext_getElem?
  intro j
  by_cases hj : j < 16
  · by_cases hk' : j < k
    · rw [List.getElem?_append_left (by simp [dl_len]; omega), List.getElem?_take_of_lt hk']
    · rw [List.getElem?_append_right (by simp [dl_len]; omega)]
      simp only [List.length_take, dl_len, List.getElem?_drop]
      rw [show k + (j - min k 16) = j by omega, dl_get s j hj, dl_get a j hj, h j (by omega) hj]
  · rw [List.getElem?_eq_none (by simp [dl_len]; omega), List.getElem?_eq_none (by rw [dl_len]; omega)]
theorem part_hi (a b i k : Nat) (hb : b < M) (hk : i + 8 ≤ k) : dig (part a b i) k = 0 := by
  rw [digN, Nat.div_eq_of_lt (Nat.lt_of_lt_of_le (part_lt a b i hb) (Nat.pow_le_pow_right (by decide) hk))]
  rfl
theorem cyT_8 (U x b : Nat) (hU : U < M) (hb : b < M) (hx : x < 4294967296) : (cyT U x b 8 : Int) = dig (U + x * b) 8 := by
  have h := cyT_lt U x b 8 hx
  rw [digN]
  unfold cyT at *
  rw [Nat.mod_eq_of_lt (show U < 4294967296 ^ 8 from hU), Nat.mod_eq_of_lt (show b < 4294967296 ^ 8 from hb)] at *
  rw [Nat.mod_eq_of_lt h]
theorem upn_lt (a b i : Nat) (hb : b < M) : upn a b i < M := by
  unfold upn
  refine Nat.div_lt_of_lt_mul ?_
  have h := part_lt a b i hb
  rw [Nat.pow_add] at h
  exact h

set_option maxHeartbeats 4000000 in
theorem times (a b : Nat) (ha : a < M) (hb : b < M) (w : World) :
    Calls Try.prog 15 #[wd a, wd b] w fun e w' => e = .returned (.agg (dl (a * b)).toArray) ∧ Below w.heap.size w w' := by
  have hsa := spreadL a ha
  have hsb := spreadL b hb
  have hLa := ll_dl a
  have hLb := ll_dl b
  have ga := fun k hk => dl_get a k hk
  have gb := fun k hk => dl_get b k hk
  generalize dl a = la at hsa hLa ga
  generalize dl b = lb at hsb hLb gb
  go_enter Try.func15, Try.ntmps15
  go_wp2_with fail
  have Lr : LH (((w.alloc (.cells #[.int .u64 (lim a 0), .int .u64 (lim a 1), .int .u64 (lim a 2), .int .u64 (lim a 3)] 24)).alloc (.cells #[.int .u64 (lim b 0), .int .u64 (lim b 1), .int .u64 (lim b 2), .int .u64 (lim b 3)] 24)).alloc (.cells #[.int .u64 0, .int .u64 0, .int .u64 0, .int .u64 0, .int .u64 0, .int .u64 0, .int .u64 0, .int .u64 0, .int .u64 0, .int .u64 0, .int .u64 0, .int .u64 0, .int .u64 0, .int .u64 0, .int .u64 0, .int .u64 0] 34)) (w.heap.size + 1 + 1) (dl 0) := by
    have h := lh_new0 ((w.alloc (.cells #[.int .u64 (lim a 0), .int .u64 (lim a 1), .int .u64 (lim a 2), .int .u64 (lim a 3)] 24)).alloc (.cells #[.int .u64 (lim b 0), .int .u64 (lim b 1), .int .u64 (lim b 2), .int .u64 (lim b 3)] 24))
    rw [show ((w.alloc (.cells #[.int .u64 (lim a 0), .int .u64 (lim a 1), .int .u64 (lim a 2), .int .u64 (lim a 3)] 24)).alloc (.cells #[.int .u64 (lim b 0), .int .u64 (lim b 1), .int .u64 (lim b 2), .int .u64 (lim b 3)] 24)).heap.size = w.heap.size + 1 + 1 by simp] at h
    exact h
  have Cb : Eq4 (((w.alloc (.cells #[.int .u64 (lim a 0), .int .u64 (lim a 1), .int .u64 (lim a 2), .int .u64 (lim a 3)] 24)).alloc (.cells #[.int .u64 (lim b 0), .int .u64 (lim b 1), .int .u64 (lim b 2), .int .u64 (lim b 3)] 24)).alloc (.cells #[.int .u64 0, .int .u64 0, .int .u64 0, .int .u64 0, .int .u64 0, .int .u64 0, .int .u64 0, .int .u64 0, .int .u64 0, .int .u64 0, .int .u64 0, .int .u64 0, .int .u64 0, .int .u64 0, .int .u64 0, .int .u64 0] 34)) (w.heap.size + 1) b := by refine ⟨?_, ?_, ?_, ?_⟩ <;> simp [go_sem]
  have hB : Below w.heap.size w (((w.alloc (.cells #[.int .u64 (lim a 0), .int .u64 (lim a 1), .int .u64 (lim a 2), .int .u64 (lim a 3)] 24)).alloc (.cells #[.int .u64 (lim b 0), .int .u64 (lim b 1), .int .u64 (lim b 2), .int .u64 (lim b 3)] 24)).alloc (.cells #[.int .u64 0, .int .u64 0, .int .u64 0, .int .u64 0, .int .u64 0, .int .u64 0, .int .u64 0, .int .u64 0, .int .u64 0, .int .u64 0, .int .u64 0, .int .u64 0, .int .u64 0, .int .u64 0, .int .u64 0, .int .u64 0] 34)) := below3 w _ _ _
  have hz := Lr.z
  generalize ((w.alloc (.cells #[.int .u64 (lim a 0), .int .u64 (lim a 1), .int .u64 (lim a 2), .int .u64 (lim a 3)] 24)).alloc (.cells #[.int .u64 (lim b 0), .int .u64 (lim b 1), .int .u64 (lim b 2), .int .u64 (lim b 3)] 24)).alloc (.cells #[.int .u64 0, .int .u64 0, .int .u64 0, .int .u64 0, .int .u64 0, .int .u64 0, .int .u64 0, .int .u64 0, .int .u64 0, .int .u64 0, .int .u64 0, .int .u64 0, .int .u64 0, .int .u64 0, .int .u64 0, .int .u64 0] 34) = W0 at Lr Cb hB hz ⊢
  refine (hsa _).mono ?_
  rintro e w1 ⟨rfl, hb1⟩
  replace Lr := Lr.below hb1
  replace Cb := Eq4.keep Cb hb1 (by omega)
  replace hB := hB.trans (hb1.mono hB.size)
  clear hsa hb1 hz
  have hlen := hLa.len
  have hsc := sc34 w1 hLa
  go_upto_region 2 with fail
  have hz := Lr.z
  have La := lh_new w1 hLa
  replace Lr := Lr.alloc (.cells la.toArray 34)
  replace Cb := Eq4.keep Cb ((Below.refl _ _).alloc (Nat.le_refl _) (.cells la.toArray 34)) (by omega)
  replace hB := hB.alloc hB.size (.cells la.toArray 34)
  clear hsc hlen
  generalize w1.alloc (.cells la.toArray 34) = W1 at La Lr Cb hB ⊢
  obtain ⟨k0, k1, k2, k3⟩ := Cb
  go_wp2_with fail
  clear k0 k1 k2 k3
  refine (hsb _).mono ?_
  rintro e w2 ⟨rfl, hb1⟩
  replace Lr := Lr.below hb1
  replace La := La.below hb1
  replace hB := hB.trans (hb1.mono hB.size)
  clear hsb hb1
  have hlen := hLb.len
  have hsc := sc34 w2 hLb
  go_upto_region 3 with fail
  have hz1 := La.z
  have Lb := lh_new w2 hLb
  replace Lr := Lr.alloc (.cells lb.toArray 34)
  replace La := La.alloc (.cells lb.toArray 34)
  replace hB := hB.alloc hB.size (.cells lb.toArray 34)
  clear hsc hlen
  generalize w2.alloc (.cells lb.toArray 34) = W2 at La Lb Lr hB ⊢
  have hz2 := Lb.z
  go_wp2
  have Lo := lh_new0 W2
  replace Lr := Lr.alloc (.cells #[.int .u64 0, .int .u64 0, .int .u64 0, .int .u64 0, .int .u64 0, .int .u64 0, .int .u64 0, .int .u64 0, .int .u64 0, .int .u64 0, .int .u64 0, .int .u64 0, .int .u64 0, .int .u64 0, .int .u64 0, .int .u64 0] 34)
  replace La := La.alloc (.cells #[.int .u64 0, .int .u64 0, .int .u64 0, .int .u64 0, .int .u64 0, .int .u64 0, .int .u64 0, .int .u64 0, .int .u64 0, .int .u64 0, .int .u64 0, .int .u64 0, .int .u64 0, .int .u64 0, .int .u64 0, .int .u64 0] 34)
  replace Lb := Lb.alloc (.cells #[.int .u64 0, .int .u64 0, .int .u64 0, .int .u64 0, .int .u64 0, .int .u64 0, .int .u64 0, .int .u64 0, .int .u64 0, .int .u64 0, .int .u64 0, .int .u64 0, .int .u64 0, .int .u64 0, .int .u64 0, .int .u64 0] 34)
  replace hB := hB.alloc hB.size (.cells #[.int .u64 0, .int .u64 0, .int .u64 0, .int .u64 0, .int .u64 0, .int .u64 0, .int .u64 0, .int .u64 0, .int .u64 0, .int .u64 0, .int .u64 0, .int .u64 0, .int .u64 0, .int .u64 0, .int .u64 0, .int .u64 0] 34)
  generalize hW3 : W2.alloc (.cells #[.int .u64 0, .int .u64 0, .int .u64 0, .int .u64 0, .int .u64 0, .int .u64 0, .int .u64 0, .int .u64 0, .int .u64 0, .int .u64 0, .int .u64 0, .int .u64 0, .int .u64 0, .int .u64 0, .int .u64 0, .int .u64 0] 34) = W3 at La Lb Lr Lo hB ⊢
  clear hW3
  go_loopw [8] (fun i wr => ∃ j : Nat, i = .int .i64 j ∧ j ≤ 8 ∧ LH wr w1.heap.size la ∧ LH wr w2.heap.size lb ∧ LH wr W2.heap.size (dl (part a b j)) ∧ LH wr (w.heap.size + 1 + 1) (dl 0) ∧ Below w.heap.size w wr) (fun i _ => 8 - (intOf i).toNat)
  case atStart => exact ⟨0, rfl, by decide, La, Lb, by rw [part_0]; exact Lo, Lr, hB⟩
  case round =>
    clear La Lb Lo Lr hB
    obtain ⟨j, rfl, hj, La, Lb, Lo, Lr, hB⟩ := hrel
    by_cases hlt : j < 8
    · have hlt' : (j : Int) < 8 := by omega
      have hj16 : j < 16 := by omega
      have xa : dig a j = ((a / 4294967296 ^ j % 4294967296 : Nat) : Int) := rfl
      have xl := dig_lt a j
      have ca := ga j hj16
      rw [xa] at ca xl
      have hx : a / 4294967296 ^ j % 4294967296 < 4294967296 := by omega
      have pu := part_up a b j
      clear xa xl
      generalize a / 4294967296 ^ j % 4294967296 = x at ca hx pu
      have po := part_old a b j
      have hU := upn_lt a b j hb
      have h8 := cyT_8 (upn a b j) x b hU hb hx
      have ms := mix_same (part a b (j + 1)) (part a b j) j (part_lo a b j)
      generalize upn a b j = U at pu po h8
      have ma := mix_all (part a b (j + 1)) (part a b j) (j + 8 + 1) (by omega) (fun i h1 _ => by rw [part_hi a b (j + 1) i hb (by omega), part_hi a b j i hb (by omega)])
      generalize hN : part a b (j + 1) = N at pu ms ma
      go_wp2
      go_loopw [9, 10] (fun c k wr => ∃ n : Nat, k = .int .i64 n ∧ n ≤ 8 ∧ c = .int .u64 (cyT U x b n) ∧ LH wr w1.heap.size la ∧ LH wr w2.heap.size lb ∧ LH wr W2.heap.size (mix N (part a b j) (j + n)) ∧ LH wr (w.heap.size + 1 + 1) (dl 0) ∧ Below w.heap.size w wr) (fun _ k _ => 8 - (intOf k).toNat)
      case atStart => exact ⟨0, rfl, by decide, by rw [cyT_0]; rfl, La, Lb, by rw [Nat.add_zero, ms]; exact Lo, Lr, hB⟩
      case round =>
        clear La Lb Lo Lr hB
        obtain ⟨n, rfl, hn, rfl, La, Lb, Lo, Lr, hB⟩ := hrel
        by_cases hnl : n < 8
        · have hnl' : (n : Int) < 8 := by omega
          have hjn : j + n < 16 := by omega
          have i1 : IntKind.i64.wrap ((j : Int) + n) = (j : Int) + n := by rw [IntKind.wrap_i64]; omega
          have i2 : 0 ≤ (j : Int) + n := by omega
          have i3 : (j : Int) + n < 16 := by omega
          have i4 : ((j : Int) + n).toNat = j + n := by omega
          have co := Lo.cell (mix_get N (part a b j) (j + n) hjn)
          rw [po n] at co
          have cx := La.cell ca
          have cy := Lb.cell (gb n (by omega))
          have f0 := Lo.fz hjn
          have hd := times_dig U x b n
          have HS := mix_set N (part a b j) (j + n) hjn
          rw [pu n] at HS
          have b1 := dig_nn (U + x * b) n
          have b2 := dig_lt (U + x * b) n
          have hc := cyT_lt U x b n hx
          obtain ⟨q, u, d, k1, k2, k3, k4, k5, k6, k7, k8, k9, k10⟩ := times_step (dig U n) x (dig b n) (cyT U x b n) (dig_nn U n) (dig_lt U n) (by omega) (by omega) (dig_nn b n) (dig_lt b n) (by omega) (by omega)
          rw [hd] at k8
          have eu : u = dig (U + x * b) n := by clear hd; omega
          have ed : d = cyT U x b (n + 1) := by clear hd; omega
          subst ed
          rw [← eu] at HS
          clear hd b1 b2 hc k8 k9 k10 eu
          go_wp2
          go_region
          go_wp2
          go_roundw
          case rel =>
            refine ⟨n + 1, by go_num, by omega, rfl, (La.otherAt (by omega) _).drew, (Lb.otherAt (by omega) _).drew, ?_, (Lr.otherAt (by omega) _).drew, (hB.setCell (p := ⟨W2.heap.size, j + n, none⟩) (show w.heap.size ≤ W2.heap.size by omega) _).drew⟩
            rw [← Nat.add_assoc, ← HS]
            exact (Lo.setAt (mix_len _ _ _ (by omega)) hjn _).drew
          case measure => simp [intOf]; omega
        · have hn8 : n = 8 := by omega
          subst hn8
          have hj8 : j + 8 < 16 := by omega
          have i1 : IntKind.i64.wrap ((j : Int) + 8) = (j : Int) + 8 := by rw [IntKind.wrap_i64]; omega
          have i2 : 0 ≤ (j : Int) + 8 := by omega
          have i3 : (j : Int) + 8 < 16 := by omega
          have i4 : ((j : Int) + 8).toNat = j + 8 := by omega
          have co := Lo.cell (mix_get N (part a b j) (j + 8) hj8)
          have f0 := Lo.fz hj8
          have HS := mix_set N (part a b j) (j + 8) hj8
          rw [pu 8] at HS
          go_wp2
          go_roundw
          case rel =>
            refine ⟨j + 1, by go_num, by omega, La.otherAt (by omega) _, Lb.otherAt (by omega) _, ?_, Lr.otherAt (by omega) _, hB.setCell (p := ⟨W2.heap.size, j + 8, none⟩) (show w.heap.size ≤ W2.heap.size by omega) _⟩
            rw [hN, ← ma, ← HS]
            exact Lo.setAt (mix_len _ _ _ (by omega)) hj8 _
          case measure => simp [intOf]; omega
    · have hj8 : j = 8 := by omega
      subst hj8
      rw [part_8 a b ha] at Lo
      go_upto_region 15 with fail
      refine wp_region_list ?_
      have hL := ll_dl (a * b)
      refine ld34 Lo hL rfl rfl rfl ?_
      refine st34 Lr hL rfl rfl rfl rfl ?_
      replace hB := below_setCells (w.heap.size + 1 + 1) (dl (a * b)) 0 _ _ _ hB (by omega)
      replace Lr := Lr.set hL
      generalize wr.setCells (w.heap.size + 1 + 1) 0 (dl (a * b)) = Wf at hB Lr ⊢
      go_wp2
      exact res34 Try.results15 rfl (Lr.loadVar hL) ⟨rfl, hB⟩

end Go.Proofs.Ytbephahokhnccaa
