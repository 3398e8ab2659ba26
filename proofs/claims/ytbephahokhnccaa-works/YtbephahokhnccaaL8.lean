/-
  purserref.bitwise: what it returns.
-/
import Derived.Test.YtbephahokhnccaaJ5
import Derived.Test.YtbephahokhnccaaJ10
namespace Go.Proofs.Ytbephahokhnccaa
open Go.RowKit Go.Shelf
attribute [local go_sem] wd

/-- What bitwise holds. -/
abbrev BF (w W : World) (X Y O a b n : Nat) : Prop := Below w.heap.size w W ∧ LH W X (dl a) ∧ LH W Y (dl b) ∧ LH W O (dl n) ∧ Cells4 W (w.heap.size + 1 + 1) 0 ∧ w.heap.size + 1 + 1 < X ∧ X < Y ∧ Y < O
theorem BF.keep {w W W' : World} {X Y O a b n : Nat} (h : BF w W X Y O a b n) (hb : Below W.heap.size W W') : BF w W' X Y O a b n := by
  obtain ⟨hB, h1, h2, h3, C, z1, z2, z3⟩ := h
  have hz := h3.z
  exact ⟨hB.trans (hb.mono hB.size), h1.below hb, h2.below hb, h3.below hb, C.below hb (by omega), z1, z2, z3⟩
theorem BF.set {w W : World} {X Y O a b n : Nat} (h : BF w W X Y O a b n) (m : Nat) : BF w (W.setCells O 0 (dl m)) X Y O a b m := by
  obtain ⟨hB, h1, h2, h3, C, z1, z2, z3⟩ := h
  exact ⟨below_setCells _ _ _ _ _ _ hB (by omega), h1.other (by omega) _, h2.other (by omega) _, h3.set (ll_dl m), cells_other C (by omega) _, z1, z2, z3⟩
theorem bit_and (a b j : Nat) : (a &&& b) / 2 ^ j % 2 = (a / 2 ^ j % 2) &&& (b / 2 ^ j % 2) := by
  rw [Nat.and_div_two_pow]; exact Nat.and_mod_two_pow (n := 1)
theorem bit_or (a b j : Nat) : (a ||| b) / 2 ^ j % 2 = (a / 2 ^ j % 2) ||| (b / 2 ^ j % 2) := by
  rw [Nat.or_div_two_pow]; exact Nat.or_mod_two_pow (n := 1)
theorem bit_xor (a b j : Nat) : (a ^^^ b) / 2 ^ j % 2 = (a / 2 ^ j % 2) ^^^ (b / 2 ^ j % 2) := by
  rw [Nat.xor_div_two_pow]; exact Nat.xor_mod_two_pow (n := 1)
theorem bit_not (a j : Nat) (ha : a < M) (hj : j < 256) : (M - 1 - a) / 2 ^ j % 2 = 1 - a / 2 ^ j % 2 := by
  have h := not_tb a ha j
  rw [Nat.testBit_eq_decide_div_mod_eq, Nat.testBit_eq_decide_div_mod_eq, decide_eq_true hj, Bool.true_and] at h
  have c1 : (M - 1 - a) / 2 ^ j % 2 = 0 ∨ (M - 1 - a) / 2 ^ j % 2 = 1 := by omega
  have c2 : a / 2 ^ j % 2 = 0 ∨ a / 2 ^ j % 2 = 1 := by omega
  rcases c1 with c1 | c1 <;> rcases c2 with c2 | c2 <;> rw [c1, c2] at h <;> rw [c1, c2]
  · simp at h
  · simp at h

set_option maxHeartbeats 4000000 in
theorem rbit_18 (a b : Nat) (ha : a < M) (hb : b < M) (w : World) :
    Calls Try.prog 24 #[.int .u8 18, wd a, wd b] w fun e w' => e = .returned (wd ((a &&& b) % M)) ∧ Below w.heap.size w w' := by
  have hbt : ∀ j, j < 256 → (a &&& b) / 2 ^ j % 2 = (a / 2 ^ j % 2) &&& (b / 2 ^ j % 2) := fun j hj => bit_and a b j
  have hnl : a &&& b < M := and_lt a b ha
  generalize a &&& b = n at hbt hnl ⊢
  go_enter Try.func24, Try.ntmps24
  go_wp2_with fail
  have hB : Below w.heap.size w (((w.alloc (.cells #[.int .u64 (lim a 0), .int .u64 (lim a 1), .int .u64 (lim a 2), .int .u64 (lim a 3)] 24)).alloc (.cells #[.int .u64 (lim b 0), .int .u64 (lim b 1), .int .u64 (lim b 2), .int .u64 (lim b 3)] 24)).alloc (.cells #[.int .u64 0, .int .u64 0, .int .u64 0, .int .u64 0] 24)) := below3 w _ _ _
  have Cb : Eq4 (((w.alloc (.cells #[.int .u64 (lim a 0), .int .u64 (lim a 1), .int .u64 (lim a 2), .int .u64 (lim a 3)] 24)).alloc (.cells #[.int .u64 (lim b 0), .int .u64 (lim b 1), .int .u64 (lim b 2), .int .u64 (lim b 3)] 24)).alloc (.cells #[.int .u64 0, .int .u64 0, .int .u64 0, .int .u64 0] 24)) (w.heap.size + 1) b := by refine ⟨?_, ?_, ?_, ?_⟩ <;> simp [go_sem]
  have C : Cells4 (((w.alloc (.cells #[.int .u64 (lim a 0), .int .u64 (lim a 1), .int .u64 (lim a 2), .int .u64 (lim a 3)] 24)).alloc (.cells #[.int .u64 (lim b 0), .int .u64 (lim b 1), .int .u64 (lim b 2), .int .u64 (lim b 3)] 24)).alloc (.cells #[.int .u64 0, .int .u64 0, .int .u64 0, .int .u64 0] 24)) (w.heap.size + 1 + 1) 0 := by refine ⟨?_, ?_, ?_, ?_, ?_, ?_, ?_, ?_⟩ <;> simp [go_sem, lim_z]
  have hz : w.heap.size + 1 + 1 < (((w.alloc (.cells #[.int .u64 (lim a 0), .int .u64 (lim a 1), .int .u64 (lim a 2), .int .u64 (lim a 3)] 24)).alloc (.cells #[.int .u64 (lim b 0), .int .u64 (lim b 1), .int .u64 (lim b 2), .int .u64 (lim b 3)] 24)).alloc (.cells #[.int .u64 0, .int .u64 0, .int .u64 0, .int .u64 0] 24)).heap.size := by simp
  generalize ((w.alloc (.cells #[.int .u64 (lim a 0), .int .u64 (lim a 1), .int .u64 (lim a 2), .int .u64 (lim a 3)] 24)).alloc (.cells #[.int .u64 (lim b 0), .int .u64 (lim b 1), .int .u64 (lim b 2), .int .u64 (lim b 3)] 24)).alloc (.cells #[.int .u64 0, .int .u64 0, .int .u64 0, .int .u64 0] 24) = W0 at hB Cb C hz ⊢
  refine (spreadL a ha _).mono ?_
  rintro e w1 ⟨rfl, hb1⟩
  replace hB := hB.trans (hb1.mono hB.size)
  replace Cb := Eq4.keep Cb hb1 (by omega)
  replace C := C.below hb1 (by omega)
  replace hz := Nat.lt_of_lt_of_le hz hb1.size
  clear hb1
  have hLa := ll_dl a
  have hLb := ll_dl b
  have hlen := hLa.len
  have hsc := sc34 w1 hLa
  go_upto_region 2 with fail
  have hbn : Below w1.heap.size w1 (w1.alloc (.cells (dl a).toArray 34)) := (Below.refl _ _).alloc (Nat.le_refl _) _
  replace hB := hB.trans (hbn.mono hB.size)
  replace Cb := Eq4.keep Cb hbn (by omega)
  replace C := C.below hbn (by omega)
  have La := lh_new w1 hLa
  clear hsc hlen hbn
  generalize w1.alloc (.cells (dl a).toArray 34) = W1 at hB Cb C La ⊢
  obtain ⟨k0, k1, k2, k3⟩ := Cb
  go_wp2_with fail
  clear k0 k1 k2 k3
  refine (spreadL b hb _).mono ?_
  rintro e w2 ⟨rfl, hb1⟩
  have hz1 := La.z
  replace hB := hB.trans (hb1.mono hB.size)
  replace C := C.below hb1 (by omega)
  replace La := La.below hb1
  clear hb1
  have hlen := hLb.len
  have hsc := sc34 w2 hLb
  go_upto_region 3 with fail
  have hbn : Below w2.heap.size w2 (w2.alloc (.cells (dl b).toArray 34)) := (Below.refl _ _).alloc (Nat.le_refl _) _
  have hz2 := La.z
  replace hB := hB.trans (hbn.mono hB.size)
  replace C := C.below hbn (by omega)
  replace La := La.below hbn
  have Lb := lh_new w2 hLb
  clear hsc hlen hbn
  generalize w2.alloc (.cells (dl b).toArray 34) = W2 at hB C La Lb ⊢
  go_wp2
  have P : BF w (W2.alloc (.cells #[.int .u64 0, .int .u64 0, .int .u64 0, .int .u64 0, .int .u64 0, .int .u64 0, .int .u64 0, .int .u64 0, .int .u64 0, .int .u64 0, .int .u64 0, .int .u64 0, .int .u64 0, .int .u64 0, .int .u64 0, .int .u64 0] 34)) w1.heap.size w2.heap.size W2.heap.size a b 0 := by
    have hbn : Below W2.heap.size W2 (W2.alloc (.cells #[.int .u64 0, .int .u64 0, .int .u64 0, .int .u64 0, .int .u64 0, .int .u64 0, .int .u64 0, .int .u64 0, .int .u64 0, .int .u64 0, .int .u64 0, .int .u64 0, .int .u64 0, .int .u64 0, .int .u64 0, .int .u64 0] 34)) := (Below.refl _ _).alloc (Nat.le_refl _) _
    have hz3 := Lb.z
    exact ⟨hB.trans (hbn.mono hB.size), La.below hbn, Lb.below hbn, lh_new0 W2, C.below hbn (by omega), hz, hz2, hz3⟩
  clear hB C La Lb hz hz1 hz2
  generalize W2.alloc (.cells #[.int .u64 0, .int .u64 0, .int .u64 0, .int .u64 0, .int .u64 0, .int .u64 0, .int .u64 0, .int .u64 0, .int .u64 0, .int .u64 0, .int .u64 0, .int .u64 0, .int .u64 0, .int .u64 0, .int .u64 0, .int .u64 0] 34) = W3 at P ⊢
  generalize w1.heap.size = X at P ⊢
  generalize w2.heap.size = Y at P ⊢
  generalize W2.heap.size = O at P ⊢
  go_loopw [10] (fun i wr => ((∃ j : Nat, i = .int .i64 j ∧ j < 256 ∧ BF w wr X Y O a b (n / 2 ^ (j + 1))) ∨ (i = .int .i64 (-1) ∧ BF w wr X Y O a b n))) (fun i _ => (intOf i + 1).toNat)
  case atStart =>
    refine .inl ⟨255, rfl, by decide, ?_⟩
    rw [Nat.div_eq_of_lt (show n < 2 ^ (255 + 1) from M_two' ▸ hnl)]
    exact P
  case round =>
    clear P
    rcases hrel with ⟨j, rfl, hj, P⟩ | ⟨rfl, P⟩
    · have hj' : (0 : Int) ≤ j := by omega
      have hM : M + M < MM := by decide
      have h2 : n / 2 ^ j / 2 = n / 2 ^ (j + 1) := by rw [Nat.div_div_eq_div_mul, Nat.pow_succ]
      have h3 := Nat.div_le_self n (2 ^ (j + 1))
      have hs := hbt j hj
      have hba := lbitL a j (by omega)
      have hbb := lbitL b j (by omega)
      have hp : a / 2 ^ j % 2 = 0 ∨ a / 2 ^ j % 2 = 1 := by omega
      have hq : b / 2 ^ j % 2 = 0 ∨ b / 2 ^ j % 2 = 1 := by omega
      clear hbt
      go_upto_region 7 with fail
      rcases hp with hp | hp <;> rcases hq with hq | hq
      · rw [hp] at hba
        rw [hq] at hbb
        rw [hp, hq] at hs
        replace hs : n / 2 ^ j % 2 = 0 := hs
        have hT := twice (n / 2 ^ (j + 1)) 0 (by decide)
        rw [Nat.mod_eq_of_lt (show n / 2 ^ (j + 1) + n / 2 ^ (j + 1) < MM by omega), show n / 2 ^ (j + 1) + n / 2 ^ (j + 1) + 0 = n / 2 ^ j by omega] at hT
        refine wp_region_list ?_
        refine ld34 P.2.1 hLa rfl rfl rfl ?_
        go_wp2_with fail
        refine (hba _).mono ?_
        rintro e w4 ⟨rfl, hbn⟩
        replace P := P.keep hbn
        clear hbn
        go_upto_region 8 with fail
        refine wp_region_list ?_
        refine ld34 P.2.2.1 hLb rfl rfl rfl ?_
        go_wp2_with fail
        refine (hbb _).mono ?_
        rintro e w5 ⟨rfl, hbn⟩
        replace P := P.keep hbn
        clear hbn
        go_upto_region 17 with fail
        refine wp_region_list ?_
        refine ld34 P.2.2.2.1 (ll_dl _) rfl rfl rfl ?_
        go_wp2_with fail
        refine (hT _).mono ?_
        rintro e w6 ⟨rfl, hbn⟩
        rename_i K hK
        refine hK _ _ ?_
        replace P := P.keep hbn
        clear hbn
        refine st34 P.2.2.2.1 (ll_dl _) rfl rfl rfl rfl ?_
        replace P := P.set (n / 2 ^ j)
        generalize w6.setCells O 0 (dl (n / 2 ^ j)) = w7 at P ⊢
        go_wp2
        go_roundw
        case rel =>
          rcases j with _ | j
          · right; exact ⟨by go_num, by rw [Nat.pow_zero, Nat.div_one] at P; exact P⟩
          · left; exact ⟨j, by go_num, by omega, P⟩
        case measure => simp [intOf]
      · rw [hp] at hba
        rw [hq] at hbb
        rw [hp, hq] at hs
        replace hs : n / 2 ^ j % 2 = 0 := hs
        have hT := twice (n / 2 ^ (j + 1)) 0 (by decide)
        rw [Nat.mod_eq_of_lt (show n / 2 ^ (j + 1) + n / 2 ^ (j + 1) < MM by omega), show n / 2 ^ (j + 1) + n / 2 ^ (j + 1) + 0 = n / 2 ^ j by omega] at hT
        refine wp_region_list ?_
        refine ld34 P.2.1 hLa rfl rfl rfl ?_
        go_wp2_with fail
        refine (hba _).mono ?_
        rintro e w4 ⟨rfl, hbn⟩
        replace P := P.keep hbn
        clear hbn
        go_upto_region 8 with fail
        refine wp_region_list ?_
        refine ld34 P.2.2.1 hLb rfl rfl rfl ?_
        go_wp2_with fail
        refine (hbb _).mono ?_
        rintro e w5 ⟨rfl, hbn⟩
        replace P := P.keep hbn
        clear hbn
        go_upto_region 17 with fail
        refine wp_region_list ?_
        refine ld34 P.2.2.2.1 (ll_dl _) rfl rfl rfl ?_
        go_wp2_with fail
        refine (hT _).mono ?_
        rintro e w6 ⟨rfl, hbn⟩
        rename_i K hK
        refine hK _ _ ?_
        replace P := P.keep hbn
        clear hbn
        refine st34 P.2.2.2.1 (ll_dl _) rfl rfl rfl rfl ?_
        replace P := P.set (n / 2 ^ j)
        generalize w6.setCells O 0 (dl (n / 2 ^ j)) = w7 at P ⊢
        go_wp2
        go_roundw
        case rel =>
          rcases j with _ | j
          · right; exact ⟨by go_num, by rw [Nat.pow_zero, Nat.div_one] at P; exact P⟩
          · left; exact ⟨j, by go_num, by omega, P⟩
        case measure => simp [intOf]
      · rw [hp] at hba
        rw [hq] at hbb
        rw [hp, hq] at hs
        replace hs : n / 2 ^ j % 2 = 0 := hs
        have hT := twice (n / 2 ^ (j + 1)) 0 (by decide)
        rw [Nat.mod_eq_of_lt (show n / 2 ^ (j + 1) + n / 2 ^ (j + 1) < MM by omega), show n / 2 ^ (j + 1) + n / 2 ^ (j + 1) + 0 = n / 2 ^ j by omega] at hT
        refine wp_region_list ?_
        refine ld34 P.2.1 hLa rfl rfl rfl ?_
        go_wp2_with fail
        refine (hba _).mono ?_
        rintro e w4 ⟨rfl, hbn⟩
        replace P := P.keep hbn
        clear hbn
        go_upto_region 8 with fail
        refine wp_region_list ?_
        refine ld34 P.2.2.1 hLb rfl rfl rfl ?_
        go_wp2_with fail
        refine (hbb _).mono ?_
        rintro e w5 ⟨rfl, hbn⟩
        replace P := P.keep hbn
        clear hbn
        go_upto_region 17 with fail
        refine wp_region_list ?_
        refine ld34 P.2.2.2.1 (ll_dl _) rfl rfl rfl ?_
        go_wp2_with fail
        refine (hT _).mono ?_
        rintro e w6 ⟨rfl, hbn⟩
        rename_i K hK
        refine hK _ _ ?_
        replace P := P.keep hbn
        clear hbn
        refine st34 P.2.2.2.1 (ll_dl _) rfl rfl rfl rfl ?_
        replace P := P.set (n / 2 ^ j)
        generalize w6.setCells O 0 (dl (n / 2 ^ j)) = w7 at P ⊢
        go_wp2
        go_roundw
        case rel =>
          rcases j with _ | j
          · right; exact ⟨by go_num, by rw [Nat.pow_zero, Nat.div_one] at P; exact P⟩
          · left; exact ⟨j, by go_num, by omega, P⟩
        case measure => simp [intOf]
      · rw [hp] at hba
        rw [hq] at hbb
        rw [hp, hq] at hs
        replace hs : n / 2 ^ j % 2 = 1 := hs
        have hT := twice (n / 2 ^ (j + 1)) 1 (by decide)
        rw [Nat.mod_eq_of_lt (show n / 2 ^ (j + 1) + n / 2 ^ (j + 1) < MM by omega), show n / 2 ^ (j + 1) + n / 2 ^ (j + 1) + 1 = n / 2 ^ j by omega] at hT
        refine wp_region_list ?_
        refine ld34 P.2.1 hLa rfl rfl rfl ?_
        go_wp2_with fail
        refine (hba _).mono ?_
        rintro e w4 ⟨rfl, hbn⟩
        replace P := P.keep hbn
        clear hbn
        go_upto_region 8 with fail
        refine wp_region_list ?_
        refine ld34 P.2.2.1 hLb rfl rfl rfl ?_
        go_wp2_with fail
        refine (hbb _).mono ?_
        rintro e w5 ⟨rfl, hbn⟩
        replace P := P.keep hbn
        clear hbn
        go_upto_region 17 with fail
        refine wp_region_list ?_
        refine ld34 P.2.2.2.1 (ll_dl _) rfl rfl rfl ?_
        go_wp2_with fail
        refine (hT _).mono ?_
        rintro e w6 ⟨rfl, hbn⟩
        rename_i K hK
        refine hK _ _ ?_
        replace P := P.keep hbn
        clear hbn
        refine st34 P.2.2.2.1 (ll_dl _) rfl rfl rfl rfl ?_
        replace P := P.set (n / 2 ^ j)
        generalize w6.setCells O 0 (dl (n / 2 ^ j)) = w7 at P ⊢
        go_wp2
        go_roundw
        case rel =>
          rcases j with _ | j
          · right; exact ⟨by go_num, by rw [Nat.pow_zero, Nat.div_one] at P; exact P⟩
          · left; exact ⟨j, by go_num, by omega, P⟩
        case measure => simp [intOf]
    · obtain ⟨hB, h1, h2, h3, C, z1, z2, z3⟩ := id P
      go_upto_region 18 with fail
      refine wp_region_list ?_
      refine ld34 h3 (ll_dl _) rfl rfl rfl ?_
      go_wp2_with fail
      refine (wordL n _).mono ?_
      rintro e w4 ⟨rfl, hbn⟩
      obtain ⟨y0, y1, y2, y3, y4, y5, y6, y7⟩ := (P.keep hbn).2.2.2.2.1
      replace hB := (P.keep hbn).1
      clear hbn
      go_wp2
      simp [bodyPost, results, Try.results24, go_sem, y0, y1, y2, y3]
      exact set4_below (b := w.heap.size + 1 + 1) hB (by omega) _

set_option maxHeartbeats 4000000 in
theorem rbit_19 (a b : Nat) (ha : a < M) (hb : b < M) (w : World) :
    Calls Try.prog 24 #[.int .u8 19, wd a, wd b] w fun e w' => e = .returned (wd ((a ||| b) % M)) ∧ Below w.heap.size w w' := by
  have hbt : ∀ j, j < 256 → (a ||| b) / 2 ^ j % 2 = (a / 2 ^ j % 2) ||| (b / 2 ^ j % 2) := fun j hj => bit_or a b j
  have hnl : a ||| b < M := or_lt a b ha hb
  generalize a ||| b = n at hbt hnl ⊢
  go_enter Try.func24, Try.ntmps24
  go_wp2_with fail
  have hB : Below w.heap.size w (((w.alloc (.cells #[.int .u64 (lim a 0), .int .u64 (lim a 1), .int .u64 (lim a 2), .int .u64 (lim a 3)] 24)).alloc (.cells #[.int .u64 (lim b 0), .int .u64 (lim b 1), .int .u64 (lim b 2), .int .u64 (lim b 3)] 24)).alloc (.cells #[.int .u64 0, .int .u64 0, .int .u64 0, .int .u64 0] 24)) := below3 w _ _ _
  have Cb : Eq4 (((w.alloc (.cells #[.int .u64 (lim a 0), .int .u64 (lim a 1), .int .u64 (lim a 2), .int .u64 (lim a 3)] 24)).alloc (.cells #[.int .u64 (lim b 0), .int .u64 (lim b 1), .int .u64 (lim b 2), .int .u64 (lim b 3)] 24)).alloc (.cells #[.int .u64 0, .int .u64 0, .int .u64 0, .int .u64 0] 24)) (w.heap.size + 1) b := by refine ⟨?_, ?_, ?_, ?_⟩ <;> simp [go_sem]
  have C : Cells4 (((w.alloc (.cells #[.int .u64 (lim a 0), .int .u64 (lim a 1), .int .u64 (lim a 2), .int .u64 (lim a 3)] 24)).alloc (.cells #[.int .u64 (lim b 0), .int .u64 (lim b 1), .int .u64 (lim b 2), .int .u64 (lim b 3)] 24)).alloc (.cells #[.int .u64 0, .int .u64 0, .int .u64 0, .int .u64 0] 24)) (w.heap.size + 1 + 1) 0 := by refine ⟨?_, ?_, ?_, ?_, ?_, ?_, ?_, ?_⟩ <;> simp [go_sem, lim_z]
  have hz : w.heap.size + 1 + 1 < (((w.alloc (.cells #[.int .u64 (lim a 0), .int .u64 (lim a 1), .int .u64 (lim a 2), .int .u64 (lim a 3)] 24)).alloc (.cells #[.int .u64 (lim b 0), .int .u64 (lim b 1), .int .u64 (lim b 2), .int .u64 (lim b 3)] 24)).alloc (.cells #[.int .u64 0, .int .u64 0, .int .u64 0, .int .u64 0] 24)).heap.size := by simp
  generalize ((w.alloc (.cells #[.int .u64 (lim a 0), .int .u64 (lim a 1), .int .u64 (lim a 2), .int .u64 (lim a 3)] 24)).alloc (.cells #[.int .u64 (lim b 0), .int .u64 (lim b 1), .int .u64 (lim b 2), .int .u64 (lim b 3)] 24)).alloc (.cells #[.int .u64 0, .int .u64 0, .int .u64 0, .int .u64 0] 24) = W0 at hB Cb C hz ⊢
  refine (spreadL a ha _).mono ?_
  rintro e w1 ⟨rfl, hb1⟩
  replace hB := hB.trans (hb1.mono hB.size)
  replace Cb := Eq4.keep Cb hb1 (by omega)
  replace C := C.below hb1 (by omega)
  replace hz := Nat.lt_of_lt_of_le hz hb1.size
  clear hb1
  have hLa := ll_dl a
  have hLb := ll_dl b
  have hlen := hLa.len
  have hsc := sc34 w1 hLa
  go_upto_region 2 with fail
  have hbn : Below w1.heap.size w1 (w1.alloc (.cells (dl a).toArray 34)) := (Below.refl _ _).alloc (Nat.le_refl _) _
  replace hB := hB.trans (hbn.mono hB.size)
  replace Cb := Eq4.keep Cb hbn (by omega)
  replace C := C.below hbn (by omega)
  have La := lh_new w1 hLa
  clear hsc hlen hbn
  generalize w1.alloc (.cells (dl a).toArray 34) = W1 at hB Cb C La ⊢
  obtain ⟨k0, k1, k2, k3⟩ := Cb
  go_wp2_with fail
  clear k0 k1 k2 k3
  refine (spreadL b hb _).mono ?_
  rintro e w2 ⟨rfl, hb1⟩
  have hz1 := La.z
  replace hB := hB.trans (hb1.mono hB.size)
  replace C := C.below hb1 (by omega)
  replace La := La.below hb1
  clear hb1
  have hlen := hLb.len
  have hsc := sc34 w2 hLb
  go_upto_region 3 with fail
  have hbn : Below w2.heap.size w2 (w2.alloc (.cells (dl b).toArray 34)) := (Below.refl _ _).alloc (Nat.le_refl _) _
  have hz2 := La.z
  replace hB := hB.trans (hbn.mono hB.size)
  replace C := C.below hbn (by omega)
  replace La := La.below hbn
  have Lb := lh_new w2 hLb
  clear hsc hlen hbn
  generalize w2.alloc (.cells (dl b).toArray 34) = W2 at hB C La Lb ⊢
  go_wp2
  have P : BF w (W2.alloc (.cells #[.int .u64 0, .int .u64 0, .int .u64 0, .int .u64 0, .int .u64 0, .int .u64 0, .int .u64 0, .int .u64 0, .int .u64 0, .int .u64 0, .int .u64 0, .int .u64 0, .int .u64 0, .int .u64 0, .int .u64 0, .int .u64 0] 34)) w1.heap.size w2.heap.size W2.heap.size a b 0 := by
    have hbn : Below W2.heap.size W2 (W2.alloc (.cells #[.int .u64 0, .int .u64 0, .int .u64 0, .int .u64 0, .int .u64 0, .int .u64 0, .int .u64 0, .int .u64 0, .int .u64 0, .int .u64 0, .int .u64 0, .int .u64 0, .int .u64 0, .int .u64 0, .int .u64 0, .int .u64 0] 34)) := (Below.refl _ _).alloc (Nat.le_refl _) _
    have hz3 := Lb.z
    exact ⟨hB.trans (hbn.mono hB.size), La.below hbn, Lb.below hbn, lh_new0 W2, C.below hbn (by omega), hz, hz2, hz3⟩
  clear hB C La Lb hz hz1 hz2
  generalize W2.alloc (.cells #[.int .u64 0, .int .u64 0, .int .u64 0, .int .u64 0, .int .u64 0, .int .u64 0, .int .u64 0, .int .u64 0, .int .u64 0, .int .u64 0, .int .u64 0, .int .u64 0, .int .u64 0, .int .u64 0, .int .u64 0, .int .u64 0] 34) = W3 at P ⊢
  generalize w1.heap.size = X at P ⊢
  generalize w2.heap.size = Y at P ⊢
  generalize W2.heap.size = O at P ⊢
  go_loopw [10] (fun i wr => ((∃ j : Nat, i = .int .i64 j ∧ j < 256 ∧ BF w wr X Y O a b (n / 2 ^ (j + 1))) ∨ (i = .int .i64 (-1) ∧ BF w wr X Y O a b n))) (fun i _ => (intOf i + 1).toNat)
  case atStart =>
    refine .inl ⟨255, rfl, by decide, ?_⟩
    rw [Nat.div_eq_of_lt (show n < 2 ^ (255 + 1) from M_two' ▸ hnl)]
    exact P
  case round =>
    clear P
    rcases hrel with ⟨j, rfl, hj, P⟩ | ⟨rfl, P⟩
    · have hj' : (0 : Int) ≤ j := by omega
      have hM : M + M < MM := by decide
      have h2 : n / 2 ^ j / 2 = n / 2 ^ (j + 1) := by rw [Nat.div_div_eq_div_mul, Nat.pow_succ]
      have h3 := Nat.div_le_self n (2 ^ (j + 1))
      have hs := hbt j hj
      have hba := lbitL a j (by omega)
      have hbb := lbitL b j (by omega)
      have hp : a / 2 ^ j % 2 = 0 ∨ a / 2 ^ j % 2 = 1 := by omega
      have hq : b / 2 ^ j % 2 = 0 ∨ b / 2 ^ j % 2 = 1 := by omega
      clear hbt
      go_upto_region 7 with fail
      rcases hp with hp | hp <;> rcases hq with hq | hq
      · rw [hp] at hba
        rw [hq] at hbb
        rw [hp, hq] at hs
        replace hs : n / 2 ^ j % 2 = 0 := hs
        have hT := twice (n / 2 ^ (j + 1)) 0 (by decide)
        rw [Nat.mod_eq_of_lt (show n / 2 ^ (j + 1) + n / 2 ^ (j + 1) < MM by omega), show n / 2 ^ (j + 1) + n / 2 ^ (j + 1) + 0 = n / 2 ^ j by omega] at hT
        refine wp_region_list ?_
        refine ld34 P.2.1 hLa rfl rfl rfl ?_
        go_wp2_with fail
        refine (hba _).mono ?_
        rintro e w4 ⟨rfl, hbn⟩
        replace P := P.keep hbn
        clear hbn
        go_upto_region 8 with fail
        refine wp_region_list ?_
        refine ld34 P.2.2.1 hLb rfl rfl rfl ?_
        go_wp2_with fail
        refine (hbb _).mono ?_
        rintro e w5 ⟨rfl, hbn⟩
        replace P := P.keep hbn
        clear hbn
        go_upto_region 17 with fail
        refine wp_region_list ?_
        refine ld34 P.2.2.2.1 (ll_dl _) rfl rfl rfl ?_
        go_wp2_with fail
        refine (hT _).mono ?_
        rintro e w6 ⟨rfl, hbn⟩
        rename_i K hK
        refine hK _ _ ?_
        replace P := P.keep hbn
        clear hbn
        refine st34 P.2.2.2.1 (ll_dl _) rfl rfl rfl rfl ?_
        replace P := P.set (n / 2 ^ j)
        generalize w6.setCells O 0 (dl (n / 2 ^ j)) = w7 at P ⊢
        go_wp2
        go_roundw
        case rel =>
          rcases j with _ | j
          · right; exact ⟨by go_num, by rw [Nat.pow_zero, Nat.div_one] at P; exact P⟩
          · left; exact ⟨j, by go_num, by omega, P⟩
        case measure => simp [intOf]
      · rw [hp] at hba
        rw [hq] at hbb
        rw [hp, hq] at hs
        replace hs : n / 2 ^ j % 2 = 1 := hs
        have hT := twice (n / 2 ^ (j + 1)) 1 (by decide)
        rw [Nat.mod_eq_of_lt (show n / 2 ^ (j + 1) + n / 2 ^ (j + 1) < MM by omega), show n / 2 ^ (j + 1) + n / 2 ^ (j + 1) + 1 = n / 2 ^ j by omega] at hT
        refine wp_region_list ?_
        refine ld34 P.2.1 hLa rfl rfl rfl ?_
        go_wp2_with fail
        refine (hba _).mono ?_
        rintro e w4 ⟨rfl, hbn⟩
        replace P := P.keep hbn
        clear hbn
        go_upto_region 8 with fail
        refine wp_region_list ?_
        refine ld34 P.2.2.1 hLb rfl rfl rfl ?_
        go_wp2_with fail
        refine (hbb _).mono ?_
        rintro e w5 ⟨rfl, hbn⟩
        replace P := P.keep hbn
        clear hbn
        go_upto_region 17 with fail
        refine wp_region_list ?_
        refine ld34 P.2.2.2.1 (ll_dl _) rfl rfl rfl ?_
        go_wp2_with fail
        refine (hT _).mono ?_
        rintro e w6 ⟨rfl, hbn⟩
        rename_i K hK
        refine hK _ _ ?_
        replace P := P.keep hbn
        clear hbn
        refine st34 P.2.2.2.1 (ll_dl _) rfl rfl rfl rfl ?_
        replace P := P.set (n / 2 ^ j)
        generalize w6.setCells O 0 (dl (n / 2 ^ j)) = w7 at P ⊢
        go_wp2
        go_roundw
        case rel =>
          rcases j with _ | j
          · right; exact ⟨by go_num, by rw [Nat.pow_zero, Nat.div_one] at P; exact P⟩
          · left; exact ⟨j, by go_num, by omega, P⟩
        case measure => simp [intOf]
      · rw [hp] at hba
        rw [hq] at hbb
        rw [hp, hq] at hs
        replace hs : n / 2 ^ j % 2 = 1 := hs
        have hT := twice (n / 2 ^ (j + 1)) 1 (by decide)
        rw [Nat.mod_eq_of_lt (show n / 2 ^ (j + 1) + n / 2 ^ (j + 1) < MM by omega), show n / 2 ^ (j + 1) + n / 2 ^ (j + 1) + 1 = n / 2 ^ j by omega] at hT
        refine wp_region_list ?_
        refine ld34 P.2.1 hLa rfl rfl rfl ?_
        go_wp2_with fail
        refine (hba _).mono ?_
        rintro e w4 ⟨rfl, hbn⟩
        replace P := P.keep hbn
        clear hbn
        go_upto_region 8 with fail
        refine wp_region_list ?_
        refine ld34 P.2.2.1 hLb rfl rfl rfl ?_
        go_wp2_with fail
        refine (hbb _).mono ?_
        rintro e w5 ⟨rfl, hbn⟩
        replace P := P.keep hbn
        clear hbn
        go_upto_region 17 with fail
        refine wp_region_list ?_
        refine ld34 P.2.2.2.1 (ll_dl _) rfl rfl rfl ?_
        go_wp2_with fail
        refine (hT _).mono ?_
        rintro e w6 ⟨rfl, hbn⟩
        rename_i K hK
        refine hK _ _ ?_
        replace P := P.keep hbn
        clear hbn
        refine st34 P.2.2.2.1 (ll_dl _) rfl rfl rfl rfl ?_
        replace P := P.set (n / 2 ^ j)
        generalize w6.setCells O 0 (dl (n / 2 ^ j)) = w7 at P ⊢
        go_wp2
        go_roundw
        case rel =>
          rcases j with _ | j
          · right; exact ⟨by go_num, by rw [Nat.pow_zero, Nat.div_one] at P; exact P⟩
          · left; exact ⟨j, by go_num, by omega, P⟩
        case measure => simp [intOf]
      · rw [hp] at hba
        rw [hq] at hbb
        rw [hp, hq] at hs
        replace hs : n / 2 ^ j % 2 = 1 := hs
        have hT := twice (n / 2 ^ (j + 1)) 1 (by decide)
        rw [Nat.mod_eq_of_lt (show n / 2 ^ (j + 1) + n / 2 ^ (j + 1) < MM by omega), show n / 2 ^ (j + 1) + n / 2 ^ (j + 1) + 1 = n / 2 ^ j by omega] at hT
        refine wp_region_list ?_
        refine ld34 P.2.1 hLa rfl rfl rfl ?_
        go_wp2_with fail
        refine (hba _).mono ?_
        rintro e w4 ⟨rfl, hbn⟩
        replace P := P.keep hbn
        clear hbn
        go_upto_region 8 with fail
        refine wp_region_list ?_
        refine ld34 P.2.2.1 hLb rfl rfl rfl ?_
        go_wp2_with fail
        refine (hbb _).mono ?_
        rintro e w5 ⟨rfl, hbn⟩
        replace P := P.keep hbn
        clear hbn
        go_upto_region 17 with fail
        refine wp_region_list ?_
        refine ld34 P.2.2.2.1 (ll_dl _) rfl rfl rfl ?_
        go_wp2_with fail
        refine (hT _).mono ?_
        rintro e w6 ⟨rfl, hbn⟩
        rename_i K hK
        refine hK _ _ ?_
        replace P := P.keep hbn
        clear hbn
        refine st34 P.2.2.2.1 (ll_dl _) rfl rfl rfl rfl ?_
        replace P := P.set (n / 2 ^ j)
        generalize w6.setCells O 0 (dl (n / 2 ^ j)) = w7 at P ⊢
        go_wp2
        go_roundw
        case rel =>
          rcases j with _ | j
          · right; exact ⟨by go_num, by rw [Nat.pow_zero, Nat.div_one] at P; exact P⟩
          · left; exact ⟨j, by go_num, by omega, P⟩
        case measure => simp [intOf]
    · obtain ⟨hB, h1, h2, h3, C, z1, z2, z3⟩ := id P
      go_upto_region 18 with fail
      refine wp_region_list ?_
      refine ld34 h3 (ll_dl _) rfl rfl rfl ?_
      go_wp2_with fail
      refine (wordL n _).mono ?_
      rintro e w4 ⟨rfl, hbn⟩
      obtain ⟨y0, y1, y2, y3, y4, y5, y6, y7⟩ := (P.keep hbn).2.2.2.2.1
      replace hB := (P.keep hbn).1
      clear hbn
      go_wp2
      simp [bodyPost, results, Try.results24, go_sem, y0, y1, y2, y3]
      exact set4_below (b := w.heap.size + 1 + 1) hB (by omega) _

set_option maxHeartbeats 4000000 in
theorem rbit_20 (a b : Nat) (ha : a < M) (hb : b < M) (w : World) :
    Calls Try.prog 24 #[.int .u8 20, wd a, wd b] w fun e w' => e = .returned (wd ((a ^^^ b) % M)) ∧ Below w.heap.size w w' := by
  have hbt : ∀ j, j < 256 → (a ^^^ b) / 2 ^ j % 2 = (a / 2 ^ j % 2) ^^^ (b / 2 ^ j % 2) := fun j hj => bit_xor a b j
  have hnl : a ^^^ b < M := xor_lt a b ha hb
  generalize a ^^^ b = n at hbt hnl ⊢
  go_enter Try.func24, Try.ntmps24
  go_wp2_with fail
  have hB : Below w.heap.size w (((w.alloc (.cells #[.int .u64 (lim a 0), .int .u64 (lim a 1), .int .u64 (lim a 2), .int .u64 (lim a 3)] 24)).alloc (.cells #[.int .u64 (lim b 0), .int .u64 (lim b 1), .int .u64 (lim b 2), .int .u64 (lim b 3)] 24)).alloc (.cells #[.int .u64 0, .int .u64 0, .int .u64 0, .int .u64 0] 24)) := below3 w _ _ _
  have Cb : Eq4 (((w.alloc (.cells #[.int .u64 (lim a 0), .int .u64 (lim a 1), .int .u64 (lim a 2), .int .u64 (lim a 3)] 24)).alloc (.cells #[.int .u64 (lim b 0), .int .u64 (lim b 1), .int .u64 (lim b 2), .int .u64 (lim b 3)] 24)).alloc (.cells #[.int .u64 0, .int .u64 0, .int .u64 0, .int .u64 0] 24)) (w.heap.size + 1) b := by refine ⟨?_, ?_, ?_, ?_⟩ <;> simp [go_sem]
  have C : Cells4 (((w.alloc (.cells #[.int .u64 (lim a 0), .int .u64 (lim a 1), .int .u64 (lim a 2), .int .u64 (lim a 3)] 24)).alloc (.cells #[.int .u64 (lim b 0), .int .u64 (lim b 1), .int .u64 (lim b 2), .int .u64 (lim b 3)] 24)).alloc (.cells #[.int .u64 0, .int .u64 0, .int .u64 0, .int .u64 0] 24)) (w.heap.size + 1 + 1) 0 := by refine ⟨?_, ?_, ?_, ?_, ?_, ?_, ?_, ?_⟩ <;> simp [go_sem, lim_z]
  have hz : w.heap.size + 1 + 1 < (((w.alloc (.cells #[.int .u64 (lim a 0), .int .u64 (lim a 1), .int .u64 (lim a 2), .int .u64 (lim a 3)] 24)).alloc (.cells #[.int .u64 (lim b 0), .int .u64 (lim b 1), .int .u64 (lim b 2), .int .u64 (lim b 3)] 24)).alloc (.cells #[.int .u64 0, .int .u64 0, .int .u64 0, .int .u64 0] 24)).heap.size := by simp
  generalize ((w.alloc (.cells #[.int .u64 (lim a 0), .int .u64 (lim a 1), .int .u64 (lim a 2), .int .u64 (lim a 3)] 24)).alloc (.cells #[.int .u64 (lim b 0), .int .u64 (lim b 1), .int .u64 (lim b 2), .int .u64 (lim b 3)] 24)).alloc (.cells #[.int .u64 0, .int .u64 0, .int .u64 0, .int .u64 0] 24) = W0 at hB Cb C hz ⊢
  refine (spreadL a ha _).mono ?_
  rintro e w1 ⟨rfl, hb1⟩
  replace hB := hB.trans (hb1.mono hB.size)
  replace Cb := Eq4.keep Cb hb1 (by omega)
  replace C := C.below hb1 (by omega)
  replace hz := Nat.lt_of_lt_of_le hz hb1.size
  clear hb1
  have hLa := ll_dl a
  have hLb := ll_dl b
  have hlen := hLa.len
  have hsc := sc34 w1 hLa
  go_upto_region 2 with fail
  have hbn : Below w1.heap.size w1 (w1.alloc (.cells (dl a).toArray 34)) := (Below.refl _ _).alloc (Nat.le_refl _) _
  replace hB := hB.trans (hbn.mono hB.size)
  replace Cb := Eq4.keep Cb hbn (by omega)
  replace C := C.below hbn (by omega)
  have La := lh_new w1 hLa
  clear hsc hlen hbn
  generalize w1.alloc (.cells (dl a).toArray 34) = W1 at hB Cb C La ⊢
  obtain ⟨k0, k1, k2, k3⟩ := Cb
  go_wp2_with fail
  clear k0 k1 k2 k3
  refine (spreadL b hb _).mono ?_
  rintro e w2 ⟨rfl, hb1⟩
  have hz1 := La.z
  replace hB := hB.trans (hb1.mono hB.size)
  replace C := C.below hb1 (by omega)
  replace La := La.below hb1
  clear hb1
  have hlen := hLb.len
  have hsc := sc34 w2 hLb
  go_upto_region 3 with fail
  have hbn : Below w2.heap.size w2 (w2.alloc (.cells (dl b).toArray 34)) := (Below.refl _ _).alloc (Nat.le_refl _) _
  have hz2 := La.z
  replace hB := hB.trans (hbn.mono hB.size)
  replace C := C.below hbn (by omega)
  replace La := La.below hbn
  have Lb := lh_new w2 hLb
  clear hsc hlen hbn
  generalize w2.alloc (.cells (dl b).toArray 34) = W2 at hB C La Lb ⊢
  go_wp2
  have P : BF w (W2.alloc (.cells #[.int .u64 0, .int .u64 0, .int .u64 0, .int .u64 0, .int .u64 0, .int .u64 0, .int .u64 0, .int .u64 0, .int .u64 0, .int .u64 0, .int .u64 0, .int .u64 0, .int .u64 0, .int .u64 0, .int .u64 0, .int .u64 0] 34)) w1.heap.size w2.heap.size W2.heap.size a b 0 := by
    have hbn : Below W2.heap.size W2 (W2.alloc (.cells #[.int .u64 0, .int .u64 0, .int .u64 0, .int .u64 0, .int .u64 0, .int .u64 0, .int .u64 0, .int .u64 0, .int .u64 0, .int .u64 0, .int .u64 0, .int .u64 0, .int .u64 0, .int .u64 0, .int .u64 0, .int .u64 0] 34)) := (Below.refl _ _).alloc (Nat.le_refl _) _
    have hz3 := Lb.z
    exact ⟨hB.trans (hbn.mono hB.size), La.below hbn, Lb.below hbn, lh_new0 W2, C.below hbn (by omega), hz, hz2, hz3⟩
  clear hB C La Lb hz hz1 hz2
  generalize W2.alloc (.cells #[.int .u64 0, .int .u64 0, .int .u64 0, .int .u64 0, .int .u64 0, .int .u64 0, .int .u64 0, .int .u64 0, .int .u64 0, .int .u64 0, .int .u64 0, .int .u64 0, .int .u64 0, .int .u64 0, .int .u64 0, .int .u64 0] 34) = W3 at P ⊢
  generalize w1.heap.size = X at P ⊢
  generalize w2.heap.size = Y at P ⊢
  generalize W2.heap.size = O at P ⊢
  go_loopw [10] (fun i wr => ((∃ j : Nat, i = .int .i64 j ∧ j < 256 ∧ BF w wr X Y O a b (n / 2 ^ (j + 1))) ∨ (i = .int .i64 (-1) ∧ BF w wr X Y O a b n))) (fun i _ => (intOf i + 1).toNat)
  case atStart =>
    refine .inl ⟨255, rfl, by decide, ?_⟩
    rw [Nat.div_eq_of_lt (show n < 2 ^ (255 + 1) from M_two' ▸ hnl)]
    exact P
  case round =>
    clear P
    rcases hrel with ⟨j, rfl, hj, P⟩ | ⟨rfl, P⟩
    · have hj' : (0 : Int) ≤ j := by omega
      have hM : M + M < MM := by decide
      have h2 : n / 2 ^ j / 2 = n / 2 ^ (j + 1) := by rw [Nat.div_div_eq_div_mul, Nat.pow_succ]
      have h3 := Nat.div_le_self n (2 ^ (j + 1))
      have hs := hbt j hj
      have hba := lbitL a j (by omega)
      have hbb := lbitL b j (by omega)
      have hp : a / 2 ^ j % 2 = 0 ∨ a / 2 ^ j % 2 = 1 := by omega
      have hq : b / 2 ^ j % 2 = 0 ∨ b / 2 ^ j % 2 = 1 := by omega
      clear hbt
      go_upto_region 7 with fail
      rcases hp with hp | hp <;> rcases hq with hq | hq
      · rw [hp] at hba
        rw [hq] at hbb
        rw [hp, hq] at hs
        replace hs : n / 2 ^ j % 2 = 0 := hs
        have hT := twice (n / 2 ^ (j + 1)) 0 (by decide)
        rw [Nat.mod_eq_of_lt (show n / 2 ^ (j + 1) + n / 2 ^ (j + 1) < MM by omega), show n / 2 ^ (j + 1) + n / 2 ^ (j + 1) + 0 = n / 2 ^ j by omega] at hT
        refine wp_region_list ?_
        refine ld34 P.2.1 hLa rfl rfl rfl ?_
        go_wp2_with fail
        refine (hba _).mono ?_
        rintro e w4 ⟨rfl, hbn⟩
        replace P := P.keep hbn
        clear hbn
        go_upto_region 8 with fail
        refine wp_region_list ?_
        refine ld34 P.2.2.1 hLb rfl rfl rfl ?_
        go_wp2_with fail
        refine (hbb _).mono ?_
        rintro e w5 ⟨rfl, hbn⟩
        replace P := P.keep hbn
        clear hbn
        go_upto_region 17 with fail
        refine wp_region_list ?_
        refine ld34 P.2.2.2.1 (ll_dl _) rfl rfl rfl ?_
        go_wp2_with fail
        refine (hT _).mono ?_
        rintro e w6 ⟨rfl, hbn⟩
        rename_i K hK
        refine hK _ _ ?_
        replace P := P.keep hbn
        clear hbn
        refine st34 P.2.2.2.1 (ll_dl _) rfl rfl rfl rfl ?_
        replace P := P.set (n / 2 ^ j)
        generalize w6.setCells O 0 (dl (n / 2 ^ j)) = w7 at P ⊢
        go_wp2
        go_roundw
        case rel =>
          rcases j with _ | j
          · right; exact ⟨by go_num, by rw [Nat.pow_zero, Nat.div_one] at P; exact P⟩
          · left; exact ⟨j, by go_num, by omega, P⟩
        case measure => simp [intOf]
      · rw [hp] at hba
        rw [hq] at hbb
        rw [hp, hq] at hs
        replace hs : n / 2 ^ j % 2 = 1 := hs
        have hT := twice (n / 2 ^ (j + 1)) 1 (by decide)
        rw [Nat.mod_eq_of_lt (show n / 2 ^ (j + 1) + n / 2 ^ (j + 1) < MM by omega), show n / 2 ^ (j + 1) + n / 2 ^ (j + 1) + 1 = n / 2 ^ j by omega] at hT
        refine wp_region_list ?_
        refine ld34 P.2.1 hLa rfl rfl rfl ?_
        go_wp2_with fail
        refine (hba _).mono ?_
        rintro e w4 ⟨rfl, hbn⟩
        replace P := P.keep hbn
        clear hbn
        go_upto_region 8 with fail
        refine wp_region_list ?_
        refine ld34 P.2.2.1 hLb rfl rfl rfl ?_
        go_wp2_with fail
        refine (hbb _).mono ?_
        rintro e w5 ⟨rfl, hbn⟩
        replace P := P.keep hbn
        clear hbn
        go_upto_region 17 with fail
        refine wp_region_list ?_
        refine ld34 P.2.2.2.1 (ll_dl _) rfl rfl rfl ?_
        go_wp2_with fail
        refine (hT _).mono ?_
        rintro e w6 ⟨rfl, hbn⟩
        rename_i K hK
        refine hK _ _ ?_
        replace P := P.keep hbn
        clear hbn
        refine st34 P.2.2.2.1 (ll_dl _) rfl rfl rfl rfl ?_
        replace P := P.set (n / 2 ^ j)
        generalize w6.setCells O 0 (dl (n / 2 ^ j)) = w7 at P ⊢
        go_wp2
        go_roundw
        case rel =>
          rcases j with _ | j
          · right; exact ⟨by go_num, by rw [Nat.pow_zero, Nat.div_one] at P; exact P⟩
          · left; exact ⟨j, by go_num, by omega, P⟩
        case measure => simp [intOf]
      · rw [hp] at hba
        rw [hq] at hbb
        rw [hp, hq] at hs
        replace hs : n / 2 ^ j % 2 = 1 := hs
        have hT := twice (n / 2 ^ (j + 1)) 1 (by decide)
        rw [Nat.mod_eq_of_lt (show n / 2 ^ (j + 1) + n / 2 ^ (j + 1) < MM by omega), show n / 2 ^ (j + 1) + n / 2 ^ (j + 1) + 1 = n / 2 ^ j by omega] at hT
        refine wp_region_list ?_
        refine ld34 P.2.1 hLa rfl rfl rfl ?_
        go_wp2_with fail
        refine (hba _).mono ?_
        rintro e w4 ⟨rfl, hbn⟩
        replace P := P.keep hbn
        clear hbn
        go_upto_region 8 with fail
        refine wp_region_list ?_
        refine ld34 P.2.2.1 hLb rfl rfl rfl ?_
        go_wp2_with fail
        refine (hbb _).mono ?_
        rintro e w5 ⟨rfl, hbn⟩
        replace P := P.keep hbn
        clear hbn
        go_upto_region 17 with fail
        refine wp_region_list ?_
        refine ld34 P.2.2.2.1 (ll_dl _) rfl rfl rfl ?_
        go_wp2_with fail
        refine (hT _).mono ?_
        rintro e w6 ⟨rfl, hbn⟩
        rename_i K hK
        refine hK _ _ ?_
        replace P := P.keep hbn
        clear hbn
        refine st34 P.2.2.2.1 (ll_dl _) rfl rfl rfl rfl ?_
        replace P := P.set (n / 2 ^ j)
        generalize w6.setCells O 0 (dl (n / 2 ^ j)) = w7 at P ⊢
        go_wp2
        go_roundw
        case rel =>
          rcases j with _ | j
          · right; exact ⟨by go_num, by rw [Nat.pow_zero, Nat.div_one] at P; exact P⟩
          · left; exact ⟨j, by go_num, by omega, P⟩
        case measure => simp [intOf]
      · rw [hp] at hba
        rw [hq] at hbb
        rw [hp, hq] at hs
        replace hs : n / 2 ^ j % 2 = 0 := hs
        have hT := twice (n / 2 ^ (j + 1)) 0 (by decide)
        rw [Nat.mod_eq_of_lt (show n / 2 ^ (j + 1) + n / 2 ^ (j + 1) < MM by omega), show n / 2 ^ (j + 1) + n / 2 ^ (j + 1) + 0 = n / 2 ^ j by omega] at hT
        refine wp_region_list ?_
        refine ld34 P.2.1 hLa rfl rfl rfl ?_
        go_wp2_with fail
        refine (hba _).mono ?_
        rintro e w4 ⟨rfl, hbn⟩
        replace P := P.keep hbn
        clear hbn
        go_upto_region 8 with fail
        refine wp_region_list ?_
        refine ld34 P.2.2.1 hLb rfl rfl rfl ?_
        go_wp2_with fail
        refine (hbb _).mono ?_
        rintro e w5 ⟨rfl, hbn⟩
        replace P := P.keep hbn
        clear hbn
        go_upto_region 17 with fail
        refine wp_region_list ?_
        refine ld34 P.2.2.2.1 (ll_dl _) rfl rfl rfl ?_
        go_wp2_with fail
        refine (hT _).mono ?_
        rintro e w6 ⟨rfl, hbn⟩
        rename_i K hK
        refine hK _ _ ?_
        replace P := P.keep hbn
        clear hbn
        refine st34 P.2.2.2.1 (ll_dl _) rfl rfl rfl rfl ?_
        replace P := P.set (n / 2 ^ j)
        generalize w6.setCells O 0 (dl (n / 2 ^ j)) = w7 at P ⊢
        go_wp2
        go_roundw
        case rel =>
          rcases j with _ | j
          · right; exact ⟨by go_num, by rw [Nat.pow_zero, Nat.div_one] at P; exact P⟩
          · left; exact ⟨j, by go_num, by omega, P⟩
        case measure => simp [intOf]
    · obtain ⟨hB, h1, h2, h3, C, z1, z2, z3⟩ := id P
      go_upto_region 18 with fail
      refine wp_region_list ?_
      refine ld34 h3 (ll_dl _) rfl rfl rfl ?_
      go_wp2_with fail
      refine (wordL n _).mono ?_
      rintro e w4 ⟨rfl, hbn⟩
      obtain ⟨y0, y1, y2, y3, y4, y5, y6, y7⟩ := (P.keep hbn).2.2.2.2.1
      replace hB := (P.keep hbn).1
      clear hbn
      go_wp2
      simp [bodyPost, results, Try.results24, go_sem, y0, y1, y2, y3]
      exact set4_below (b := w.heap.size + 1 + 1) hB (by omega) _

set_option maxHeartbeats 4000000 in
theorem rbit_21 (a b : Nat) (ha : a < M) (hb : b < M) (w : World) :
    Calls Try.prog 24 #[.int .u8 21, wd a, wd b] w fun e w' => e = .returned (wd ((M - 1 - a) % M)) ∧ Below w.heap.size w w' := by
  have hbt : ∀ j, j < 256 → (M - 1 - a) / 2 ^ j % 2 = 1 - a / 2 ^ j % 2 := fun j hj => bit_not a j ha hj
  have hnl : M - 1 - a < M := by omega
  generalize M - 1 - a = n at hbt hnl ⊢
  go_enter Try.func24, Try.ntmps24
  go_wp2_with fail
  have hB : Below w.heap.size w (((w.alloc (.cells #[.int .u64 (lim a 0), .int .u64 (lim a 1), .int .u64 (lim a 2), .int .u64 (lim a 3)] 24)).alloc (.cells #[.int .u64 (lim b 0), .int .u64 (lim b 1), .int .u64 (lim b 2), .int .u64 (lim b 3)] 24)).alloc (.cells #[.int .u64 0, .int .u64 0, .int .u64 0, .int .u64 0] 24)) := below3 w _ _ _
  have Cb : Eq4 (((w.alloc (.cells #[.int .u64 (lim a 0), .int .u64 (lim a 1), .int .u64 (lim a 2), .int .u64 (lim a 3)] 24)).alloc (.cells #[.int .u64 (lim b 0), .int .u64 (lim b 1), .int .u64 (lim b 2), .int .u64 (lim b 3)] 24)).alloc (.cells #[.int .u64 0, .int .u64 0, .int .u64 0, .int .u64 0] 24)) (w.heap.size + 1) b := by refine ⟨?_, ?_, ?_, ?_⟩ <;> simp [go_sem]
  have C : Cells4 (((w.alloc (.cells #[.int .u64 (lim a 0), .int .u64 (lim a 1), .int .u64 (lim a 2), .int .u64 (lim a 3)] 24)).alloc (.cells #[.int .u64 (lim b 0), .int .u64 (lim b 1), .int .u64 (lim b 2), .int .u64 (lim b 3)] 24)).alloc (.cells #[.int .u64 0, .int .u64 0, .int .u64 0, .int .u64 0] 24)) (w.heap.size + 1 + 1) 0 := by refine ⟨?_, ?_, ?_, ?_, ?_, ?_, ?_, ?_⟩ <;> simp [go_sem, lim_z]
  have hz : w.heap.size + 1 + 1 < (((w.alloc (.cells #[.int .u64 (lim a 0), .int .u64 (lim a 1), .int .u64 (lim a 2), .int .u64 (lim a 3)] 24)).alloc (.cells #[.int .u64 (lim b 0), .int .u64 (lim b 1), .int .u64 (lim b 2), .int .u64 (lim b 3)] 24)).alloc (.cells #[.int .u64 0, .int .u64 0, .int .u64 0, .int .u64 0] 24)).heap.size := by simp
  generalize ((w.alloc (.cells #[.int .u64 (lim a 0), .int .u64 (lim a 1), .int .u64 (lim a 2), .int .u64 (lim a 3)] 24)).alloc (.cells #[.int .u64 (lim b 0), .int .u64 (lim b 1), .int .u64 (lim b 2), .int .u64 (lim b 3)] 24)).alloc (.cells #[.int .u64 0, .int .u64 0, .int .u64 0, .int .u64 0] 24) = W0 at hB Cb C hz ⊢
  refine (spreadL a ha _).mono ?_
  rintro e w1 ⟨rfl, hb1⟩
  replace hB := hB.trans (hb1.mono hB.size)
  replace Cb := Eq4.keep Cb hb1 (by omega)
  replace C := C.below hb1 (by omega)
  replace hz := Nat.lt_of_lt_of_le hz hb1.size
  clear hb1
  have hLa := ll_dl a
  have hLb := ll_dl b
  have hlen := hLa.len
  have hsc := sc34 w1 hLa
  go_upto_region 2 with fail
  have hbn : Below w1.heap.size w1 (w1.alloc (.cells (dl a).toArray 34)) := (Below.refl _ _).alloc (Nat.le_refl _) _
  replace hB := hB.trans (hbn.mono hB.size)
  replace Cb := Eq4.keep Cb hbn (by omega)
  replace C := C.below hbn (by omega)
  have La := lh_new w1 hLa
  clear hsc hlen hbn
  generalize w1.alloc (.cells (dl a).toArray 34) = W1 at hB Cb C La ⊢
  obtain ⟨k0, k1, k2, k3⟩ := Cb
  go_wp2_with fail
  clear k0 k1 k2 k3
  refine (spreadL b hb _).mono ?_
  rintro e w2 ⟨rfl, hb1⟩
  have hz1 := La.z
  replace hB := hB.trans (hb1.mono hB.size)
  replace C := C.below hb1 (by omega)
  replace La := La.below hb1
  clear hb1
  have hlen := hLb.len
  have hsc := sc34 w2 hLb
  go_upto_region 3 with fail
  have hbn : Below w2.heap.size w2 (w2.alloc (.cells (dl b).toArray 34)) := (Below.refl _ _).alloc (Nat.le_refl _) _
  have hz2 := La.z
  replace hB := hB.trans (hbn.mono hB.size)
  replace C := C.below hbn (by omega)
  replace La := La.below hbn
  have Lb := lh_new w2 hLb
  clear hsc hlen hbn
  generalize w2.alloc (.cells (dl b).toArray 34) = W2 at hB C La Lb ⊢
  go_wp2
  have P : BF w (W2.alloc (.cells #[.int .u64 0, .int .u64 0, .int .u64 0, .int .u64 0, .int .u64 0, .int .u64 0, .int .u64 0, .int .u64 0, .int .u64 0, .int .u64 0, .int .u64 0, .int .u64 0, .int .u64 0, .int .u64 0, .int .u64 0, .int .u64 0] 34)) w1.heap.size w2.heap.size W2.heap.size a b 0 := by
    have hbn : Below W2.heap.size W2 (W2.alloc (.cells #[.int .u64 0, .int .u64 0, .int .u64 0, .int .u64 0, .int .u64 0, .int .u64 0, .int .u64 0, .int .u64 0, .int .u64 0, .int .u64 0, .int .u64 0, .int .u64 0, .int .u64 0, .int .u64 0, .int .u64 0, .int .u64 0] 34)) := (Below.refl _ _).alloc (Nat.le_refl _) _
    have hz3 := Lb.z
    exact ⟨hB.trans (hbn.mono hB.size), La.below hbn, Lb.below hbn, lh_new0 W2, C.below hbn (by omega), hz, hz2, hz3⟩
  clear hB C La Lb hz hz1 hz2
  generalize W2.alloc (.cells #[.int .u64 0, .int .u64 0, .int .u64 0, .int .u64 0, .int .u64 0, .int .u64 0, .int .u64 0, .int .u64 0, .int .u64 0, .int .u64 0, .int .u64 0, .int .u64 0, .int .u64 0, .int .u64 0, .int .u64 0, .int .u64 0] 34) = W3 at P ⊢
  generalize w1.heap.size = X at P ⊢
  generalize w2.heap.size = Y at P ⊢
  generalize W2.heap.size = O at P ⊢
  go_loopw [10] (fun i wr => ((∃ j : Nat, i = .int .i64 j ∧ j < 256 ∧ BF w wr X Y O a b (n / 2 ^ (j + 1))) ∨ (i = .int .i64 (-1) ∧ BF w wr X Y O a b n))) (fun i _ => (intOf i + 1).toNat)
  case atStart =>
    refine .inl ⟨255, rfl, by decide, ?_⟩
    rw [Nat.div_eq_of_lt (show n < 2 ^ (255 + 1) from M_two' ▸ hnl)]
    exact P
  case round =>
    clear P
    rcases hrel with ⟨j, rfl, hj, P⟩ | ⟨rfl, P⟩
    · have hj' : (0 : Int) ≤ j := by omega
      have hM : M + M < MM := by decide
      have h2 : n / 2 ^ j / 2 = n / 2 ^ (j + 1) := by rw [Nat.div_div_eq_div_mul, Nat.pow_succ]
      have h3 := Nat.div_le_self n (2 ^ (j + 1))
      have hs := hbt j hj
      have hba := lbitL a j (by omega)
      have hbb := lbitL b j (by omega)
      have hp : a / 2 ^ j % 2 = 0 ∨ a / 2 ^ j % 2 = 1 := by omega
      have hq : b / 2 ^ j % 2 = 0 ∨ b / 2 ^ j % 2 = 1 := by omega
      clear hbt
      go_upto_region 7 with fail
      rcases hp with hp | hp <;> rcases hq with hq | hq
      · rw [hp] at hba
        rw [hq] at hbb
        rw [hp] at hs
        replace hs : n / 2 ^ j % 2 = 1 := hs
        have hT := twice (n / 2 ^ (j + 1)) 1 (by decide)
        rw [Nat.mod_eq_of_lt (show n / 2 ^ (j + 1) + n / 2 ^ (j + 1) < MM by omega), show n / 2 ^ (j + 1) + n / 2 ^ (j + 1) + 1 = n / 2 ^ j by omega] at hT
        refine wp_region_list ?_
        refine ld34 P.2.1 hLa rfl rfl rfl ?_
        go_wp2_with fail
        refine (hba _).mono ?_
        rintro e w4 ⟨rfl, hbn⟩
        replace P := P.keep hbn
        clear hbn
        go_upto_region 8 with fail
        refine wp_region_list ?_
        refine ld34 P.2.2.1 hLb rfl rfl rfl ?_
        go_wp2_with fail
        refine (hbb _).mono ?_
        rintro e w5 ⟨rfl, hbn⟩
        replace P := P.keep hbn
        clear hbn
        go_upto_region 17 with fail
        refine wp_region_list ?_
        refine ld34 P.2.2.2.1 (ll_dl _) rfl rfl rfl ?_
        go_wp2_with fail
        refine (hT _).mono ?_
        rintro e w6 ⟨rfl, hbn⟩
        rename_i K hK
        refine hK _ _ ?_
        replace P := P.keep hbn
        clear hbn
        refine st34 P.2.2.2.1 (ll_dl _) rfl rfl rfl rfl ?_
        replace P := P.set (n / 2 ^ j)
        generalize w6.setCells O 0 (dl (n / 2 ^ j)) = w7 at P ⊢
        go_wp2
        go_roundw
        case rel =>
          rcases j with _ | j
          · right; exact ⟨by go_num, by rw [Nat.pow_zero, Nat.div_one] at P; exact P⟩
          · left; exact ⟨j, by go_num, by omega, P⟩
        case measure => simp [intOf]
      · rw [hp] at hba
        rw [hq] at hbb
        rw [hp] at hs
        replace hs : n / 2 ^ j % 2 = 1 := hs
        have hT := twice (n / 2 ^ (j + 1)) 1 (by decide)
        rw [Nat.mod_eq_of_lt (show n / 2 ^ (j + 1) + n / 2 ^ (j + 1) < MM by omega), show n / 2 ^ (j + 1) + n / 2 ^ (j + 1) + 1 = n / 2 ^ j by omega] at hT
        refine wp_region_list ?_
        refine ld34 P.2.1 hLa rfl rfl rfl ?_
        go_wp2_with fail
        refine (hba _).mono ?_
        rintro e w4 ⟨rfl, hbn⟩
        replace P := P.keep hbn
        clear hbn
        go_upto_region 8 with fail
        refine wp_region_list ?_
        refine ld34 P.2.2.1 hLb rfl rfl rfl ?_
        go_wp2_with fail
        refine (hbb _).mono ?_
        rintro e w5 ⟨rfl, hbn⟩
        replace P := P.keep hbn
        clear hbn
        go_upto_region 17 with fail
        refine wp_region_list ?_
        refine ld34 P.2.2.2.1 (ll_dl _) rfl rfl rfl ?_
        go_wp2_with fail
        refine (hT _).mono ?_
        rintro e w6 ⟨rfl, hbn⟩
        rename_i K hK
        refine hK _ _ ?_
        replace P := P.keep hbn
        clear hbn
        refine st34 P.2.2.2.1 (ll_dl _) rfl rfl rfl rfl ?_
        replace P := P.set (n / 2 ^ j)
        generalize w6.setCells O 0 (dl (n / 2 ^ j)) = w7 at P ⊢
        go_wp2
        go_roundw
        case rel =>
          rcases j with _ | j
          · right; exact ⟨by go_num, by rw [Nat.pow_zero, Nat.div_one] at P; exact P⟩
          · left; exact ⟨j, by go_num, by omega, P⟩
        case measure => simp [intOf]
      · rw [hp] at hba
        rw [hq] at hbb
        rw [hp] at hs
        replace hs : n / 2 ^ j % 2 = 0 := hs
        have hT := twice (n / 2 ^ (j + 1)) 0 (by decide)
        rw [Nat.mod_eq_of_lt (show n / 2 ^ (j + 1) + n / 2 ^ (j + 1) < MM by omega), show n / 2 ^ (j + 1) + n / 2 ^ (j + 1) + 0 = n / 2 ^ j by omega] at hT
        refine wp_region_list ?_
        refine ld34 P.2.1 hLa rfl rfl rfl ?_
        go_wp2_with fail
        refine (hba _).mono ?_
        rintro e w4 ⟨rfl, hbn⟩
        replace P := P.keep hbn
        clear hbn
        go_upto_region 8 with fail
        refine wp_region_list ?_
        refine ld34 P.2.2.1 hLb rfl rfl rfl ?_
        go_wp2_with fail
        refine (hbb _).mono ?_
        rintro e w5 ⟨rfl, hbn⟩
        replace P := P.keep hbn
        clear hbn
        go_upto_region 17 with fail
        refine wp_region_list ?_
        refine ld34 P.2.2.2.1 (ll_dl _) rfl rfl rfl ?_
        go_wp2_with fail
        refine (hT _).mono ?_
        rintro e w6 ⟨rfl, hbn⟩
        rename_i K hK
        refine hK _ _ ?_
        replace P := P.keep hbn
        clear hbn
        refine st34 P.2.2.2.1 (ll_dl _) rfl rfl rfl rfl ?_
        replace P := P.set (n / 2 ^ j)
        generalize w6.setCells O 0 (dl (n / 2 ^ j)) = w7 at P ⊢
        go_wp2
        go_roundw
        case rel =>
          rcases j with _ | j
          · right; exact ⟨by go_num, by rw [Nat.pow_zero, Nat.div_one] at P; exact P⟩
          · left; exact ⟨j, by go_num, by omega, P⟩
        case measure => simp [intOf]
      · rw [hp] at hba
        rw [hq] at hbb
        rw [hp] at hs
        replace hs : n / 2 ^ j % 2 = 0 := hs
        have hT := twice (n / 2 ^ (j + 1)) 0 (by decide)
        rw [Nat.mod_eq_of_lt (show n / 2 ^ (j + 1) + n / 2 ^ (j + 1) < MM by omega), show n / 2 ^ (j + 1) + n / 2 ^ (j + 1) + 0 = n / 2 ^ j by omega] at hT
        refine wp_region_list ?_
        refine ld34 P.2.1 hLa rfl rfl rfl ?_
        go_wp2_with fail
        refine (hba _).mono ?_
        rintro e w4 ⟨rfl, hbn⟩
        replace P := P.keep hbn
        clear hbn
        go_upto_region 8 with fail
        refine wp_region_list ?_
        refine ld34 P.2.2.1 hLb rfl rfl rfl ?_
        go_wp2_with fail
        refine (hbb _).mono ?_
        rintro e w5 ⟨rfl, hbn⟩
        replace P := P.keep hbn
        clear hbn
        go_upto_region 17 with fail
        refine wp_region_list ?_
        refine ld34 P.2.2.2.1 (ll_dl _) rfl rfl rfl ?_
        go_wp2_with fail
        refine (hT _).mono ?_
        rintro e w6 ⟨rfl, hbn⟩
        rename_i K hK
        refine hK _ _ ?_
        replace P := P.keep hbn
        clear hbn
        refine st34 P.2.2.2.1 (ll_dl _) rfl rfl rfl rfl ?_
        replace P := P.set (n / 2 ^ j)
        generalize w6.setCells O 0 (dl (n / 2 ^ j)) = w7 at P ⊢
        go_wp2
        go_roundw
        case rel =>
          rcases j with _ | j
          · right; exact ⟨by go_num, by rw [Nat.pow_zero, Nat.div_one] at P; exact P⟩
          · left; exact ⟨j, by go_num, by omega, P⟩
        case measure => simp [intOf]
    · obtain ⟨hB, h1, h2, h3, C, z1, z2, z3⟩ := id P
      go_upto_region 18 with fail
      refine wp_region_list ?_
      refine ld34 h3 (ll_dl _) rfl rfl rfl ?_
      go_wp2_with fail
      refine (wordL n _).mono ?_
      rintro e w4 ⟨rfl, hbn⟩
      obtain ⟨y0, y1, y2, y3, y4, y5, y6, y7⟩ := (P.keep hbn).2.2.2.2.1
      replace hB := (P.keep hbn).1
      clear hbn
      go_wp2
      simp [bodyPost, results, Try.results24, go_sem, y0, y1, y2, y3]
      exact set4_below (b := w.heap.size + 1 + 1) hB (by omega) _

end Go.Proofs.Ytbephahokhnccaa
