/-
  purserref.power: what it returns.
  purserref: add, sub, less, negative, opposite, sizeOf, truth: what they return.
-/
import Derived.Test.YtbephahokhnccaaL5
import Derived.Test.YtbephahokhnccaaJ15
namespace Go.Proofs.Ytbephahokhnccaa
open Go.RowKit Go.Shelf
attribute [local go_sem] wd

/-- What power holds. -/
abbrev PF (w W : World) (B6 a b n : Nat) : Prop := Below w.heap.size w W ∧ Cells4 W w.heap.size a ∧ Cells4 W (w.heap.size + 1 + 1) 0 ∧ Cells4 W (w.heap.size + 1 + 1 + 1) n ∧ LH W B6 (dl b) ∧ w.heap.size + 1 + 1 + 1 < B6
theorem PF.keep {w W W' : World} {B6 a b n : Nat} (h : PF w W B6 a b n) (hb : Below W.heap.size W W') : PF w W' B6 a b n := by
  obtain ⟨hB, C2, C4, C5, Lb, hz⟩ := h
  have hs := Lb.z
  exact ⟨hB.trans (hb.mono hB.size), C2.below hb (by omega), C4.below hb (by omega), C5.below hb (by omega), Lb.below hb, hz⟩
theorem PF.set {w W : World} {B6 a b n : Nat} (h : PF w W B6 a b n) (m : Nat) : PF w (set4 W (w.heap.size + 1 + 1 + 1) m) B6 a b m := by
  obtain ⟨hB, C2, C4, C5, Lb, hz⟩ := h
  exact ⟨set4_below hB (by omega) m, C2.other (by omega) m, C4.other (by omega) m, C5.set m, Lb.set4 (by omega) m, hz⟩
theorem M_two' : M = 2 ^ (255 + 1) := by decide
theorem pow_step (a e f t : Nat) (h : f = e + e + t) : a ^ f % M = (a ^ e % M) * (a ^ e % M) % M * a ^ t % M := by
  subst h
  rw [Nat.pow_add, Nat.pow_add, Nat.mul_mod (a ^ e * a ^ e), Nat.mul_mod (a ^ e)]
  rw [Nat.mul_mod (a ^ e % M * (a ^ e % M) % M) (a ^ t), Nat.mod_mod]

set_option maxHeartbeats 4000000 in
theorem rpower (a b : Nat) (ha : a < M) (hb : b < M) (w : World) :
    Calls Try.prog 21 #[wd a, wd b] w fun e w' => e = .returned (wd (a ^ b % M)) ∧ Below w.heap.size w w' := by
  go_enter Try.func21, Try.ntmps21
  go_wp2_with fail
  have hB : Below w.heap.size w ((((w.alloc (.cells #[.int .u64 (lim a 0), .int .u64 (lim a 1), .int .u64 (lim a 2), .int .u64 (lim a 3)] 24)).alloc (.cells #[.int .u64 (lim b 0), .int .u64 (lim b 1), .int .u64 (lim b 2), .int .u64 (lim b 3)] 24)).alloc (.cells #[.int .u64 0, .int .u64 0, .int .u64 0, .int .u64 0] 24)).alloc (.cells #[.int .u64 1, .int .u64 0, .int .u64 0, .int .u64 0] 24)) := below4 w _ _ _ _
  have C2 : Cells4 ((((w.alloc (.cells #[.int .u64 (lim a 0), .int .u64 (lim a 1), .int .u64 (lim a 2), .int .u64 (lim a 3)] 24)).alloc (.cells #[.int .u64 (lim b 0), .int .u64 (lim b 1), .int .u64 (lim b 2), .int .u64 (lim b 3)] 24)).alloc (.cells #[.int .u64 0, .int .u64 0, .int .u64 0, .int .u64 0] 24)).alloc (.cells #[.int .u64 1, .int .u64 0, .int .u64 0, .int .u64 0] 24)) w.heap.size a := by refine ⟨?_, ?_, ?_, ?_, ?_, ?_, ?_, ?_⟩ <;> simp [go_sem]
  have C4 : Cells4 ((((w.alloc (.cells #[.int .u64 (lim a 0), .int .u64 (lim a 1), .int .u64 (lim a 2), .int .u64 (lim a 3)] 24)).alloc (.cells #[.int .u64 (lim b 0), .int .u64 (lim b 1), .int .u64 (lim b 2), .int .u64 (lim b 3)] 24)).alloc (.cells #[.int .u64 0, .int .u64 0, .int .u64 0, .int .u64 0] 24)).alloc (.cells #[.int .u64 1, .int .u64 0, .int .u64 0, .int .u64 0] 24)) (w.heap.size + 1 + 1) 0 := by refine ⟨?_, ?_, ?_, ?_, ?_, ?_, ?_, ?_⟩ <;> simp [go_sem, lim_z]
  have C5 : Cells4 ((((w.alloc (.cells #[.int .u64 (lim a 0), .int .u64 (lim a 1), .int .u64 (lim a 2), .int .u64 (lim a 3)] 24)).alloc (.cells #[.int .u64 (lim b 0), .int .u64 (lim b 1), .int .u64 (lim b 2), .int .u64 (lim b 3)] 24)).alloc (.cells #[.int .u64 0, .int .u64 0, .int .u64 0, .int .u64 0] 24)).alloc (.cells #[.int .u64 1, .int .u64 0, .int .u64 0, .int .u64 0] 24)) (w.heap.size + 1 + 1 + 1) 1 := by refine ⟨?_, ?_, ?_, ?_, ?_, ?_, ?_, ?_⟩ <;> simp [go_sem, lim1_0, lim1_1, lim1_2, lim1_3]
  have hz : w.heap.size + 1 + 1 + 1 < ((((w.alloc (.cells #[.int .u64 (lim a 0), .int .u64 (lim a 1), .int .u64 (lim a 2), .int .u64 (lim a 3)] 24)).alloc (.cells #[.int .u64 (lim b 0), .int .u64 (lim b 1), .int .u64 (lim b 2), .int .u64 (lim b 3)] 24)).alloc (.cells #[.int .u64 0, .int .u64 0, .int .u64 0, .int .u64 0] 24)).alloc (.cells #[.int .u64 1, .int .u64 0, .int .u64 0, .int .u64 0] 24)).heap.size := by simp
  generalize (((w.alloc (.cells #[.int .u64 (lim a 0), .int .u64 (lim a 1), .int .u64 (lim a 2), .int .u64 (lim a 3)] 24)).alloc (.cells #[.int .u64 (lim b 0), .int .u64 (lim b 1), .int .u64 (lim b 2), .int .u64 (lim b 3)] 24)).alloc (.cells #[.int .u64 0, .int .u64 0, .int .u64 0, .int .u64 0] 24)).alloc (.cells #[.int .u64 1, .int .u64 0, .int .u64 0, .int .u64 0] 24) = W0 at hB C2 C4 C5 hz ⊢
  refine (spreadL b hb _).mono ?_
  rintro e w1 ⟨rfl, hb1⟩
  replace hB := hB.trans (hb1.mono hB.size)
  replace C2 := C2.below hb1 (by omega)
  replace C4 := C4.below hb1 (by omega)
  replace C5 := C5.below hb1 (by omega)
  replace hz := Nat.lt_of_lt_of_le hz hb1.size
  clear hb1
  have hLb := ll_dl b
  have hlen := hLb.len
  have hsc := sc34 w1 hLb
  go_upto_region 3 with fail
  have hbn : Below w1.heap.size w1 (w1.alloc (.cells (dl b).toArray 34)) := (Below.refl _ _).alloc (Nat.le_refl _) _
  have P : PF w (w1.alloc (.cells (dl b).toArray 34)) w1.heap.size a b 1 := ⟨hB.trans (hbn.mono hB.size), C2.below hbn (by omega), C4.below hbn (by omega), C5.below hbn (by omega), lh_new w1 hLb, hz⟩
  clear hsc hlen hB C2 C4 C5 hz hbn
  generalize w1.alloc (.cells (dl b).toArray 34) = W1 at P ⊢
  generalize w1.heap.size = B6 at P ⊢
  go_wp2
  go_loopw [7] (fun i wr => ((∃ j : Nat, i = .int .i64 j ∧ j < 256 ∧ PF w wr B6 a b (a ^ (b / 2 ^ (j + 1)) % M)) ∨ (i = .int .i64 (-1) ∧ PF w wr B6 a b (a ^ b % M)))) (fun i _ => (intOf i + 1).toNat)
  case atStart =>
    refine .inl ⟨255, rfl, by decide, ?_⟩
    rw [Nat.div_eq_of_lt (show b < 2 ^ (255 + 1) from M_two' ▸ hb), Nat.pow_zero]
    exact P
  case round =>
    clear P
    rcases hrel with ⟨j, rfl, hj, P⟩ | ⟨rfl, P⟩
    · have hj' : (0 : Int) ≤ j := by omega
      have hx : a ^ (b / 2 ^ (j + 1)) % M < M := Nat.mod_lt _ M_pos
      have hbit := lbitL b j (by omega)
      have hst := pow_step a (b / 2 ^ (j + 1)) (b / 2 ^ j) (b / 2 ^ j % 2) (by have : b / 2 ^ j / 2 = b / 2 ^ (j + 1) := by rw [Nat.div_div_eq_div_mul, Nat.pow_succ]
                                                                               omega)
      have e0 : b / 2 ^ 0 = b := by simp
      have ht : b / 2 ^ j % 2 = 0 ∨ b / 2 ^ j % 2 = 1 := by omega
      generalize a ^ (b / 2 ^ (j + 1)) % M = x at *
      obtain ⟨hB, C2, C4, C5, Lb, hz⟩ := id P
      obtain ⟨x0, x1, x2, x3, x4, x5, x6, x7⟩ := id C5
      go_wp2_with fail
      refine (times x x hx hx _).mono ?_
      rintro e w2 ⟨rfl, hbn⟩
      replace P := P.keep hbn
      clear hbn hB C2 C4 C5 Lb hz x0 x1 x2 x3 x4 x5 x6 x7
      go_wp2_with fail
      refine (wordL (x * x) _).mono ?_
      rintro e w3 ⟨rfl, hbn⟩
      replace P := P.keep hbn
      clear hbn
      obtain ⟨x0, x1, x2, x3, x4, x5, x6, x7⟩ := id P.2.2.2.1
      go_upto_region 7 with fail
      clear x0 x1 x2 x3 x4 x5 x6 x7
      replace P : PF w ((((w3.setCell ⟨w.heap.size + 1 + 1 + 1, 0, none⟩ (.int .u64 (lim (x * x % M) 0))).setCell ⟨w.heap.size + 1 + 1 + 1, 1, none⟩ (.int .u64 (lim (x * x % M) 1))).setCell ⟨w.heap.size + 1 + 1 + 1, 2, none⟩ (.int .u64 (lim (x * x % M) 2))).setCell ⟨w.heap.size + 1 + 1 + 1, 3, none⟩ (.int .u64 (lim (x * x % M) 3))) B6 a b (x * x % M) := P.set _
      generalize (((w3.setCell ⟨w.heap.size + 1 + 1 + 1, 0, none⟩ (.int .u64 (lim (x * x % M) 0))).setCell ⟨w.heap.size + 1 + 1 + 1, 1, none⟩ (.int .u64 (lim (x * x % M) 1))).setCell ⟨w.heap.size + 1 + 1 + 1, 2, none⟩ (.int .u64 (lim (x * x % M) 2))).setCell ⟨w.heap.size + 1 + 1 + 1, 3, none⟩ (.int .u64 (lim (x * x % M) 3)) = W3 at P ⊢
      replace hx : x * x % M < M := Nat.mod_lt _ M_pos
      generalize x * x % M = x at *
      refine wp_region_list ?_
      refine ld34 P.2.2.2.2.1 hLb rfl rfl rfl ?_
      go_wp2_with fail
      rcases ht with ht | ht
      · rw [ht] at hbit hst
        refine (hbit _).mono ?_
        rintro e w4 ⟨rfl, hbn⟩
        replace P := P.keep hbn
        clear hbn
        go_wp2
        go_roundw
        case rel =>
          rw [Nat.pow_zero, Nat.mul_one, Nat.mod_eq_of_lt hx] at hst
          rcases j with _ | j
          · right; exact ⟨by go_num, by rw [e0] at hst; rw [hst]; exact P⟩
          · left; exact ⟨j, by go_num, by omega, by rw [hst]; exact P⟩
        case measure => simp [intOf]
      · rw [ht] at hbit hst
        refine (hbit _).mono ?_
        rintro e w4 ⟨rfl, hbn⟩
        replace P := P.keep hbn
        clear hbn
        obtain ⟨hB, C2, C4, C5, Lb, hz⟩ := id P
        obtain ⟨x0, x1, x2, x3, x4, x5, x6, x7⟩ := id C5
        obtain ⟨y0, y1, y2, y3, -, -, -, -⟩ := id C2
        go_wp2_with fail
        refine (times x a hx ha _).mono ?_
        rintro e w5 ⟨rfl, hbn⟩
        replace P := P.keep hbn
        clear hbn hB C2 C4 C5 Lb hz x0 x1 x2 x3 x4 x5 x6 x7 y0 y1 y2 y3
        go_wp2_with fail
        refine (wordL (x * a) _).mono ?_
        rintro e w6 ⟨rfl, hbn⟩
        replace P := P.keep hbn
        clear hbn
        obtain ⟨x0, x1, x2, x3, x4, x5, x6, x7⟩ := id P.2.2.2.1
        go_wp2
        clear x0 x1 x2 x3 x4 x5 x6 x7
        replace P : PF w ((((w6.setCell ⟨w.heap.size + 1 + 1 + 1, 0, none⟩ (.int .u64 (lim (x * a % M) 0))).setCell ⟨w.heap.size + 1 + 1 + 1, 1, none⟩ (.int .u64 (lim (x * a % M) 1))).setCell ⟨w.heap.size + 1 + 1 + 1, 2, none⟩ (.int .u64 (lim (x * a % M) 2))).setCell ⟨w.heap.size + 1 + 1 + 1, 3, none⟩ (.int .u64 (lim (x * a % M) 3))) B6 a b (x * a % M) := P.set _
        go_roundw
        case rel =>
          rw [Nat.pow_one] at hst
          rcases j with _ | j
          · right; exact ⟨by go_num, by rw [e0] at hst; rw [hst]; exact P⟩
          · left; exact ⟨j, by go_num, by omega, by rw [hst]; exact P⟩
        case measure => simp [intOf]
    · obtain ⟨hB, C2, C4, C5, Lb, hz⟩ := P
      obtain ⟨x0, x1, x2, x3, -, -, -, -⟩ := C5
      obtain ⟨y0, y1, y2, y3, y4, y5, y6, y7⟩ := C4
      go_wp2
      simp [bodyPost, results, Try.results21, go_sem, y0, y1, y2, y3]
      exact set4_below hB (by omega) _

end Go.Proofs.Ytbephahokhnccaa

namespace Go.Proofs.Ytbephahokhnccaa
open Go.RowKit Go.Shelf
attribute [local go_sem] wd

/-- Two words that came in and the block of the answer. -/
abbrev S3 (w W : World) (a b : Nat) : Prop := Below w.heap.size w W ∧ Eq4 W w.heap.size a ∧ Eq4 W (w.heap.size + 1) b ∧ (∃ m, Cells4 W (w.heap.size + 1 + 1) m) ∧ w.heap.size + 1 + 1 < W.heap.size
theorem S3.keep {w W W' : World} {a b : Nat} (h : S3 w W a b) (hb : Below W.heap.size W W') : S3 w W' a b := by
  obtain ⟨hB, h1, h2, ⟨m, C⟩, hz⟩ := h
  exact ⟨hB.trans (hb.mono hB.size), Eq4.keep h1 hb (by omega), Eq4.keep h2 hb (by omega), ⟨m, C.below hb hz⟩, Nat.lt_of_lt_of_le hz hb.size⟩
theorem eq4_set {W : World} {b c n : Nat} (h : Eq4 W b n) (hne : b ≠ c) (m : Nat) : Eq4 (set4 W c m) b n := by
  obtain ⟨h0, h1, h2, h3⟩ := h
  refine ⟨?_, ?_, ?_, ?_⟩ <;> simp [go_sem, *]
theorem S3.set {w W : World} {a b : Nat} (h : S3 w W a b) (n : Nat) : S3 w (set4 W (w.heap.size + 1 + 1) n) a b := by
  obtain ⟨hB, h1, h2, ⟨m, C⟩, hz⟩ := h
  exact ⟨set4_below hB (by omega) n, eq4_set h1 (by omega) n, eq4_set h2 (by omega) n, ⟨n, C.set n⟩, by simpa using hz⟩
theorem s3_start (w : World) (a b : Nat) : S3 w (((w.alloc (.cells #[.int .u64 (lim a 0), .int .u64 (lim a 1), .int .u64 (lim a 2), .int .u64 (lim a 3)] 24)).alloc (.cells #[.int .u64 (lim b 0), .int .u64 (lim b 1), .int .u64 (lim b 2), .int .u64 (lim b 3)] 24)).alloc (.cells #[.int .u64 0, .int .u64 0, .int .u64 0, .int .u64 0] 24)) a b :=
  ⟨below3 w _ _ _, by refine ⟨?_, ?_, ?_, ?_⟩ <;> simp [go_sem], by refine ⟨?_, ?_, ?_, ?_⟩ <;> simp [go_sem], ⟨0, by refine ⟨?_, ?_, ?_, ?_, ?_, ?_, ?_, ?_⟩ <;> simp [go_sem, lim_z]⟩, by simp⟩

set_option maxHeartbeats 2000000 in
theorem radd (a b : Nat) (ha : a < M) (hb : b < M) (w : World) :
    Calls Try.prog 13 #[wd a, wd b] w fun e w' => e = .returned (wd ((a + b) % MM % M)) ∧ Below w.heap.size w w' := by
  have hM : M < MM := by decide
  have hS := s3_start w a b
  go_enter Try.func13, Try.ntmps13
  go_upto_region 1 with fail
  generalize ((w.alloc (.cells #[.int .u64 (lim a 0), .int .u64 (lim a 1), .int .u64 (lim a 2), .int .u64 (lim a 3)] 24)).alloc (.cells #[.int .u64 (lim b 0), .int .u64 (lim b 1), .int .u64 (lim b 2), .int .u64 (lim b 3)] 24)).alloc (.cells #[.int .u64 0, .int .u64 0, .int .u64 0, .int .u64 0] 24) = W0 at hS ⊢
  refine wp_region_held_drew (S := fun W => S3 w W a b) (by kernel_rfl) (hS.keep (Below.refl _ _).drew) (fun hH => ?_)
  clear hS
  refine take_d (i := 0) (d := some 5) (v := .agg #[.int .u64 (lim a 0), .int .u64 (lim a 1), .int .u64 (lim a 2), .int .u64 (lim a 3)]) rfl rfl (by kernel_rfl) (by kernel_rfl) (by kernel_rfl) (fun _ _ _ h => h) (Or.inl ⟨by rfl, fun W hW => ?_⟩) hH ?_
  · obtain ⟨k0, k1, k2, k3⟩ := hW.2.1
    clear hW hH
    go_simp
  simp only [Act.put, List.setIfInBounds_toArray, List.set_cons_zero, List.set_cons_succ]
  refine take_d (i := 2) (d := some 7) (v := .agg #[.int .u64 (lim b 0), .int .u64 (lim b 1), .int .u64 (lim b 2), .int .u64 (lim b 3)]) rfl rfl (by kernel_rfl) (by kernel_rfl) (by kernel_rfl) (fun _ _ _ h => h) (Or.inl ⟨by rfl, fun W hW => ?_⟩) hH ?_
  · obtain ⟨k0, k1, k2, k3⟩ := hW.2.2.1
    clear hW hH
    go_simp
  simp only [Act.put, List.setIfInBounds_toArray, List.set_cons_zero, List.set_cons_succ]
  refine wpAnyH_ready (rs := [1]) (by kernel_rfl) (by simp) ?_
  refine AllReadyH.cons rfl (fun K hK => ?_) AllReadyH.nil
  go_simp
  refine (spreadL a ha _).mono ?_
  rintro e wA ⟨rfl, hbn⟩
  go_wp2_with fail
  refine hK.out _ _ (hH.keep hbn) (fun hH => ?_)
  clear hbn hK K
  refine wpAnyH_ready (rs := [3]) (by kernel_rfl) (by simp) ?_
  refine AllReadyH.cons rfl (fun K hK => ?_) AllReadyH.nil
  go_simp
  refine (spreadL b hb _).mono ?_
  rintro e wB ⟨rfl, hbn⟩
  go_wp2_with fail
  refine hK.out _ _ (hH.keep hbn) (fun hH => ?_)
  clear hbn hK K
  refine wpAnyH_ready (rs := [4]) (by kernel_rfl) (by simp) ?_
  refine AllReadyH.cons rfl (fun K hK => ?_) AllReadyH.nil
  go_simp
  refine (plus a b _).mono ?_
  rintro e wC ⟨rfl, hbn⟩
  go_wp2_with fail
  refine hK.out _ _ (hH.keep hbn) (fun hH => ?_)
  clear hbn hK K
  refine wpAnyH_ready (rs := [5]) (by kernel_rfl) (by simp) ?_
  refine AllReadyH.cons rfl (fun K hK => ?_) AllReadyH.nil
  go_simp
  refine (wordL ((a + b) % MM) _).mono ?_
  rintro e wE ⟨rfl, hbn⟩
  go_wp2_with fail
  refine hK.out _ _ (hH.keep hbn) (fun hH => ?_)
  clear hbn hK K
  refine wpAnyH_ready (rs := [6]) (by kernel_rfl) (by simp) ?_
  refine AllReadyH.cons rfl (fun K hK => ?_) AllReadyH.nil
  have hS0 := hH
  obtain ⟨m, C⟩ := hH.2.2.2.1
  obtain ⟨x0, x1, x2, x3, x4, x5, x6, x7⟩ := id C
  go_simp
  clear x0 x1 x2 x3 x4 x5 x6 x7
  have E : Cells4 ((((wE.setCell ⟨w.heap.size + 1 + 1, 0, none⟩ (.int .u64 (lim ((a + b) % MM % M) 0))).setCell ⟨w.heap.size + 1 + 1, 1, none⟩ (.int .u64 (lim ((a + b) % MM % M) 1))).setCell ⟨w.heap.size + 1 + 1, 2, none⟩ (.int .u64 (lim ((a + b) % MM % M) 2))).setCell ⟨w.heap.size + 1 + 1, 3, none⟩ (.int .u64 (lim ((a + b) % MM % M) 3))) (w.heap.size + 1 + 1) ((a + b) % MM % M) := C.set ((a + b) % MM % M)
  have G : S3 w ((((wE.setCell ⟨w.heap.size + 1 + 1, 0, none⟩ (.int .u64 (lim ((a + b) % MM % M) 0))).setCell ⟨w.heap.size + 1 + 1, 1, none⟩ (.int .u64 (lim ((a + b) % MM % M) 1))).setCell ⟨w.heap.size + 1 + 1, 2, none⟩ (.int .u64 (lim ((a + b) % MM % M) 2))).setCell ⟨w.heap.size + 1 + 1, 3, none⟩ (.int .u64 (lim ((a + b) % MM % M) 3))) a b := hS0.set ((a + b) % MM % M)
  refine hK.out _ _ G (fun hH => ?_)
  clear hK K G C hS0
  generalize (((wE.setCell ⟨w.heap.size + 1 + 1, 0, none⟩ (.int .u64 (lim ((a + b) % MM % M) 0))).setCell ⟨w.heap.size + 1 + 1, 1, none⟩ (.int .u64 (lim ((a + b) % MM % M) 1))).setCell ⟨w.heap.size + 1 + 1, 2, none⟩ (.int .u64 (lim ((a + b) % MM % M) 2))).setCell ⟨w.heap.size + 1 + 1, 3, none⟩ (.int .u64 (lim ((a + b) % MM % M) 3)) = wD at hH E ⊢
  refine wpAnyH_done (by kernel_rfl) ?_ _
  obtain ⟨x0, x1, x2, x3, -, -, -, -⟩ := E
  go_wp2
  simp [bodyPost, results, Try.results13, go_sem, x0, x1, x2, x3]
  exact hH.1

set_option maxHeartbeats 2000000 in
theorem rsub (a b : Nat) (ha : a < M) (hb : b < M) (w : World) :
    Calls Try.prog 14 #[wd a, wd b] w fun e w' => e = .returned (wd ((a + MM - b) % MM % M)) ∧ Below w.heap.size w w' := by
  have hM : M < MM := by decide
  have hS := s3_start w a b
  go_enter Try.func14, Try.ntmps14
  go_upto_region 1 with fail
  generalize ((w.alloc (.cells #[.int .u64 (lim a 0), .int .u64 (lim a 1), .int .u64 (lim a 2), .int .u64 (lim a 3)] 24)).alloc (.cells #[.int .u64 (lim b 0), .int .u64 (lim b 1), .int .u64 (lim b 2), .int .u64 (lim b 3)] 24)).alloc (.cells #[.int .u64 0, .int .u64 0, .int .u64 0, .int .u64 0] 24) = W0 at hS ⊢
  refine wp_region_held_drew (S := fun W => S3 w W a b) (by kernel_rfl) (hS.keep (Below.refl _ _).drew) (fun hH => ?_)
  clear hS
  refine take_d (i := 0) (d := some 5) (v := .agg #[.int .u64 (lim a 0), .int .u64 (lim a 1), .int .u64 (lim a 2), .int .u64 (lim a 3)]) rfl rfl (by kernel_rfl) (by kernel_rfl) (by kernel_rfl) (fun _ _ _ h => h) (Or.inl ⟨by rfl, fun W hW => ?_⟩) hH ?_
  · obtain ⟨k0, k1, k2, k3⟩ := hW.2.1
    clear hW hH
    go_simp
  simp only [Act.put, List.setIfInBounds_toArray, List.set_cons_zero, List.set_cons_succ]
  refine take_d (i := 2) (d := some 7) (v := .agg #[.int .u64 (lim b 0), .int .u64 (lim b 1), .int .u64 (lim b 2), .int .u64 (lim b 3)]) rfl rfl (by kernel_rfl) (by kernel_rfl) (by kernel_rfl) (fun _ _ _ h => h) (Or.inl ⟨by rfl, fun W hW => ?_⟩) hH ?_
  · obtain ⟨k0, k1, k2, k3⟩ := hW.2.2.1
    clear hW hH
    go_simp
  simp only [Act.put, List.setIfInBounds_toArray, List.set_cons_zero, List.set_cons_succ]
  refine wpAnyH_ready (rs := [1]) (by kernel_rfl) (by simp) ?_
  refine AllReadyH.cons rfl (fun K hK => ?_) AllReadyH.nil
  go_simp
  refine (spreadL a ha _).mono ?_
  rintro e wA ⟨rfl, hbn⟩
  go_wp2_with fail
  refine hK.out _ _ (hH.keep hbn) (fun hH => ?_)
  clear hbn hK K
  refine wpAnyH_ready (rs := [3]) (by kernel_rfl) (by simp) ?_
  refine AllReadyH.cons rfl (fun K hK => ?_) AllReadyH.nil
  go_simp
  refine (spreadL b hb _).mono ?_
  rintro e wB ⟨rfl, hbn⟩
  go_wp2_with fail
  refine hK.out _ _ (hH.keep hbn) (fun hH => ?_)
  clear hbn hK K
  refine wpAnyH_ready (rs := [4]) (by kernel_rfl) (by simp) ?_
  refine AllReadyH.cons rfl (fun K hK => ?_) AllReadyH.nil
  go_simp
  refine (minus a b (by omega) _).mono ?_
  rintro e wC ⟨rfl, hbn⟩
  go_wp2_with fail
  refine hK.out _ _ (hH.keep hbn) (fun hH => ?_)
  clear hbn hK K
  refine wpAnyH_ready (rs := [5]) (by kernel_rfl) (by simp) ?_
  refine AllReadyH.cons rfl (fun K hK => ?_) AllReadyH.nil
  go_simp
  refine (wordL ((a + MM - b) % MM) _).mono ?_
  rintro e wE ⟨rfl, hbn⟩
  go_wp2_with fail
  refine hK.out _ _ (hH.keep hbn) (fun hH => ?_)
  clear hbn hK K
  refine wpAnyH_ready (rs := [6]) (by kernel_rfl) (by simp) ?_
  refine AllReadyH.cons rfl (fun K hK => ?_) AllReadyH.nil
  have hS0 := hH
  obtain ⟨m, C⟩ := hH.2.2.2.1
  obtain ⟨x0, x1, x2, x3, x4, x5, x6, x7⟩ := id C
  go_simp
  clear x0 x1 x2 x3 x4 x5 x6 x7
  have E : Cells4 ((((wE.setCell ⟨w.heap.size + 1 + 1, 0, none⟩ (.int .u64 (lim ((a + MM - b) % MM % M) 0))).setCell ⟨w.heap.size + 1 + 1, 1, none⟩ (.int .u64 (lim ((a + MM - b) % MM % M) 1))).setCell ⟨w.heap.size + 1 + 1, 2, none⟩ (.int .u64 (lim ((a + MM - b) % MM % M) 2))).setCell ⟨w.heap.size + 1 + 1, 3, none⟩ (.int .u64 (lim ((a + MM - b) % MM % M) 3))) (w.heap.size + 1 + 1) ((a + MM - b) % MM % M) := C.set ((a + MM - b) % MM % M)
  have G : S3 w ((((wE.setCell ⟨w.heap.size + 1 + 1, 0, none⟩ (.int .u64 (lim ((a + MM - b) % MM % M) 0))).setCell ⟨w.heap.size + 1 + 1, 1, none⟩ (.int .u64 (lim ((a + MM - b) % MM % M) 1))).setCell ⟨w.heap.size + 1 + 1, 2, none⟩ (.int .u64 (lim ((a + MM - b) % MM % M) 2))).setCell ⟨w.heap.size + 1 + 1, 3, none⟩ (.int .u64 (lim ((a + MM - b) % MM % M) 3))) a b := hS0.set ((a + MM - b) % MM % M)
  refine hK.out _ _ G (fun hH => ?_)
  clear hK K G C hS0
  generalize (((wE.setCell ⟨w.heap.size + 1 + 1, 0, none⟩ (.int .u64 (lim ((a + MM - b) % MM % M) 0))).setCell ⟨w.heap.size + 1 + 1, 1, none⟩ (.int .u64 (lim ((a + MM - b) % MM % M) 1))).setCell ⟨w.heap.size + 1 + 1, 2, none⟩ (.int .u64 (lim ((a + MM - b) % MM % M) 2))).setCell ⟨w.heap.size + 1 + 1, 3, none⟩ (.int .u64 (lim ((a + MM - b) % MM % M) 3)) = wD at hH E ⊢
  refine wpAnyH_done (by kernel_rfl) ?_ _
  obtain ⟨x0, x1, x2, x3, -, -, -, -⟩ := E
  go_wp2
  simp [bodyPost, results, Try.results14, go_sem, x0, x1, x2, x3]
  exact hH.1

abbrev S2 (w W : World) (a b : Nat) : Prop := Below w.heap.size w W ∧ Eq4 W w.heap.size a ∧ Eq4 W (w.heap.size + 1) b ∧ w.heap.size + 1 < W.heap.size
theorem S2.keep {w W W' : World} {a b : Nat} (h : S2 w W a b) (hb : Below W.heap.size W W') : S2 w W' a b := by
  obtain ⟨hB, h1, h2, hz⟩ := h
  exact ⟨hB.trans (hb.mono hB.size), Eq4.keep h1 hb (by omega), Eq4.keep h2 hb (by omega), Nat.lt_of_lt_of_le hz hb.size⟩
theorem s2_start (w : World) (a b : Nat) : S2 w ((w.alloc (.cells #[.int .u64 (lim a 0), .int .u64 (lim a 1), .int .u64 (lim a 2), .int .u64 (lim a 3)] 24)).alloc (.cells #[.int .u64 (lim b 0), .int .u64 (lim b 1), .int .u64 (lim b 2), .int .u64 (lim b 3)] 24)) a b :=
  ⟨((Below.refl _ _).alloc (Nat.le_refl _) _).alloc (by simp) _, by refine ⟨?_, ?_, ?_, ?_⟩ <;> simp [go_sem], by refine ⟨?_, ?_, ?_, ?_⟩ <;> simp [go_sem], by simp⟩

set_option maxHeartbeats 2000000 in
theorem rless (a b : Nat) (ha : a < M) (hb : b < M) (w : World) :
    Calls Try.prog 53 #[wd a, wd b] w fun e w' => e = .returned (.bool (decide (a < b))) ∧ Below w.heap.size w w' := by
  have hM : M < MM := by decide
  have hS := s2_start w a b
  go_enter Try.func53, Try.ntmps53
  go_upto_region 1 with fail
  generalize (w.alloc (.cells #[.int .u64 (lim a 0), .int .u64 (lim a 1), .int .u64 (lim a 2), .int .u64 (lim a 3)] 24)).alloc (.cells #[.int .u64 (lim b 0), .int .u64 (lim b 1), .int .u64 (lim b 2), .int .u64 (lim b 3)] 24) = W0 at hS ⊢
  refine wp_region_held_drew (S := fun W => S2 w W a b) (by kernel_rfl) (hS.keep (Below.refl _ _).drew) (fun hH => ?_)
  clear hS
  refine take_d (i := 0) (d := some 5) (v := .agg #[.int .u64 (lim a 0), .int .u64 (lim a 1), .int .u64 (lim a 2), .int .u64 (lim a 3)]) rfl rfl (by kernel_rfl) (by kernel_rfl) (by kernel_rfl) (fun _ _ _ h => h) (Or.inl ⟨by rfl, fun W hW => ?_⟩) hH ?_
  · obtain ⟨k0, k1, k2, k3⟩ := hW.2.1
    clear hW hH
    go_simp
  simp only [Act.put, List.setIfInBounds_toArray, List.set_cons_zero, List.set_cons_succ]
  refine take_d (i := 2) (d := some 7) (v := .agg #[.int .u64 (lim b 0), .int .u64 (lim b 1), .int .u64 (lim b 2), .int .u64 (lim b 3)]) rfl rfl (by kernel_rfl) (by kernel_rfl) (by kernel_rfl) (fun _ _ _ h => h) (Or.inl ⟨by rfl, fun W hW => ?_⟩) hH ?_
  · obtain ⟨k0, k1, k2, k3⟩ := hW.2.2.1
    clear hW hH
    go_simp
  simp only [Act.put, List.setIfInBounds_toArray, List.set_cons_zero, List.set_cons_succ]
  refine wpAnyH_ready (rs := [1]) (by kernel_rfl) (by simp) ?_
  refine AllReadyH.cons rfl (fun K hK => ?_) AllReadyH.nil
  go_simp
  refine (spreadL a ha _).mono ?_
  rintro e wA ⟨rfl, hbn⟩
  go_wp2_with fail
  refine hK.out _ _ (hH.keep hbn) (fun hH => ?_)
  clear hbn hK K
  refine wpAnyH_ready (rs := [3]) (by kernel_rfl) (by simp) ?_
  refine AllReadyH.cons rfl (fun K hK => ?_) AllReadyH.nil
  go_simp
  refine (spreadL b hb _).mono ?_
  rintro e wB ⟨rfl, hbn⟩
  go_wp2_with fail
  refine hK.out _ _ (hH.keep hbn) (fun hH => ?_)
  clear hbn hK K
  refine wpAnyH_ready (rs := [4]) (by kernel_rfl) (by simp) ?_
  refine AllReadyH.cons rfl (fun K hK => ?_) AllReadyH.nil
  go_simp
  refine (below a b (by omega) (by omega) _).mono ?_
  rintro e wC ⟨rfl, hbn⟩
  go_wp2_with fail
  refine hK.out _ _ (hH.keep hbn) (fun hH => ?_)
  clear hbn hK K
  refine take_d (i := 5) (d := some 4) (v := .bool (decide (a < b))) rfl rfl (by kernel_rfl) (by kernel_rfl) (by kernel_rfl) (fun _ _ _ h => h) (Or.inl ⟨by rfl, fun W hW => ?_⟩) hH ?_
  · clear hW hH
    go_simp
  simp only [Act.put, List.setIfInBounds_toArray, List.set_cons_zero, List.set_cons_succ]
  refine wpAnyH_done (by kernel_rfl) ?_ _
  go_wp2
  go_ret
  exact ⟨rfl, hH.1⟩

theorem neg_lim3 (a : Nat) (ha : a < M) : decide (9223372036854775808 ≤ lim a 3) = neg a := by
  have s := lim_sum a ha
  have l0 := lim_nn a 0; have l1 := lim_nn a 1; have l2 := lim_nn a 2
  have u0 := lim_lt a 0; have u1 := lim_lt a 1; have u2 := lim_lt a 2
  unfold neg
  rw [decide_eq_decide]
  omega
set_option maxHeartbeats 400000 in
theorem rnegative (a : Nat) (ha : a < M) (w : World) : Calls Try.prog 47 #[wd a] w fun e w' => e = .returned (.bool (neg a)) ∧ Below w.heap.size w w' := by
  have h := neg_lim3 a ha
  go_enter Try.func47, Try.ntmps47
  go_wp2
  go_ret
  exact ⟨by rw [← h]; rfl, (Below.refl _ _).alloc (Nat.le_refl _) _⟩
set_option maxHeartbeats 400000 in
theorem rtruth (t : Bool) (w : World) : Calls Try.prog 54 #[.bool t] w fun e w' => e = .returned (wd (tw t)) ∧ Below w.heap.size w w' := by
  cases t
  · have e : wd (tw false) = .agg #[.int .u64 0, .int .u64 0, .int .u64 0, .int .u64 0] := by unfold tw wd; simp [lim_z]
    rw [e]
    go_enter Try.func54, Try.ntmps54
    go_wp2
    simp [bodyPost, results, Try.results54, go_sem]
    exact (Below.refl _ _).alloc (Nat.le_refl _) _
  · have e : wd (tw true) = .agg #[.int .u64 1, .int .u64 0, .int .u64 0, .int .u64 0] := by
      show wd 1 = _
      unfold wd
      rw [lim1_0, lim1_1, lim1_2, lim1_3]
    rw [e]
    go_enter Try.func54, Try.ntmps54
    go_wp2
    simp [bodyPost, results, Try.results54, go_sem]
    exact (Below.refl _ _).alloc (Nat.le_refl _) _

end Go.Proofs.Ytbephahokhnccaa

