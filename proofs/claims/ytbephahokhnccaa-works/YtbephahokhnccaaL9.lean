/-
  purserref: opposite, sizeOf, compared, small: what they return.
-/
import Derived.Test.YtbephahokhnccaaL8
import Derived.Test.YtbephahokhnccaaEq
namespace Go.Proofs.Ytbephahokhnccaa
open Go.RowKit Go.Shelf
attribute [local go_sem] wd run_eq4

abbrev SO (w W : World) (a : Nat) : Prop := Below w.heap.size w W ∧ Eq4 W w.heap.size a ∧ LH W (w.heap.size + 1 + 1) (dl 0) ∧ (∃ m, Cells4 W (w.heap.size + 1) m) ∧ w.heap.size + 1 + 1 < W.heap.size
theorem SO.keep {w W W' : World} {a : Nat} (h : SO w W a) (hb : Below W.heap.size W W') : SO w W' a := by
  obtain ⟨hB, h1, h2, ⟨m, C⟩, hz⟩ := h
  exact ⟨hB.trans (hb.mono hB.size), Eq4.keep h1 hb (by omega), h2.below hb, ⟨m, C.below hb (by omega)⟩, Nat.lt_of_lt_of_le hz hb.size⟩
theorem SO.set {w W : World} {a : Nat} (h : SO w W a) (n : Nat) : SO w (set4 W (w.heap.size + 1) n) a := by
  obtain ⟨hB, h1, h2, ⟨m, C⟩, hz⟩ := h
  exact ⟨set4_below hB (by omega) n, eq4_set h1 (by omega) n, h2.set4 (by omega) n, ⟨n, C.set n⟩, by simpa using hz⟩
theorem so_start (w : World) (a : Nat) : SO w (((w.alloc (.cells #[.int .u64 (lim a 0), .int .u64 (lim a 1), .int .u64 (lim a 2), .int .u64 (lim a 3)] 24)).alloc (.cells #[.int .u64 0, .int .u64 0, .int .u64 0, .int .u64 0] 24)).alloc (.cells #[.int .u64 0, .int .u64 0, .int .u64 0, .int .u64 0, .int .u64 0, .int .u64 0, .int .u64 0, .int .u64 0, .int .u64 0, .int .u64 0, .int .u64 0, .int .u64 0, .int .u64 0, .int .u64 0, .int .u64 0, .int .u64 0] 34)) a := by
  have h := lh_new0 ((w.alloc (.cells #[.int .u64 (lim a 0), .int .u64 (lim a 1), .int .u64 (lim a 2), .int .u64 (lim a 3)] 24)).alloc (.cells #[.int .u64 0, .int .u64 0, .int .u64 0, .int .u64 0] 24))
  rw [show ((w.alloc (.cells #[.int .u64 (lim a 0), .int .u64 (lim a 1), .int .u64 (lim a 2), .int .u64 (lim a 3)] 24)).alloc (.cells #[.int .u64 0, .int .u64 0, .int .u64 0, .int .u64 0] 24)).heap.size = w.heap.size + 1 + 1 by simp] at h
  exact ⟨below3 w _ _ _, by refine ⟨?_, ?_, ?_, ?_⟩ <;> simp [go_sem], h, ⟨0, by refine ⟨?_, ?_, ?_, ?_, ?_, ?_, ?_, ?_⟩ <;> simp [go_sem, lim_z]⟩, by simp⟩
theorem opp_MM (a : Nat) (ha : a < M) : (0 + MM - a) % MM % M = opp a := by
  have hM : MM = M * M := by decide
  have hp := M_pos
  unfold opp
  rw [hM, Nat.mod_mul_right_mod]
  rw [show 0 + M * M - a = M - a + M * (M - 1) by rw [Nat.mul_sub, Nat.mul_one]; have : M ≤ M * M := Nat.le_mul_of_pos_left M hp
                                                  omega]
  rw [Nat.add_mul_mod_self_left]

set_option maxHeartbeats 2000000 in
theorem ropp_w (a : Nat) (ha : a < M) (w : World) : Calls Try.prog 49 #[wd a] w fun e w' => e = .returned (wd ((0 + MM - a) % MM % M)) ∧ Below w.heap.size w w' := by
  have hM : M < MM := by decide
  have hS := so_start w a
  have hL0 := ll_dl 0
  have hm := minus 0 a (by omega)
  have hw := wordL ((0 + MM - a) % MM)
  generalize (0 + MM - a) % MM = N at hm hw ⊢
  go_enter Try.func49, Try.ntmps49
  go_upto_region 2 with fail
  generalize ((w.alloc (.cells #[.int .u64 (lim a 0), .int .u64 (lim a 1), .int .u64 (lim a 2), .int .u64 (lim a 3)] 24)).alloc (.cells #[.int .u64 0, .int .u64 0, .int .u64 0, .int .u64 0] 24)).alloc (.cells #[.int .u64 0, .int .u64 0, .int .u64 0, .int .u64 0, .int .u64 0, .int .u64 0, .int .u64 0, .int .u64 0, .int .u64 0, .int .u64 0, .int .u64 0, .int .u64 0, .int .u64 0, .int .u64 0, .int .u64 0, .int .u64 0] 34) = W0 at hS ⊢
  refine wp_region_held_drew (S := fun W => SO w W a) (by kernel_rfl) (hS.keep (Below.refl _ _).drew) (fun hH => ?_)
  clear hS
  refine tk34 (i := 0) (d := some 4) hL0 rfl rfl (by kernel_rfl) (by kernel_rfl) (by kernel_rfl) (fun _ _ _ h => h) (by rfl) rfl rfl (fun W hW => hW.2.2.1) hH ?_
  simp only [Act.put, List.setIfInBounds_toArray, List.set_cons_zero, List.set_cons_succ]
  refine take_d (i := 1) (d := some 5) (v := .agg #[.int .u64 (lim a 0), .int .u64 (lim a 1), .int .u64 (lim a 2), .int .u64 (lim a 3)]) rfl rfl (by kernel_rfl) (by kernel_rfl) (by kernel_rfl) (fun _ _ _ h => h) (Or.inl ⟨by rfl, fun W hW => ?_⟩) hH ?_
  · obtain ⟨k0, k1, k2, k3⟩ := hW.2.1
    clear hW hH
    go_simp
  simp only [Act.put, List.setIfInBounds_toArray, List.set_cons_zero, List.set_cons_succ]
  refine wpAnyH_ready (rs := [2]) (by kernel_rfl) (by simp) ?_
  refine AllReadyH.cons rfl (fun K hK => ?_) AllReadyH.nil
  go_simp
  refine (spreadL a ha _).mono ?_
  rintro e wA ⟨rfl, hbn⟩
  go_wp2_with fail
  refine hK.out _ _ (hH.keep hbn) (fun hH => ?_)
  clear hbn hK K
  refine wpAnyH_ready (rs := [3]) (by kernel_rfl) (by simp) ?_
  refine AllReadyH.cons rfl (fun K hK => ?_) AllReadyH.nil
  go_simp
  refine (hm _).mono ?_
  rintro e wB ⟨rfl, hbn⟩
  go_wp2_with fail
  refine hK.out _ _ (hH.keep hbn) (fun hH => ?_)
  clear hbn hK K
  refine wpAnyH_ready (rs := [4]) (by kernel_rfl) (by simp) ?_
  refine AllReadyH.cons rfl (fun K hK => ?_) AllReadyH.nil
  go_simp
  refine (hw _).mono ?_
  rintro e wC ⟨rfl, hbn⟩
  go_wp2_with fail
  refine hK.out _ _ (hH.keep hbn) (fun hH => ?_)
  clear hbn hK K
  refine wpAnyH_ready (rs := [5]) (by kernel_rfl) (by simp) ?_
  refine AllReadyH.cons rfl (fun K hK => ?_) AllReadyH.nil
  have hS0 := hH
  obtain ⟨m, C⟩ := hH.2.2.2.1
  obtain ⟨x0, x1, x2, x3, x4, x5, x6, x7⟩ := id C
  go_simp
  clear x0 x1 x2 x3 x4 x5 x6 x7
  have E : Cells4 ((((wC.setCell ⟨w.heap.size + 1, 0, none⟩ (.int .u64 (lim (N % M) 0))).setCell ⟨w.heap.size + 1, 1, none⟩ (.int .u64 (lim (N % M) 1))).setCell ⟨w.heap.size + 1, 2, none⟩ (.int .u64 (lim (N % M) 2))).setCell ⟨w.heap.size + 1, 3, none⟩ (.int .u64 (lim (N % M) 3))) (w.heap.size + 1) (N % M) := C.set (N % M)
  have G : SO w ((((wC.setCell ⟨w.heap.size + 1, 0, none⟩ (.int .u64 (lim (N % M) 0))).setCell ⟨w.heap.size + 1, 1, none⟩ (.int .u64 (lim (N % M) 1))).setCell ⟨w.heap.size + 1, 2, none⟩ (.int .u64 (lim (N % M) 2))).setCell ⟨w.heap.size + 1, 3, none⟩ (.int .u64 (lim (N % M) 3))) a := hS0.set (N % M)
  refine hK.out _ _ G (fun hH => ?_)
  clear hK K G C hS0
  generalize (((wC.setCell ⟨w.heap.size + 1, 0, none⟩ (.int .u64 (lim (N % M) 0))).setCell ⟨w.heap.size + 1, 1, none⟩ (.int .u64 (lim (N % M) 1))).setCell ⟨w.heap.size + 1, 2, none⟩ (.int .u64 (lim (N % M) 2))).setCell ⟨w.heap.size + 1, 3, none⟩ (.int .u64 (lim (N % M) 3)) = wD at hH E ⊢
  refine wpAnyH_done (by kernel_rfl) ?_ _
  obtain ⟨x0, x1, x2, x3, -, -, -, -⟩ := E
  go_wp2
  simp [bodyPost, results, Try.results49, go_sem, x0, x1, x2, x3]
  exact hH.1
theorem ropp (a : Nat) (ha : a < M) (w : World) : Calls Try.prog 49 #[wd a] w fun e w' => e = .returned (wd (opp a)) ∧ Below w.heap.size w w' := by
  have h := ropp_w a ha w
  rw [opp_MM a ha] at h
  exact h

set_option maxHeartbeats 400000 in
theorem rsize (a : Nat) (ha : a < M) (w : World) : Calls Try.prog 48 #[wd a] w fun e w' => e = .returned (wd (siz a)) ∧ Below w.heap.size w w' := by
  have hng := rnegative a ha
  cases hn : neg a
  · have es : siz a = a := by unfold siz; rw [hn]; rfl
    rw [es]
    rw [hn] at hng
    clear es
    go_enter Try.func48, Try.ntmps48
    go_wp2_with fail
    refine (hng _).mono ?_
    rintro e w1 ⟨rfl, hb1⟩
    obtain ⟨hc, hf⟩ := bcell hb1
    have hB : Below w.heap.size w w1 := Below.trans (((Below.refl _ _).alloc (Nat.le_refl _) _).alloc (by simp) _) (hb1.mono (by simp; omega))
    clear hb1
    go_wp2
    simp [bodyPost, results, Try.results48, go_sem, hc]
    exact set4_below hB (by omega) _
  · have es : siz a = opp a := by unfold siz; rw [hn]; rfl
    rw [es]
    rw [hn] at hng
    clear es
    go_enter Try.func48, Try.ntmps48
    go_wp2_with fail
    refine (hng _).mono ?_
    rintro e w1 ⟨rfl, hb1⟩
    obtain ⟨hc, hf⟩ := bcell hb1
    have hB : Below w.heap.size w w1 := Below.trans (((Below.refl _ _).alloc (Nat.le_refl _) _).alloc (by simp) _) (hb1.mono (by simp; omega))
    have hz : w.heap.size + 1 < w1.heap.size := by have := hb1.size; simp at this; omega
    have C1 : Cells4 w1 (w.heap.size + 1) 0 := ⟨by simp [hc, go_sem, lim_z], by simp [hc, go_sem, lim_z], by simp [hc, go_sem, lim_z], by simp [hc, go_sem, lim_z], by simp [hf, go_sem], by simp [hf, go_sem], by simp [hf, go_sem], by simp [hf, go_sem]⟩
    clear hb1
    go_wp2_with fail
    refine (ropp a ha _).mono ?_
    rintro e w2 ⟨rfl, hb2⟩
    replace hB := hB.trans (hb2.mono hB.size)
    obtain ⟨x0, x1, x2, x3, x4, x5, x6, x7⟩ := C1.below hb2 hz
    clear hb2 C1 hc hf
    go_wp2
    simp [bodyPost, results, Try.results48, go_sem, x0, x1, x2, x3]
    exact set4_below hB (by omega) _

set_option maxHeartbeats 2000000 in
theorem rcmp_12_w (a b : Nat) (lt gt x y r : Bool) (w : World)
    (H1 : ∀ w : World, Calls Try.prog 53 #[wd a, wd b] w fun e w' => e = .returned (.bool lt) ∧ Below w.heap.size w w')
    (H2 : ∀ w : World, Calls Try.prog 53 #[wd b, wd a] w fun e w' => e = .returned (.bool gt) ∧ Below w.heap.size w w')
    (H3 : ∀ w : World, Calls Try.prog 47 #[wd a] w fun e w' => e = .returned (.bool x) ∧ Below w.heap.size w w')
    (H4 : ∀ w : World, Calls Try.prog 47 #[wd b] w fun e w' => e = .returned (.bool y) ∧ Below w.heap.size w w') (hr : r = lt) :
    Calls Try.prog 23 #[.int .u8 12, wd a, wd b] w fun e w' => e = .returned (wd (tw r)) ∧ Below w.heap.size w w' := by
  subst hr
  have hS := s3_start w a b
  go_enter Try.func23, Try.ntmps23
  go_upto_region 1 with fail
  generalize ((w.alloc (.cells #[.int .u64 (lim a 0), .int .u64 (lim a 1), .int .u64 (lim a 2), .int .u64 (lim a 3)] 24)).alloc (.cells #[.int .u64 (lim b 0), .int .u64 (lim b 1), .int .u64 (lim b 2), .int .u64 (lim b 3)] 24)).alloc (.cells #[.int .u64 0, .int .u64 0, .int .u64 0, .int .u64 0] 24) = W0 at hS ⊢
  obtain ⟨hB, h1, h2, ⟨m, C⟩, hz⟩ := id hS
  obtain ⟨k0, k1, k2, k3⟩ := h1
  obtain ⟨l0, l1, l2, l3⟩ := h2
  go_wp2_with fail
  clear k0 k1 k2 k3 l0 l1 l2 l3
  refine (H1 _).mono ?_
  rintro e w1 ⟨rfl, hbn⟩
  replace hS := hS.keep hbn
  clear hbn hB C hz
  obtain ⟨hB, h1, h2, ⟨m, C⟩, hz⟩ := id hS
  obtain ⟨k0, k1, k2, k3⟩ := h1
  obtain ⟨l0, l1, l2, l3⟩ := h2
  go_wp2_with fail
  clear k0 k1 k2 k3 l0 l1 l2 l3
  refine (H2 _).mono ?_
  rintro e w1 ⟨rfl, hbn⟩
  replace hS := hS.keep hbn
  clear hbn hB C hz
  obtain ⟨hB, h1, h2, ⟨m, C⟩, hz⟩ := id hS
  obtain ⟨k0, k1, k2, k3⟩ := h1
  obtain ⟨l0, l1, l2, l3⟩ := h2
  go_wp2_with fail
  clear k0 k1 k2 k3 l0 l1 l2 l3
  refine (H3 _).mono ?_
  rintro e w1 ⟨rfl, hbn⟩
  replace hS := hS.keep hbn
  clear hbn hB C hz
  obtain ⟨hB, h1, h2, ⟨m, C⟩, hz⟩ := id hS
  obtain ⟨k0, k1, k2, k3⟩ := h1
  obtain ⟨l0, l1, l2, l3⟩ := h2
  go_wp2_with fail
  clear k0 k1 k2 k3 l0 l1 l2 l3
  refine (H4 _).mono ?_
  rintro e w1 ⟨rfl, hbn⟩
  replace hS := hS.keep hbn
  clear hbn hB C hz
  obtain ⟨hB, h1, h2, ⟨m, C⟩, hz⟩ := id hS
  obtain ⟨k0, k1, k2, k3⟩ := h1
  obtain ⟨l0, l1, l2, l3⟩ := h2
  go_wp2_with fail
  clear k0 k1 k2 k3 l0 l1 l2 l3
  refine (rtruth _ _).mono ?_
  rintro e w1 ⟨rfl, hbn⟩
  obtain ⟨y0, y1, y2, y3, y4, y5, y6, y7⟩ := C.below hbn hz
  replace hB := (hS.keep hbn).1
  clear hbn
  go_wp2
  simp [bodyPost, results, Try.results23, go_sem, y0, y1, y2, y3]
  exact set4_below (b := w.heap.size + 1 + 1) hB (by omega) _

set_option maxHeartbeats 2000000 in
theorem rcmp_13_w (a b : Nat) (lt gt x y r : Bool) (w : World)
    (H1 : ∀ w : World, Calls Try.prog 53 #[wd a, wd b] w fun e w' => e = .returned (.bool lt) ∧ Below w.heap.size w w')
    (H2 : ∀ w : World, Calls Try.prog 53 #[wd b, wd a] w fun e w' => e = .returned (.bool gt) ∧ Below w.heap.size w w')
    (H3 : ∀ w : World, Calls Try.prog 47 #[wd a] w fun e w' => e = .returned (.bool x) ∧ Below w.heap.size w w')
    (H4 : ∀ w : World, Calls Try.prog 47 #[wd b] w fun e w' => e = .returned (.bool y) ∧ Below w.heap.size w w') (hr : r = gt) :
    Calls Try.prog 23 #[.int .u8 13, wd a, wd b] w fun e w' => e = .returned (wd (tw r)) ∧ Below w.heap.size w w' := by
  subst hr
  have hS := s3_start w a b
  go_enter Try.func23, Try.ntmps23
  go_upto_region 1 with fail
  generalize ((w.alloc (.cells #[.int .u64 (lim a 0), .int .u64 (lim a 1), .int .u64 (lim a 2), .int .u64 (lim a 3)] 24)).alloc (.cells #[.int .u64 (lim b 0), .int .u64 (lim b 1), .int .u64 (lim b 2), .int .u64 (lim b 3)] 24)).alloc (.cells #[.int .u64 0, .int .u64 0, .int .u64 0, .int .u64 0] 24) = W0 at hS ⊢
  obtain ⟨hB, h1, h2, ⟨m, C⟩, hz⟩ := id hS
  obtain ⟨k0, k1, k2, k3⟩ := h1
  obtain ⟨l0, l1, l2, l3⟩ := h2
  go_wp2_with fail
  clear k0 k1 k2 k3 l0 l1 l2 l3
  refine (H1 _).mono ?_
  rintro e w1 ⟨rfl, hbn⟩
  replace hS := hS.keep hbn
  clear hbn hB C hz
  obtain ⟨hB, h1, h2, ⟨m, C⟩, hz⟩ := id hS
  obtain ⟨k0, k1, k2, k3⟩ := h1
  obtain ⟨l0, l1, l2, l3⟩ := h2
  go_wp2_with fail
  clear k0 k1 k2 k3 l0 l1 l2 l3
  refine (H2 _).mono ?_
  rintro e w1 ⟨rfl, hbn⟩
  replace hS := hS.keep hbn
  clear hbn hB C hz
  obtain ⟨hB, h1, h2, ⟨m, C⟩, hz⟩ := id hS
  obtain ⟨k0, k1, k2, k3⟩ := h1
  obtain ⟨l0, l1, l2, l3⟩ := h2
  go_wp2_with fail
  clear k0 k1 k2 k3 l0 l1 l2 l3
  refine (H3 _).mono ?_
  rintro e w1 ⟨rfl, hbn⟩
  replace hS := hS.keep hbn
  clear hbn hB C hz
  obtain ⟨hB, h1, h2, ⟨m, C⟩, hz⟩ := id hS
  obtain ⟨k0, k1, k2, k3⟩ := h1
  obtain ⟨l0, l1, l2, l3⟩ := h2
  go_wp2_with fail
  clear k0 k1 k2 k3 l0 l1 l2 l3
  refine (H4 _).mono ?_
  rintro e w1 ⟨rfl, hbn⟩
  replace hS := hS.keep hbn
  clear hbn hB C hz
  obtain ⟨hB, h1, h2, ⟨m, C⟩, hz⟩ := id hS
  obtain ⟨k0, k1, k2, k3⟩ := h1
  obtain ⟨l0, l1, l2, l3⟩ := h2
  go_wp2_with fail
  clear k0 k1 k2 k3 l0 l1 l2 l3
  refine (rtruth _ _).mono ?_
  rintro e w1 ⟨rfl, hbn⟩
  obtain ⟨y0, y1, y2, y3, y4, y5, y6, y7⟩ := C.below hbn hz
  replace hB := (hS.keep hbn).1
  clear hbn
  go_wp2
  simp [bodyPost, results, Try.results23, go_sem, y0, y1, y2, y3]
  exact set4_below (b := w.heap.size + 1 + 1) hB (by omega) _

set_option maxHeartbeats 2000000 in
theorem rcmp_14_w (a b : Nat) (lt gt x y r : Bool) (w : World)
    (H1 : ∀ w : World, Calls Try.prog 53 #[wd a, wd b] w fun e w' => e = .returned (.bool lt) ∧ Below w.heap.size w w')
    (H2 : ∀ w : World, Calls Try.prog 53 #[wd b, wd a] w fun e w' => e = .returned (.bool gt) ∧ Below w.heap.size w w')
    (H3 : ∀ w : World, Calls Try.prog 47 #[wd a] w fun e w' => e = .returned (.bool x) ∧ Below w.heap.size w w')
    (H4 : ∀ w : World, Calls Try.prog 47 #[wd b] w fun e w' => e = .returned (.bool y) ∧ Below w.heap.size w w') (hr : r = ((x && !y) || (x == y && lt))) :
    Calls Try.prog 23 #[.int .u8 14, wd a, wd b] w fun e w' => e = .returned (wd (tw r)) ∧ Below w.heap.size w w' := by
  subst hr
  cases x <;> cases y <;> cases lt
  all_goals (
    have hS := s3_start w a b
    go_enter Try.func23, Try.ntmps23
    go_upto_region 1 with fail
    generalize ((w.alloc (.cells #[.int .u64 (lim a 0), .int .u64 (lim a 1), .int .u64 (lim a 2), .int .u64 (lim a 3)] 24)).alloc (.cells #[.int .u64 (lim b 0), .int .u64 (lim b 1), .int .u64 (lim b 2), .int .u64 (lim b 3)] 24)).alloc (.cells #[.int .u64 0, .int .u64 0, .int .u64 0, .int .u64 0] 24) = W0 at hS ⊢
    obtain ⟨hB, h1, h2, ⟨m, C⟩, hz⟩ := id hS
    obtain ⟨k0, k1, k2, k3⟩ := h1
    obtain ⟨l0, l1, l2, l3⟩ := h2
    go_wp2_with fail
    clear k0 k1 k2 k3 l0 l1 l2 l3
    refine (H1 _).mono ?_
    rintro e w1 ⟨rfl, hbn⟩
    replace hS := hS.keep hbn
    clear hbn hB C hz
    obtain ⟨hB, h1, h2, ⟨m, C⟩, hz⟩ := id hS
    obtain ⟨k0, k1, k2, k3⟩ := h1
    obtain ⟨l0, l1, l2, l3⟩ := h2
    go_wp2_with fail
    clear k0 k1 k2 k3 l0 l1 l2 l3
    refine (H2 _).mono ?_
    rintro e w1 ⟨rfl, hbn⟩
    replace hS := hS.keep hbn
    clear hbn hB C hz
    obtain ⟨hB, h1, h2, ⟨m, C⟩, hz⟩ := id hS
    obtain ⟨k0, k1, k2, k3⟩ := h1
    obtain ⟨l0, l1, l2, l3⟩ := h2
    go_wp2_with fail
    clear k0 k1 k2 k3 l0 l1 l2 l3
    refine (H3 _).mono ?_
    rintro e w1 ⟨rfl, hbn⟩
    replace hS := hS.keep hbn
    clear hbn hB C hz
    obtain ⟨hB, h1, h2, ⟨m, C⟩, hz⟩ := id hS
    obtain ⟨k0, k1, k2, k3⟩ := h1
    obtain ⟨l0, l1, l2, l3⟩ := h2
    go_wp2_with fail
    clear k0 k1 k2 k3 l0 l1 l2 l3
    refine (H4 _).mono ?_
    rintro e w1 ⟨rfl, hbn⟩
    replace hS := hS.keep hbn
    clear hbn hB C hz
    obtain ⟨hB, h1, h2, ⟨m, C⟩, hz⟩ := id hS
    obtain ⟨k0, k1, k2, k3⟩ := h1
    obtain ⟨l0, l1, l2, l3⟩ := h2
    go_wp2_with fail
    clear k0 k1 k2 k3 l0 l1 l2 l3
    refine (rtruth _ _).mono ?_
    rintro e w1 ⟨rfl, hbn⟩
    obtain ⟨y0, y1, y2, y3, y4, y5, y6, y7⟩ := C.below hbn hz
    replace hB := (hS.keep hbn).1
    clear hbn
    go_wp2
    simp [bodyPost, results, Try.results23, go_sem, y0, y1, y2, y3]
    exact set4_below (b := w.heap.size + 1 + 1) hB (by omega) _)

set_option maxHeartbeats 2000000 in
theorem rcmp_15_w (a b : Nat) (lt gt x y r : Bool) (w : World)
    (H1 : ∀ w : World, Calls Try.prog 53 #[wd a, wd b] w fun e w' => e = .returned (.bool lt) ∧ Below w.heap.size w w')
    (H2 : ∀ w : World, Calls Try.prog 53 #[wd b, wd a] w fun e w' => e = .returned (.bool gt) ∧ Below w.heap.size w w')
    (H3 : ∀ w : World, Calls Try.prog 47 #[wd a] w fun e w' => e = .returned (.bool x) ∧ Below w.heap.size w w')
    (H4 : ∀ w : World, Calls Try.prog 47 #[wd b] w fun e w' => e = .returned (.bool y) ∧ Below w.heap.size w w') (hr : r = ((!x && y) || (x == y && gt))) :
    Calls Try.prog 23 #[.int .u8 15, wd a, wd b] w fun e w' => e = .returned (wd (tw r)) ∧ Below w.heap.size w w' := by
  subst hr
  cases x <;> cases y <;> cases gt
  all_goals (
    have hS := s3_start w a b
    go_enter Try.func23, Try.ntmps23
    go_upto_region 1 with fail
    generalize ((w.alloc (.cells #[.int .u64 (lim a 0), .int .u64 (lim a 1), .int .u64 (lim a 2), .int .u64 (lim a 3)] 24)).alloc (.cells #[.int .u64 (lim b 0), .int .u64 (lim b 1), .int .u64 (lim b 2), .int .u64 (lim b 3)] 24)).alloc (.cells #[.int .u64 0, .int .u64 0, .int .u64 0, .int .u64 0] 24) = W0 at hS ⊢
    obtain ⟨hB, h1, h2, ⟨m, C⟩, hz⟩ := id hS
    obtain ⟨k0, k1, k2, k3⟩ := h1
    obtain ⟨l0, l1, l2, l3⟩ := h2
    go_wp2_with fail
    clear k0 k1 k2 k3 l0 l1 l2 l3
    refine (H1 _).mono ?_
    rintro e w1 ⟨rfl, hbn⟩
    replace hS := hS.keep hbn
    clear hbn hB C hz
    obtain ⟨hB, h1, h2, ⟨m, C⟩, hz⟩ := id hS
    obtain ⟨k0, k1, k2, k3⟩ := h1
    obtain ⟨l0, l1, l2, l3⟩ := h2
    go_wp2_with fail
    clear k0 k1 k2 k3 l0 l1 l2 l3
    refine (H2 _).mono ?_
    rintro e w1 ⟨rfl, hbn⟩
    replace hS := hS.keep hbn
    clear hbn hB C hz
    obtain ⟨hB, h1, h2, ⟨m, C⟩, hz⟩ := id hS
    obtain ⟨k0, k1, k2, k3⟩ := h1
    obtain ⟨l0, l1, l2, l3⟩ := h2
    go_wp2_with fail
    clear k0 k1 k2 k3 l0 l1 l2 l3
    refine (H3 _).mono ?_
    rintro e w1 ⟨rfl, hbn⟩
    replace hS := hS.keep hbn
    clear hbn hB C hz
    obtain ⟨hB, h1, h2, ⟨m, C⟩, hz⟩ := id hS
    obtain ⟨k0, k1, k2, k3⟩ := h1
    obtain ⟨l0, l1, l2, l3⟩ := h2
    go_wp2_with fail
    clear k0 k1 k2 k3 l0 l1 l2 l3
    refine (H4 _).mono ?_
    rintro e w1 ⟨rfl, hbn⟩
    replace hS := hS.keep hbn
    clear hbn hB C hz
    obtain ⟨hB, h1, h2, ⟨m, C⟩, hz⟩ := id hS
    obtain ⟨k0, k1, k2, k3⟩ := h1
    obtain ⟨l0, l1, l2, l3⟩ := h2
    go_wp2_with fail
    clear k0 k1 k2 k3 l0 l1 l2 l3
    refine (rtruth _ _).mono ?_
    rintro e w1 ⟨rfl, hbn⟩
    obtain ⟨y0, y1, y2, y3, y4, y5, y6, y7⟩ := C.below hbn hz
    replace hB := (hS.keep hbn).1
    clear hbn
    go_wp2
    simp [bodyPost, results, Try.results23, go_sem, y0, y1, y2, y3]
    exact set4_below (b := w.heap.size + 1 + 1) hB (by omega) _)

set_option maxHeartbeats 2000000 in
theorem rcmp_16_w (a b : Nat) (lt gt x y r : Bool) (w : World)
    (H1 : ∀ w : World, Calls Try.prog 53 #[wd a, wd b] w fun e w' => e = .returned (.bool lt) ∧ Below w.heap.size w w')
    (H2 : ∀ w : World, Calls Try.prog 53 #[wd b, wd a] w fun e w' => e = .returned (.bool gt) ∧ Below w.heap.size w w')
    (H3 : ∀ w : World, Calls Try.prog 47 #[wd a] w fun e w' => e = .returned (.bool x) ∧ Below w.heap.size w w')
    (H4 : ∀ w : World, Calls Try.prog 47 #[wd b] w fun e w' => e = .returned (.bool y) ∧ Below w.heap.size w w') (hr : eq4 (lim a 0) (lim a 1) (lim a 2) (lim a 3) (lim b 0) (lim b 1) (lim b 2) (lim b 3) = r) :
    Calls Try.prog 23 #[.int .u8 16, wd a, wd b] w fun e w' => e = .returned (wd (tw r)) ∧ Below w.heap.size w w' := by
  have hS := s3_start w a b
  go_enter Try.func23, Try.ntmps23
  go_upto_region 1 with fail
  generalize ((w.alloc (.cells #[.int .u64 (lim a 0), .int .u64 (lim a 1), .int .u64 (lim a 2), .int .u64 (lim a 3)] 24)).alloc (.cells #[.int .u64 (lim b 0), .int .u64 (lim b 1), .int .u64 (lim b 2), .int .u64 (lim b 3)] 24)).alloc (.cells #[.int .u64 0, .int .u64 0, .int .u64 0, .int .u64 0] 24) = W0 at hS ⊢
  obtain ⟨hB, h1, h2, ⟨m, C⟩, hz⟩ := id hS
  obtain ⟨k0, k1, k2, k3⟩ := h1
  obtain ⟨l0, l1, l2, l3⟩ := h2
  go_wp2_with fail
  clear k0 k1 k2 k3 l0 l1 l2 l3
  refine (H1 _).mono ?_
  rintro e w1 ⟨rfl, hbn⟩
  replace hS := hS.keep hbn
  clear hbn hB C hz
  obtain ⟨hB, h1, h2, ⟨m, C⟩, hz⟩ := id hS
  obtain ⟨k0, k1, k2, k3⟩ := h1
  obtain ⟨l0, l1, l2, l3⟩ := h2
  go_wp2_with fail
  clear k0 k1 k2 k3 l0 l1 l2 l3
  refine (H2 _).mono ?_
  rintro e w1 ⟨rfl, hbn⟩
  replace hS := hS.keep hbn
  clear hbn hB C hz
  obtain ⟨hB, h1, h2, ⟨m, C⟩, hz⟩ := id hS
  obtain ⟨k0, k1, k2, k3⟩ := h1
  obtain ⟨l0, l1, l2, l3⟩ := h2
  go_wp2_with fail
  clear k0 k1 k2 k3 l0 l1 l2 l3
  refine (H3 _).mono ?_
  rintro e w1 ⟨rfl, hbn⟩
  replace hS := hS.keep hbn
  clear hbn hB C hz
  obtain ⟨hB, h1, h2, ⟨m, C⟩, hz⟩ := id hS
  obtain ⟨k0, k1, k2, k3⟩ := h1
  obtain ⟨l0, l1, l2, l3⟩ := h2
  go_wp2_with fail
  clear k0 k1 k2 k3 l0 l1 l2 l3
  refine (H4 _).mono ?_
  rintro e w1 ⟨rfl, hbn⟩
  replace hS := hS.keep hbn
  clear hbn hB C hz
  obtain ⟨hB, h1, h2, ⟨m, C⟩, hz⟩ := id hS
  obtain ⟨k0, k1, k2, k3⟩ := h1
  obtain ⟨l0, l1, l2, l3⟩ := h2
  go_wp2_with fail
  clear k0 k1 k2 k3 l0 l1 l2 l3
  refine (rtruth _ _).mono ?_
  rintro e w1 ⟨rfl, hbn⟩
  obtain ⟨y0, y1, y2, y3, y4, y5, y6, y7⟩ := C.below hbn hz
  replace hB := (hS.keep hbn).1
  clear hbn
  go_wp2
  simp [bodyPost, results, Try.results23, go_sem, y0, y1, y2, y3]
  exact set4_below (b := w.heap.size + 1 + 1) hB (by omega) _

set_option maxHeartbeats 2000000 in
theorem rcmp_17_w (a b : Nat) (lt gt x y r : Bool) (w : World)
    (H1 : ∀ w : World, Calls Try.prog 53 #[wd a, wd b] w fun e w' => e = .returned (.bool lt) ∧ Below w.heap.size w w')
    (H2 : ∀ w : World, Calls Try.prog 53 #[wd b, wd a] w fun e w' => e = .returned (.bool gt) ∧ Below w.heap.size w w')
    (H3 : ∀ w : World, Calls Try.prog 47 #[wd a] w fun e w' => e = .returned (.bool x) ∧ Below w.heap.size w w')
    (H4 : ∀ w : World, Calls Try.prog 47 #[wd b] w fun e w' => e = .returned (.bool y) ∧ Below w.heap.size w w') (hr : eq4 (lim a 0) (lim a 1) (lim a 2) (lim a 3) 0 0 0 0 = r) :
    Calls Try.prog 23 #[.int .u8 17, wd a, wd b] w fun e w' => e = .returned (wd (tw r)) ∧ Below w.heap.size w w' := by
  have hS := s3_start w a b
  go_enter Try.func23, Try.ntmps23
  go_upto_region 1 with fail
  generalize ((w.alloc (.cells #[.int .u64 (lim a 0), .int .u64 (lim a 1), .int .u64 (lim a 2), .int .u64 (lim a 3)] 24)).alloc (.cells #[.int .u64 (lim b 0), .int .u64 (lim b 1), .int .u64 (lim b 2), .int .u64 (lim b 3)] 24)).alloc (.cells #[.int .u64 0, .int .u64 0, .int .u64 0, .int .u64 0] 24) = W0 at hS ⊢
  obtain ⟨hB, h1, h2, ⟨m, C⟩, hz⟩ := id hS
  obtain ⟨k0, k1, k2, k3⟩ := h1
  obtain ⟨l0, l1, l2, l3⟩ := h2
  go_wp2_with fail
  clear k0 k1 k2 k3 l0 l1 l2 l3
  refine (H1 _).mono ?_
  rintro e w1 ⟨rfl, hbn⟩
  replace hS := hS.keep hbn
  clear hbn hB C hz
  obtain ⟨hB, h1, h2, ⟨m, C⟩, hz⟩ := id hS
  obtain ⟨k0, k1, k2, k3⟩ := h1
  obtain ⟨l0, l1, l2, l3⟩ := h2
  go_wp2_with fail
  clear k0 k1 k2 k3 l0 l1 l2 l3
  refine (H2 _).mono ?_
  rintro e w1 ⟨rfl, hbn⟩
  replace hS := hS.keep hbn
  clear hbn hB C hz
  obtain ⟨hB, h1, h2, ⟨m, C⟩, hz⟩ := id hS
  obtain ⟨k0, k1, k2, k3⟩ := h1
  obtain ⟨l0, l1, l2, l3⟩ := h2
  go_wp2_with fail
  clear k0 k1 k2 k3 l0 l1 l2 l3
  refine (H3 _).mono ?_
  rintro e w1 ⟨rfl, hbn⟩
  replace hS := hS.keep hbn
  clear hbn hB C hz
  obtain ⟨hB, h1, h2, ⟨m, C⟩, hz⟩ := id hS
  obtain ⟨k0, k1, k2, k3⟩ := h1
  obtain ⟨l0, l1, l2, l3⟩ := h2
  go_wp2_with fail
  clear k0 k1 k2 k3 l0 l1 l2 l3
  refine (H4 _).mono ?_
  rintro e w1 ⟨rfl, hbn⟩
  replace hS := hS.keep hbn
  clear hbn hB C hz
  obtain ⟨hB, h1, h2, ⟨m, C⟩, hz⟩ := id hS
  obtain ⟨k0, k1, k2, k3⟩ := h1
  obtain ⟨l0, l1, l2, l3⟩ := h2
  go_wp2_with fail
  clear k0 k1 k2 k3 l0 l1 l2 l3
  refine (rtruth _ _).mono ?_
  rintro e w1 ⟨rfl, hbn⟩
  obtain ⟨y0, y1, y2, y3, y4, y5, y6, y7⟩ := C.below hbn hz
  replace hB := (hS.keep hbn).1
  clear hbn
  go_wp2
  simp [bodyPost, results, Try.results23, go_sem, y0, y1, y2, y3]
  exact set4_below (b := w.heap.size + 1 + 1) hB (by omega) _

end Go.Proofs.Ytbephahokhnccaa
