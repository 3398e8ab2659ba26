/-
  number.SDiv and SMod at this program: what they return.
-/
import Derived.Test.YtmkfjmidlllnlaaDi
import Derived.Test.YtmkfjmidlllnlaaSg
namespace Go.Proofs.Ytmkfjmidlllnlaa
open Go.RowKit Go.Shelf
attribute [local go_sem] wd dbl

theorem div_lt (x y : Nat) (h : x < M) : x / y < M := Nat.lt_of_le_of_lt (Nat.div_le_self x y) h

set_option maxHeartbeats 8000000 in
theorem sdiv_tt (a b : Nat) (ha : a < M) (hb : b < M) (hna : neg a = true) (hnb : neg b = true) (w : World) :
    Calls Try.prog 32 #[wd a, wd b] w fun e w' => e = .returned (wd (siz a / siz b)) ∧ Below w.heap.size w w' := by
  have HSA := Hid.mk' (size a ha)
  have HSB := Hid.mk' (size b hb)
  have HIN := Hid.mk' (div (siz a) (siz b) (siz_lt a ha) (siz_lt b hb))
  have HNA := Hid.mk' (negative a ha)
  have HNB := Hid.mk' (negative b hb)
  rw [hna] at HNA
  rw [hnb] at HNB
  have HNQ := Hid.mk' (negate (siz a / siz b) (div_lt _ _ (siz_lt a ha)))
  clear hna hnb
  obtain ⟨h1, h2, h3, ⟨z1, z2, z3⟩, hB⟩ := held_start w a b 0
  have e0 : put4 (put4 (put4 w a) b) 0 = ((w.alloc (.cells #[.int .u64 (lim a 0), .int .u64 (lim a 1), .int .u64 (lim a 2), .int .u64 (lim a 3)] 24)).alloc (.cells #[.int .u64 (lim b 0), .int .u64 (lim b 1), .int .u64 (lim b 2), .int .u64 (lim b 3)] 24)).alloc (.cells #[.int .u64 0, .int .u64 0, .int .u64 0, .int .u64 0] 24) := by
    unfold put4; simp [lim_z]
  have C2 : Cells4 (put4 (put4 (put4 w a) b) 0) (w.heap.size + 1 + 1) 0 := ⟨h3.1, h3.2.1, h3.2.2.1, h3.2.2.2, by simp [go_sem], by simp [go_sem], by simp [go_sem], by simp [go_sem]⟩
  clear h3
  rw [e0] at h1 h2 z1 z2 z3 hB C2
  clear e0
  go_enter Try.func32, Try.ntmps32
  go_wp2
  generalize ((w.alloc (.cells #[.int .u64 (lim a 0), .int .u64 (lim a 1), .int .u64 (lim a 2), .int .u64 (lim a 3)] 24)).alloc (.cells #[.int .u64 (lim b 0), .int .u64 (lim b 1), .int .u64 (lim b 2), .int .u64 (lim b 3)] 24)).alloc (.cells #[.int .u64 0, .int .u64 0, .int .u64 0, .int .u64 0] 24) = W0 at *
  refine wp_region_held_drew (S := fun W => Below W0.heap.size W0 W) (by kernel_rfl) (Below.refl _ _).drew (fun hH => ?_)
  refine take_d (i := 0) (d := some 6) (v := .agg #[.int .u64 (lim a 0), .int .u64 (lim a 1), .int .u64 (lim a 2), .int .u64 (lim a 3)]) rfl rfl (by kernel_rfl) (by kernel_rfl) (by kernel_rfl) (fun _ _ _ h => h) (Or.inl ⟨by rfl, fun W hW => ?_⟩) hH ?_
  · obtain ⟨k0, k1, k2, k3⟩ := Eq4.keep h1 hW z1
    clear hW hH
    go_simp
  simp only [Act.put, List.setIfInBounds_toArray, List.set_cons_zero, List.set_cons_succ]
  refine take_d (i := 2) (d := some 8) (v := .agg #[.int .u64 (lim b 0), .int .u64 (lim b 1), .int .u64 (lim b 2), .int .u64 (lim b 3)]) rfl rfl (by kernel_rfl) (by kernel_rfl) (by kernel_rfl) (fun _ _ _ h => h) (Or.inl ⟨by rfl, fun W hW => ?_⟩) hH ?_
  · obtain ⟨k0, k1, k2, k3⟩ := Eq4.keep h2 hW z2
    clear hW hH
    go_simp
  simp only [Act.put, List.setIfInBounds_toArray, List.set_cons_zero, List.set_cons_succ]
  generalize W0.drew = Wa at hH ⊢
  have hwa := hH.size
  refine wpAnyH_ready (rs := [1, 5]) (by kernel_rfl) (by simp) ?_
  refine (AllReadyH.cons rfl (fun K hK => ?_) (AllReadyH.cons rfl (fun K hK => ?_) AllReadyH.nil))
  · go_simp
    refine (HSA.out _).mono ?_
    rintro e Wq0 ⟨rfl, hbn⟩
    go_wp2_with fail
    refine hK.out _ _ (below_over0 hH hbn) (fun hH => ?_)
    have hz0 := hbn.size
    clear hbn hK K
    refine wpAnyH_ready (rs := [3, 5]) (by kernel_rfl) (by simp) ?_
    refine (AllReadyH.cons rfl (fun K hK => ?_) (AllReadyH.cons rfl (fun K hK => ?_) AllReadyH.nil))
    · go_simp
      refine (HSB.out _).mono ?_
      rintro e Wq1 ⟨rfl, hbn⟩
      go_wp2_with fail
      refine hK.out _ _ (below_over0 hH hbn) (fun hH => ?_)
      have hz1 := hbn.size
      clear hbn hK K
      refine wpAnyH_ready (rs := [4, 5]) (by kernel_rfl) (by simp) ?_
      refine (AllReadyH.cons rfl (fun K hK => ?_) (AllReadyH.cons rfl (fun K hK => ?_) AllReadyH.nil))
      · go_simp
        refine (HIN.out _).mono ?_
        rintro e Wq2 ⟨rfl, hbn⟩
        go_wp2_with fail
        refine hK.out _ _ (below_over0 hH hbn) (fun hH => ?_)
        have hz2 := hbn.size
        clear hbn hK K
        refine wpAnyH_ready (rs := [5]) (by kernel_rfl) (by simp) ?_
        refine (AllReadyH.cons rfl (fun K hK => ?_) AllReadyH.nil)
        · go_simp
          have hbn := below1 Wq2 (.cells #[.int .u64 0, .int .u64 0, .int .u64 0, .int .u64 0] 24)
          refine hK.out _ _ (below_over0 hH hbn) (fun hH => ?_)
          have R5 := row4_new Wq2 0 0 0 0
          have hz3 : Wq2.heap.size + 1 ≤ (Wq2.alloc (.cells #[.int .u64 0, .int .u64 0, .int .u64 0, .int .u64 0] 24)).heap.size := by simp
          clear hbn hK K
          generalize Wq2.alloc (.cells #[.int .u64 0, .int .u64 0, .int .u64 0, .int .u64 0] 24) = Wn3 at hH hz3 R5 ⊢
          have hw3 := hH.size
          obtain ⟨e0, e1, e2, e3, ef⟩ := id R5
          have ef0 := ef 0 (by decide); have ef1 := ef 1 (by decide); have ef2 := ef 2 (by decide); have ef3 := ef 3 (by decide)
          clear ef
          have ho : Only Wn3 ((((Wn3.setCell ⟨Wq2.heap.size, 0, none⟩ (.int .u64 (lim (siz a / siz b) 0))).setCell ⟨Wq2.heap.size, 1, none⟩ (.int .u64 (lim (siz a / siz b) 1))).setCell ⟨Wq2.heap.size, 2, none⟩ (.int .u64 (lim (siz a / siz b) 2))).setCell ⟨Wq2.heap.size, 3, none⟩ (.int .u64 (lim (siz a / siz b) 3))) (Wq2.heap.size) 0 4 := ((((Only.refl _ _ _ _).setCell _ _ (by omega) (by omega)).setCell _ _ (by omega) (by omega)).setCell _ _ (by omega) (by omega)).setCell _ _ (by omega) (by omega)
          replace R5 : Row4 ((((Wn3.setCell ⟨Wq2.heap.size, 0, none⟩ (.int .u64 (lim (siz a / siz b) 0))).setCell ⟨Wq2.heap.size, 1, none⟩ (.int .u64 (lim (siz a / siz b) 1))).setCell ⟨Wq2.heap.size, 2, none⟩ (.int .u64 (lim (siz a / siz b) 2))).setCell ⟨Wq2.heap.size, 3, none⟩ (.int .u64 (lim (siz a / siz b) 3))) (Wq2.heap.size) (lim (siz a / siz b) 0) (lim (siz a / siz b) 1) (lim (siz a / siz b) 2) (lim (siz a / siz b) 3) := ⟨by simp [go_sem, e0], by simp [go_sem, e1], by simp [go_sem, e2], by simp [go_sem, e3], fun j hj => (ho.frozen j).trans (R5.fz j hj)⟩
          have hB9 := hH.trans (ho.below (by omega))
          have hz9 := Nat.le_of_eq ho.size.symm
          clear ho
          refine wpAnyH_ready (rs := [6]) (by kernel_rfl) (by simp) ?_
          refine AllReadyH.cons rfl (fun K hK => ?_) AllReadyH.nil
          go_simp
          refine hK.out _ _ hB9 (fun hH => ?_)
          clear hK K e0 e1 e2 e3 ef0 ef1 ef2 ef3 hB9
          generalize ((((Wn3.setCell ⟨Wq2.heap.size, 0, none⟩ (.int .u64 (lim (siz a / siz b) 0))).setCell ⟨Wq2.heap.size, 1, none⟩ (.int .u64 (lim (siz a / siz b) 1))).setCell ⟨Wq2.heap.size, 2, none⟩ (.int .u64 (lim (siz a / siz b) 2))).setCell ⟨Wq2.heap.size, 3, none⟩ (.int .u64 (lim (siz a / siz b) 3))) = Wy4 at hH R5 hz9 ⊢
          refine wpAnyH_done (by kernel_rfl) ?_ _
          have hb5 : Wq2.heap.size < Wy4.heap.size := by omega
          go_wp2
          refine wp_region_held_drew (S := fun W => Below W0.heap.size W0 W ∧ Row4 W (Wq2.heap.size) (lim (siz a / siz b) 0) (lim (siz a / siz b) 1) (lim (siz a / siz b) 2) (lim (siz a / siz b) 3) ∧ Wq2.heap.size < W.heap.size) (by kernel_rfl) ⟨hH.drew, R5.drew, hb5⟩ (fun hH => ?_)
          clear R5 hz9 hb5
          refine take_d (i := 0) (d := some 11) (v := .agg #[.int .u64 (lim a 0), .int .u64 (lim a 1), .int .u64 (lim a 2), .int .u64 (lim a 3)]) rfl rfl (by kernel_rfl) (by kernel_rfl) (by kernel_rfl) (fun _ _ _ h => h) (Or.inl ⟨by rfl, fun W hW => ?_⟩) hH ?_
          · obtain ⟨k0, k1, k2, k3⟩ := Eq4.keep h1 hW.1 z1
            clear hW hH
            go_simp
          simp only [Act.put, List.setIfInBounds_toArray, List.set_cons_zero, List.set_cons_succ]
          refine take_d (i := 2) (d := some 13) (v := .agg #[.int .u64 (lim b 0), .int .u64 (lim b 1), .int .u64 (lim b 2), .int .u64 (lim b 3)]) rfl rfl (by kernel_rfl) (by kernel_rfl) (by kernel_rfl) (fun _ _ _ h => h) (Or.inl ⟨by rfl, fun W hW => ?_⟩) hH ?_
          · obtain ⟨k0, k1, k2, k3⟩ := Eq4.keep h2 hW.1 z2
            clear hW hH
            go_simp
          simp only [Act.put, List.setIfInBounds_toArray, List.set_cons_zero, List.set_cons_succ]
          generalize Wy4.drew = Wz at hH ⊢
          refine wpAnyH_ready (rs := [1]) (by kernel_rfl) (by simp) ?_
          refine AllReadyH.cons rfl (fun K hK => ?_) AllReadyH.nil
          go_simp
          refine (HNA.out _).mono ?_
          rintro e wp1 ⟨rfl, hbn⟩
          go_wp2_with fail
          refine hK.out _ _ ⟨below_over0 hH.1 hbn, hH.2.1.below hbn hH.2.2, Nat.lt_of_lt_of_le hH.2.2 hbn.size⟩ (fun hH => ?_)
          clear hbn hK K
          refine wpAnyH_ready (rs := [3]) (by kernel_rfl) (by simp) ?_
          refine AllReadyH.cons rfl (fun K hK => ?_) AllReadyH.nil
          go_simp
          refine (HNB.out _).mono ?_
          rintro e wp3 ⟨rfl, hbn⟩
          go_wp2_with fail
          refine hK.out _ _ ⟨below_over0 hH.1 hbn, hH.2.1.below hbn hH.2.2, Nat.lt_of_lt_of_le hH.2.2 hbn.size⟩ (fun hH => ?_)
          clear hbn hK K
          refine take_d (i := 4) (d := some 15) (v := .bool false) rfl rfl (by kernel_rfl) (by kernel_rfl) (by kernel_rfl) (fun _ _ _ h => h) (Or.inl ⟨by rfl, fun W hW => ?_⟩) hH ?_
          · clear hW hH
            go_simp
          simp only [Act.put, List.setIfInBounds_toArray, List.set_cons_zero, List.set_cons_succ]
          refine wpAnyH_done (by kernel_rfl) ?_ _
          obtain ⟨hH, ⟨e0, e1, e2, e3, -⟩, hb5⟩ := hH
          obtain ⟨x0, x1, x2, x3, x4, x5, x6, x7⟩ := C2.below hH z3
          go_wp2
          simp [bodyPost, results, Try.results32, go_sem, x0, x1, x2, x3]
          exact set4_below (hB.trans (hH.mono hB.size)) (by omega) _
      · go_simp
        have hbn := below1 Wq1 (.cells #[.int .u64 0, .int .u64 0, .int .u64 0, .int .u64 0] 24)
        refine hK.out _ _ (below_over0 hH hbn) (fun hH => ?_)
        have R5 := row4_new Wq1 0 0 0 0
        have hz5 : Wq1.heap.size + 1 ≤ (Wq1.alloc (.cells #[.int .u64 0, .int .u64 0, .int .u64 0, .int .u64 0] 24)).heap.size := by simp
        clear hbn hK K
        generalize Wq1.alloc (.cells #[.int .u64 0, .int .u64 0, .int .u64 0, .int .u64 0] 24) = Wn5 at hH hz5 R5 ⊢
        have hw5 := hH.size
        refine wpAnyH_ready (rs := [4]) (by kernel_rfl) (by simp) ?_
        refine (AllReadyH.cons rfl (fun K hK => ?_) AllReadyH.nil)
        · go_simp
          refine (HIN.out _).mono ?_
          rintro e Wq6 ⟨rfl, hbn⟩
          go_wp2_with fail
          refine hK.out _ _ (below_over0 hH hbn) (fun hH => ?_)
          replace R5 := R5.below hbn (by omega)
          have hz6 := hbn.size
          clear hbn hK K
          obtain ⟨e0, e1, e2, e3, ef⟩ := id R5
          have ef0 := ef 0 (by decide); have ef1 := ef 1 (by decide); have ef2 := ef 2 (by decide); have ef3 := ef 3 (by decide)
          clear ef
          have ho : Only Wq6 ((((Wq6.setCell ⟨Wq1.heap.size, 0, none⟩ (.int .u64 (lim (siz a / siz b) 0))).setCell ⟨Wq1.heap.size, 1, none⟩ (.int .u64 (lim (siz a / siz b) 1))).setCell ⟨Wq1.heap.size, 2, none⟩ (.int .u64 (lim (siz a / siz b) 2))).setCell ⟨Wq1.heap.size, 3, none⟩ (.int .u64 (lim (siz a / siz b) 3))) (Wq1.heap.size) 0 4 := ((((Only.refl _ _ _ _).setCell _ _ (by omega) (by omega)).setCell _ _ (by omega) (by omega)).setCell _ _ (by omega) (by omega)).setCell _ _ (by omega) (by omega)
          replace R5 : Row4 ((((Wq6.setCell ⟨Wq1.heap.size, 0, none⟩ (.int .u64 (lim (siz a / siz b) 0))).setCell ⟨Wq1.heap.size, 1, none⟩ (.int .u64 (lim (siz a / siz b) 1))).setCell ⟨Wq1.heap.size, 2, none⟩ (.int .u64 (lim (siz a / siz b) 2))).setCell ⟨Wq1.heap.size, 3, none⟩ (.int .u64 (lim (siz a / siz b) 3))) (Wq1.heap.size) (lim (siz a / siz b) 0) (lim (siz a / siz b) 1) (lim (siz a / siz b) 2) (lim (siz a / siz b) 3) := ⟨by simp [go_sem, e0], by simp [go_sem, e1], by simp [go_sem, e2], by simp [go_sem, e3], fun j hj => (ho.frozen j).trans (R5.fz j hj)⟩
          have hB9 := hH.trans (ho.below (by omega))
          have hz9 := Nat.le_of_eq ho.size.symm
          clear ho
          refine wpAnyH_ready (rs := [6]) (by kernel_rfl) (by simp) ?_
          refine AllReadyH.cons rfl (fun K hK => ?_) AllReadyH.nil
          go_simp
          refine hK.out _ _ hB9 (fun hH => ?_)
          clear hK K e0 e1 e2 e3 ef0 ef1 ef2 ef3 hB9
          generalize ((((Wq6.setCell ⟨Wq1.heap.size, 0, none⟩ (.int .u64 (lim (siz a / siz b) 0))).setCell ⟨Wq1.heap.size, 1, none⟩ (.int .u64 (lim (siz a / siz b) 1))).setCell ⟨Wq1.heap.size, 2, none⟩ (.int .u64 (lim (siz a / siz b) 2))).setCell ⟨Wq1.heap.size, 3, none⟩ (.int .u64 (lim (siz a / siz b) 3))) = Wy7 at hH R5 hz9 ⊢
          refine wpAnyH_done (by kernel_rfl) ?_ _
          have hb5 : Wq1.heap.size < Wy7.heap.size := by omega
          go_wp2
          refine wp_region_held_drew (S := fun W => Below W0.heap.size W0 W ∧ Row4 W (Wq1.heap.size) (lim (siz a / siz b) 0) (lim (siz a / siz b) 1) (lim (siz a / siz b) 2) (lim (siz a / siz b) 3) ∧ Wq1.heap.size < W.heap.size) (by kernel_rfl) ⟨hH.drew, R5.drew, hb5⟩ (fun hH => ?_)
          clear R5 hz9 hb5
          refine take_d (i := 0) (d := some 11) (v := .agg #[.int .u64 (lim a 0), .int .u64 (lim a 1), .int .u64 (lim a 2), .int .u64 (lim a 3)]) rfl rfl (by kernel_rfl) (by kernel_rfl) (by kernel_rfl) (fun _ _ _ h => h) (Or.inl ⟨by rfl, fun W hW => ?_⟩) hH ?_
          · obtain ⟨k0, k1, k2, k3⟩ := Eq4.keep h1 hW.1 z1
            clear hW hH
            go_simp
          simp only [Act.put, List.setIfInBounds_toArray, List.set_cons_zero, List.set_cons_succ]
          refine take_d (i := 2) (d := some 13) (v := .agg #[.int .u64 (lim b 0), .int .u64 (lim b 1), .int .u64 (lim b 2), .int .u64 (lim b 3)]) rfl rfl (by kernel_rfl) (by kernel_rfl) (by kernel_rfl) (fun _ _ _ h => h) (Or.inl ⟨by rfl, fun W hW => ?_⟩) hH ?_
          · obtain ⟨k0, k1, k2, k3⟩ := Eq4.keep h2 hW.1 z2
            clear hW hH
            go_simp
          simp only [Act.put, List.setIfInBounds_toArray, List.set_cons_zero, List.set_cons_succ]
          generalize Wy7.drew = Wz at hH ⊢
          refine wpAnyH_ready (rs := [1]) (by kernel_rfl) (by simp) ?_
          refine AllReadyH.cons rfl (fun K hK => ?_) AllReadyH.nil
          go_simp
          refine (HNA.out _).mono ?_
          rintro e wp1 ⟨rfl, hbn⟩
          go_wp2_with fail
          refine hK.out _ _ ⟨below_over0 hH.1 hbn, hH.2.1.below hbn hH.2.2, Nat.lt_of_lt_of_le hH.2.2 hbn.size⟩ (fun hH => ?_)
          clear hbn hK K
          refine wpAnyH_ready (rs := [3]) (by kernel_rfl) (by simp) ?_
          refine AllReadyH.cons rfl (fun K hK => ?_) AllReadyH.nil
          go_simp
          refine (HNB.out _).mono ?_
          rintro e wp3 ⟨rfl, hbn⟩
          go_wp2_with fail
          refine hK.out _ _ ⟨below_over0 hH.1 hbn, hH.2.1.below hbn hH.2.2, Nat.lt_of_lt_of_le hH.2.2 hbn.size⟩ (fun hH => ?_)
          clear hbn hK K
          refine take_d (i := 4) (d := some 15) (v := .bool false) rfl rfl (by kernel_rfl) (by kernel_rfl) (by kernel_rfl) (fun _ _ _ h => h) (Or.inl ⟨by rfl, fun W hW => ?_⟩) hH ?_
          · clear hW hH
            go_simp
          simp only [Act.put, List.setIfInBounds_toArray, List.set_cons_zero, List.set_cons_succ]
          refine wpAnyH_done (by kernel_rfl) ?_ _
          obtain ⟨hH, ⟨e0, e1, e2, e3, -⟩, hb5⟩ := hH
          obtain ⟨x0, x1, x2, x3, x4, x5, x6, x7⟩ := C2.below hH z3
          go_wp2
          simp [bodyPost, results, Try.results32, go_sem, x0, x1, x2, x3]
          exact set4_below (hB.trans (hH.mono hB.size)) (by omega) _
    · go_simp
      have hbn := below1 Wq0 (.cells #[.int .u64 0, .int .u64 0, .int .u64 0, .int .u64 0] 24)
      refine hK.out _ _ (below_over0 hH hbn) (fun hH => ?_)
      have R5 := row4_new Wq0 0 0 0 0
      have hz8 : Wq0.heap.size + 1 ≤ (Wq0.alloc (.cells #[.int .u64 0, .int .u64 0, .int .u64 0, .int .u64 0] 24)).heap.size := by simp
      clear hbn hK K
      generalize Wq0.alloc (.cells #[.int .u64 0, .int .u64 0, .int .u64 0, .int .u64 0] 24) = Wn8 at hH hz8 R5 ⊢
      have hw8 := hH.size
      refine wpAnyH_ready (rs := [3]) (by kernel_rfl) (by simp) ?_
      refine (AllReadyH.cons rfl (fun K hK => ?_) AllReadyH.nil)
      · go_simp
        refine (HSB.out _).mono ?_
        rintro e Wq9 ⟨rfl, hbn⟩
        go_wp2_with fail
        refine hK.out _ _ (below_over0 hH hbn) (fun hH => ?_)
        replace R5 := R5.below hbn (by omega)
        have hz9 := hbn.size
        clear hbn hK K
        refine wpAnyH_ready (rs := [4]) (by kernel_rfl) (by simp) ?_
        refine (AllReadyH.cons rfl (fun K hK => ?_) AllReadyH.nil)
        · go_simp
          refine (HIN.out _).mono ?_
          rintro e Wq10 ⟨rfl, hbn⟩
          go_wp2_with fail
          refine hK.out _ _ (below_over0 hH hbn) (fun hH => ?_)
          replace R5 := R5.below hbn (by omega)
          have hz10 := hbn.size
          clear hbn hK K
          obtain ⟨e0, e1, e2, e3, ef⟩ := id R5
          have ef0 := ef 0 (by decide); have ef1 := ef 1 (by decide); have ef2 := ef 2 (by decide); have ef3 := ef 3 (by decide)
          clear ef
          have ho : Only Wq10 ((((Wq10.setCell ⟨Wq0.heap.size, 0, none⟩ (.int .u64 (lim (siz a / siz b) 0))).setCell ⟨Wq0.heap.size, 1, none⟩ (.int .u64 (lim (siz a / siz b) 1))).setCell ⟨Wq0.heap.size, 2, none⟩ (.int .u64 (lim (siz a / siz b) 2))).setCell ⟨Wq0.heap.size, 3, none⟩ (.int .u64 (lim (siz a / siz b) 3))) (Wq0.heap.size) 0 4 := ((((Only.refl _ _ _ _).setCell _ _ (by omega) (by omega)).setCell _ _ (by omega) (by omega)).setCell _ _ (by omega) (by omega)).setCell _ _ (by omega) (by omega)
          replace R5 : Row4 ((((Wq10.setCell ⟨Wq0.heap.size, 0, none⟩ (.int .u64 (lim (siz a / siz b) 0))).setCell ⟨Wq0.heap.size, 1, none⟩ (.int .u64 (lim (siz a / siz b) 1))).setCell ⟨Wq0.heap.size, 2, none⟩ (.int .u64 (lim (siz a / siz b) 2))).setCell ⟨Wq0.heap.size, 3, none⟩ (.int .u64 (lim (siz a / siz b) 3))) (Wq0.heap.size) (lim (siz a / siz b) 0) (lim (siz a / siz b) 1) (lim (siz a / siz b) 2) (lim (siz a / siz b) 3) := ⟨by simp [go_sem, e0], by simp [go_sem, e1], by simp [go_sem, e2], by simp [go_sem, e3], fun j hj => (ho.frozen j).trans (R5.fz j hj)⟩
          have hB9 := hH.trans (ho.below (by omega))
          have hz9 := Nat.le_of_eq ho.size.symm
          clear ho
          refine wpAnyH_ready (rs := [6]) (by kernel_rfl) (by simp) ?_
          refine AllReadyH.cons rfl (fun K hK => ?_) AllReadyH.nil
          go_simp
          refine hK.out _ _ hB9 (fun hH => ?_)
          clear hK K e0 e1 e2 e3 ef0 ef1 ef2 ef3 hB9
          generalize ((((Wq10.setCell ⟨Wq0.heap.size, 0, none⟩ (.int .u64 (lim (siz a / siz b) 0))).setCell ⟨Wq0.heap.size, 1, none⟩ (.int .u64 (lim (siz a / siz b) 1))).setCell ⟨Wq0.heap.size, 2, none⟩ (.int .u64 (lim (siz a / siz b) 2))).setCell ⟨Wq0.heap.size, 3, none⟩ (.int .u64 (lim (siz a / siz b) 3))) = Wy11 at hH R5 hz9 ⊢
          refine wpAnyH_done (by kernel_rfl) ?_ _
          have hb5 : Wq0.heap.size < Wy11.heap.size := by omega
          go_wp2
          refine wp_region_held_drew (S := fun W => Below W0.heap.size W0 W ∧ Row4 W (Wq0.heap.size) (lim (siz a / siz b) 0) (lim (siz a / siz b) 1) (lim (siz a / siz b) 2) (lim (siz a / siz b) 3) ∧ Wq0.heap.size < W.heap.size) (by kernel_rfl) ⟨hH.drew, R5.drew, hb5⟩ (fun hH => ?_)
          clear R5 hz9 hb5
          refine take_d (i := 0) (d := some 11) (v := .agg #[.int .u64 (lim a 0), .int .u64 (lim a 1), .int .u64 (lim a 2), .int .u64 (lim a 3)]) rfl rfl (by kernel_rfl) (by kernel_rfl) (by kernel_rfl) (fun _ _ _ h => h) (Or.inl ⟨by rfl, fun W hW => ?_⟩) hH ?_
          · obtain ⟨k0, k1, k2, k3⟩ := Eq4.keep h1 hW.1 z1
            clear hW hH
            go_simp
          simp only [Act.put, List.setIfInBounds_toArray, List.set_cons_zero, List.set_cons_succ]
          refine take_d (i := 2) (d := some 13) (v := .agg #[.int .u64 (lim b 0), .int .u64 (lim b 1), .int .u64 (lim b 2), .int .u64 (lim b 3)]) rfl rfl (by kernel_rfl) (by kernel_rfl) (by kernel_rfl) (fun _ _ _ h => h) (Or.inl ⟨by rfl, fun W hW => ?_⟩) hH ?_
          · obtain ⟨k0, k1, k2, k3⟩ := Eq4.keep h2 hW.1 z2
            clear hW hH
            go_simp
          simp only [Act.put, List.setIfInBounds_toArray, List.set_cons_zero, List.set_cons_succ]
          generalize Wy11.drew = Wz at hH ⊢
          refine wpAnyH_ready (rs := [1]) (by kernel_rfl) (by simp) ?_
          refine AllReadyH.cons rfl (fun K hK => ?_) AllReadyH.nil
          go_simp
          refine (HNA.out _).mono ?_
          rintro e wp1 ⟨rfl, hbn⟩
          go_wp2_with fail
          refine hK.out _ _ ⟨below_over0 hH.1 hbn, hH.2.1.below hbn hH.2.2, Nat.lt_of_lt_of_le hH.2.2 hbn.size⟩ (fun hH => ?_)
          clear hbn hK K
          refine wpAnyH_ready (rs := [3]) (by kernel_rfl) (by simp) ?_
          refine AllReadyH.cons rfl (fun K hK => ?_) AllReadyH.nil
          go_simp
          refine (HNB.out _).mono ?_
          rintro e wp3 ⟨rfl, hbn⟩
          go_wp2_with fail
          refine hK.out _ _ ⟨below_over0 hH.1 hbn, hH.2.1.below hbn hH.2.2, Nat.lt_of_lt_of_le hH.2.2 hbn.size⟩ (fun hH => ?_)
          clear hbn hK K
          refine take_d (i := 4) (d := some 15) (v := .bool false) rfl rfl (by kernel_rfl) (by kernel_rfl) (by kernel_rfl) (fun _ _ _ h => h) (Or.inl ⟨by rfl, fun W hW => ?_⟩) hH ?_
          · clear hW hH
            go_simp
          simp only [Act.put, List.setIfInBounds_toArray, List.set_cons_zero, List.set_cons_succ]
          refine wpAnyH_done (by kernel_rfl) ?_ _
          obtain ⟨hH, ⟨e0, e1, e2, e3, -⟩, hb5⟩ := hH
          obtain ⟨x0, x1, x2, x3, x4, x5, x6, x7⟩ := C2.below hH z3
          go_wp2
          simp [bodyPost, results, Try.results32, go_sem, x0, x1, x2, x3]
          exact set4_below (hB.trans (hH.mono hB.size)) (by omega) _
  · go_simp
    have hbn := below1 Wa (.cells #[.int .u64 0, .int .u64 0, .int .u64 0, .int .u64 0] 24)
    refine hK.out _ _ (below_over0 hH hbn) (fun hH => ?_)
    have R5 := row4_new Wa 0 0 0 0
    have hz12 : Wa.heap.size + 1 ≤ (Wa.alloc (.cells #[.int .u64 0, .int .u64 0, .int .u64 0, .int .u64 0] 24)).heap.size := by simp
    clear hbn hK K
    generalize Wa.alloc (.cells #[.int .u64 0, .int .u64 0, .int .u64 0, .int .u64 0] 24) = Wn12 at hH hz12 R5 ⊢
    have hw12 := hH.size
    refine wpAnyH_ready (rs := [1]) (by kernel_rfl) (by simp) ?_
    refine (AllReadyH.cons rfl (fun K hK => ?_) AllReadyH.nil)
    · go_simp
      refine (HSA.out _).mono ?_
      rintro e Wq13 ⟨rfl, hbn⟩
      go_wp2_with fail
      refine hK.out _ _ (below_over0 hH hbn) (fun hH => ?_)
      replace R5 := R5.below hbn (by omega)
      have hz13 := hbn.size
      clear hbn hK K
      refine wpAnyH_ready (rs := [3]) (by kernel_rfl) (by simp) ?_
      refine (AllReadyH.cons rfl (fun K hK => ?_) AllReadyH.nil)
      · go_simp
        refine (HSB.out _).mono ?_
        rintro e Wq14 ⟨rfl, hbn⟩
        go_wp2_with fail
        refine hK.out _ _ (below_over0 hH hbn) (fun hH => ?_)
        replace R5 := R5.below hbn (by omega)
        have hz14 := hbn.size
        clear hbn hK K
        refine wpAnyH_ready (rs := [4]) (by kernel_rfl) (by simp) ?_
        refine (AllReadyH.cons rfl (fun K hK => ?_) AllReadyH.nil)
        · go_simp
          refine (HIN.out _).mono ?_
          rintro e Wq15 ⟨rfl, hbn⟩
          go_wp2_with fail
          refine hK.out _ _ (below_over0 hH hbn) (fun hH => ?_)
          replace R5 := R5.below hbn (by omega)
          have hz15 := hbn.size
          clear hbn hK K
          obtain ⟨e0, e1, e2, e3, ef⟩ := id R5
          have ef0 := ef 0 (by decide); have ef1 := ef 1 (by decide); have ef2 := ef 2 (by decide); have ef3 := ef 3 (by decide)
          clear ef
          have ho : Only Wq15 ((((Wq15.setCell ⟨Wa.heap.size, 0, none⟩ (.int .u64 (lim (siz a / siz b) 0))).setCell ⟨Wa.heap.size, 1, none⟩ (.int .u64 (lim (siz a / siz b) 1))).setCell ⟨Wa.heap.size, 2, none⟩ (.int .u64 (lim (siz a / siz b) 2))).setCell ⟨Wa.heap.size, 3, none⟩ (.int .u64 (lim (siz a / siz b) 3))) (Wa.heap.size) 0 4 := ((((Only.refl _ _ _ _).setCell _ _ (by omega) (by omega)).setCell _ _ (by omega) (by omega)).setCell _ _ (by omega) (by omega)).setCell _ _ (by omega) (by omega)
          replace R5 : Row4 ((((Wq15.setCell ⟨Wa.heap.size, 0, none⟩ (.int .u64 (lim (siz a / siz b) 0))).setCell ⟨Wa.heap.size, 1, none⟩ (.int .u64 (lim (siz a / siz b) 1))).setCell ⟨Wa.heap.size, 2, none⟩ (.int .u64 (lim (siz a / siz b) 2))).setCell ⟨Wa.heap.size, 3, none⟩ (.int .u64 (lim (siz a / siz b) 3))) (Wa.heap.size) (lim (siz a / siz b) 0) (lim (siz a / siz b) 1) (lim (siz a / siz b) 2) (lim (siz a / siz b) 3) := ⟨by simp [go_sem, e0], by simp [go_sem, e1], by simp [go_sem, e2], by simp [go_sem, e3], fun j hj => (ho.frozen j).trans (R5.fz j hj)⟩
          have hB9 := hH.trans (ho.below (by omega))
          have hz9 := Nat.le_of_eq ho.size.symm
          clear ho
          refine wpAnyH_ready (rs := [6]) (by kernel_rfl) (by simp) ?_
          refine AllReadyH.cons rfl (fun K hK => ?_) AllReadyH.nil
          go_simp
          refine hK.out _ _ hB9 (fun hH => ?_)
          clear hK K e0 e1 e2 e3 ef0 ef1 ef2 ef3 hB9
          generalize ((((Wq15.setCell ⟨Wa.heap.size, 0, none⟩ (.int .u64 (lim (siz a / siz b) 0))).setCell ⟨Wa.heap.size, 1, none⟩ (.int .u64 (lim (siz a / siz b) 1))).setCell ⟨Wa.heap.size, 2, none⟩ (.int .u64 (lim (siz a / siz b) 2))).setCell ⟨Wa.heap.size, 3, none⟩ (.int .u64 (lim (siz a / siz b) 3))) = Wy16 at hH R5 hz9 ⊢
          refine wpAnyH_done (by kernel_rfl) ?_ _
          have hb5 : Wa.heap.size < Wy16.heap.size := by omega
          go_wp2
          refine wp_region_held_drew (S := fun W => Below W0.heap.size W0 W ∧ Row4 W (Wa.heap.size) (lim (siz a / siz b) 0) (lim (siz a / siz b) 1) (lim (siz a / siz b) 2) (lim (siz a / siz b) 3) ∧ Wa.heap.size < W.heap.size) (by kernel_rfl) ⟨hH.drew, R5.drew, hb5⟩ (fun hH => ?_)
          clear R5 hz9 hb5
          refine take_d (i := 0) (d := some 11) (v := .agg #[.int .u64 (lim a 0), .int .u64 (lim a 1), .int .u64 (lim a 2), .int .u64 (lim a 3)]) rfl rfl (by kernel_rfl) (by kernel_rfl) (by kernel_rfl) (fun _ _ _ h => h) (Or.inl ⟨by rfl, fun W hW => ?_⟩) hH ?_
          · obtain ⟨k0, k1, k2, k3⟩ := Eq4.keep h1 hW.1 z1
            clear hW hH
            go_simp
          simp only [Act.put, List.setIfInBounds_toArray, List.set_cons_zero, List.set_cons_succ]
          refine take_d (i := 2) (d := some 13) (v := .agg #[.int .u64 (lim b 0), .int .u64 (lim b 1), .int .u64 (lim b 2), .int .u64 (lim b 3)]) rfl rfl (by kernel_rfl) (by kernel_rfl) (by kernel_rfl) (fun _ _ _ h => h) (Or.inl ⟨by rfl, fun W hW => ?_⟩) hH ?_
          · obtain ⟨k0, k1, k2, k3⟩ := Eq4.keep h2 hW.1 z2
            clear hW hH
            go_simp
          simp only [Act.put, List.setIfInBounds_toArray, List.set_cons_zero, List.set_cons_succ]
          generalize Wy16.drew = Wz at hH ⊢
          refine wpAnyH_ready (rs := [1]) (by kernel_rfl) (by simp) ?_
          refine AllReadyH.cons rfl (fun K hK => ?_) AllReadyH.nil
          go_simp
          refine (HNA.out _).mono ?_
          rintro e wp1 ⟨rfl, hbn⟩
          go_wp2_with fail
          refine hK.out _ _ ⟨below_over0 hH.1 hbn, hH.2.1.below hbn hH.2.2, Nat.lt_of_lt_of_le hH.2.2 hbn.size⟩ (fun hH => ?_)
          clear hbn hK K
          refine wpAnyH_ready (rs := [3]) (by kernel_rfl) (by simp) ?_
          refine AllReadyH.cons rfl (fun K hK => ?_) AllReadyH.nil
          go_simp
          refine (HNB.out _).mono ?_
          rintro e wp3 ⟨rfl, hbn⟩
          go_wp2_with fail
          refine hK.out _ _ ⟨below_over0 hH.1 hbn, hH.2.1.below hbn hH.2.2, Nat.lt_of_lt_of_le hH.2.2 hbn.size⟩ (fun hH => ?_)
          clear hbn hK K
          refine take_d (i := 4) (d := some 15) (v := .bool false) rfl rfl (by kernel_rfl) (by kernel_rfl) (by kernel_rfl) (fun _ _ _ h => h) (Or.inl ⟨by rfl, fun W hW => ?_⟩) hH ?_
          · clear hW hH
            go_simp
          simp only [Act.put, List.setIfInBounds_toArray, List.set_cons_zero, List.set_cons_succ]
          refine wpAnyH_done (by kernel_rfl) ?_ _
          obtain ⟨hH, ⟨e0, e1, e2, e3, -⟩, hb5⟩ := hH
          obtain ⟨x0, x1, x2, x3, x4, x5, x6, x7⟩ := C2.below hH z3
          go_wp2
          simp [bodyPost, results, Try.results32, go_sem, x0, x1, x2, x3]
          exact set4_below (hB.trans (hH.mono hB.size)) (by omega) _

set_option maxHeartbeats 8000000 in
theorem sdiv_tf (a b : Nat) (ha : a < M) (hb : b < M) (hna : neg a = true) (hnb : neg b = false) (w : World) :
    Calls Try.prog 32 #[wd a, wd b] w fun e w' => e = .returned (wd (opp (siz a / siz b))) ∧ Below w.heap.size w w' := by
  have HSA := Hid.mk' (size a ha)
  have HSB := Hid.mk' (size b hb)
  have HIN := Hid.mk' (div (siz a) (siz b) (siz_lt a ha) (siz_lt b hb))
  have HNA := Hid.mk' (negative a ha)
  have HNB := Hid.mk' (negative b hb)
  rw [hna] at HNA
  rw [hnb] at HNB
  have HNQ := Hid.mk' (negate (siz a / siz b) (div_lt _ _ (siz_lt a ha)))
  clear hna hnb
  obtain ⟨h1, h2, h3, ⟨z1, z2, z3⟩, hB⟩ := held_start w a b 0
  have e0 : put4 (put4 (put4 w a) b) 0 = ((w.alloc (.cells #[.int .u64 (lim a 0), .int .u64 (lim a 1), .int .u64 (lim a 2), .int .u64 (lim a 3)] 24)).alloc (.cells #[.int .u64 (lim b 0), .int .u64 (lim b 1), .int .u64 (lim b 2), .int .u64 (lim b 3)] 24)).alloc (.cells #[.int .u64 0, .int .u64 0, .int .u64 0, .int .u64 0] 24) := by
    unfold put4; simp [lim_z]
  have C2 : Cells4 (put4 (put4 (put4 w a) b) 0) (w.heap.size + 1 + 1) 0 := ⟨h3.1, h3.2.1, h3.2.2.1, h3.2.2.2, by simp [go_sem], by simp [go_sem], by simp [go_sem], by simp [go_sem]⟩
  clear h3
  rw [e0] at h1 h2 z1 z2 z3 hB C2
  clear e0
  go_enter Try.func32, Try.ntmps32
  go_wp2
  generalize ((w.alloc (.cells #[.int .u64 (lim a 0), .int .u64 (lim a 1), .int .u64 (lim a 2), .int .u64 (lim a 3)] 24)).alloc (.cells #[.int .u64 (lim b 0), .int .u64 (lim b 1), .int .u64 (lim b 2), .int .u64 (lim b 3)] 24)).alloc (.cells #[.int .u64 0, .int .u64 0, .int .u64 0, .int .u64 0] 24) = W0 at *
  refine wp_region_held_drew (S := fun W => Below W0.heap.size W0 W) (by kernel_rfl) (Below.refl _ _).drew (fun hH => ?_)
  refine take_d (i := 0) (d := some 6) (v := .agg #[.int .u64 (lim a 0), .int .u64 (lim a 1), .int .u64 (lim a 2), .int .u64 (lim a 3)]) rfl rfl (by kernel_rfl) (by kernel_rfl) (by kernel_rfl) (fun _ _ _ h => h) (Or.inl ⟨by rfl, fun W hW => ?_⟩) hH ?_
  · obtain ⟨k0, k1, k2, k3⟩ := Eq4.keep h1 hW z1
    clear hW hH
    go_simp
  simp only [Act.put, List.setIfInBounds_toArray, List.set_cons_zero, List.set_cons_succ]
  refine take_d (i := 2) (d := some 8) (v := .agg #[.int .u64 (lim b 0), .int .u64 (lim b 1), .int .u64 (lim b 2), .int .u64 (lim b 3)]) rfl rfl (by kernel_rfl) (by kernel_rfl) (by kernel_rfl) (fun _ _ _ h => h) (Or.inl ⟨by rfl, fun W hW => ?_⟩) hH ?_
  · obtain ⟨k0, k1, k2, k3⟩ := Eq4.keep h2 hW z2
    clear hW hH
    go_simp
  simp only [Act.put, List.setIfInBounds_toArray, List.set_cons_zero, List.set_cons_succ]
  generalize W0.drew = Wa at hH ⊢
  have hwa := hH.size
  refine wpAnyH_ready (rs := [1, 5]) (by kernel_rfl) (by simp) ?_
  refine (AllReadyH.cons rfl (fun K hK => ?_) (AllReadyH.cons rfl (fun K hK => ?_) AllReadyH.nil))
  · go_simp
    refine (HSA.out _).mono ?_
    rintro e Wq0 ⟨rfl, hbn⟩
    go_wp2_with fail
    refine hK.out _ _ (below_over0 hH hbn) (fun hH => ?_)
    have hz0 := hbn.size
    clear hbn hK K
    refine wpAnyH_ready (rs := [3, 5]) (by kernel_rfl) (by simp) ?_
    refine (AllReadyH.cons rfl (fun K hK => ?_) (AllReadyH.cons rfl (fun K hK => ?_) AllReadyH.nil))
    · go_simp
      refine (HSB.out _).mono ?_
      rintro e Wq1 ⟨rfl, hbn⟩
      go_wp2_with fail
      refine hK.out _ _ (below_over0 hH hbn) (fun hH => ?_)
      have hz1 := hbn.size
      clear hbn hK K
      refine wpAnyH_ready (rs := [4, 5]) (by kernel_rfl) (by simp) ?_
      refine (AllReadyH.cons rfl (fun K hK => ?_) (AllReadyH.cons rfl (fun K hK => ?_) AllReadyH.nil))
      · go_simp
        refine (HIN.out _).mono ?_
        rintro e Wq2 ⟨rfl, hbn⟩
        go_wp2_with fail
        refine hK.out _ _ (below_over0 hH hbn) (fun hH => ?_)
        have hz2 := hbn.size
        clear hbn hK K
        refine wpAnyH_ready (rs := [5]) (by kernel_rfl) (by simp) ?_
        refine (AllReadyH.cons rfl (fun K hK => ?_) AllReadyH.nil)
        · go_simp
          have hbn := below1 Wq2 (.cells #[.int .u64 0, .int .u64 0, .int .u64 0, .int .u64 0] 24)
          refine hK.out _ _ (below_over0 hH hbn) (fun hH => ?_)
          have R5 := row4_new Wq2 0 0 0 0
          have hz3 : Wq2.heap.size + 1 ≤ (Wq2.alloc (.cells #[.int .u64 0, .int .u64 0, .int .u64 0, .int .u64 0] 24)).heap.size := by simp
          clear hbn hK K
          generalize Wq2.alloc (.cells #[.int .u64 0, .int .u64 0, .int .u64 0, .int .u64 0] 24) = Wn3 at hH hz3 R5 ⊢
          have hw3 := hH.size
          obtain ⟨e0, e1, e2, e3, ef⟩ := id R5
          have ef0 := ef 0 (by decide); have ef1 := ef 1 (by decide); have ef2 := ef 2 (by decide); have ef3 := ef 3 (by decide)
          clear ef
          have ho : Only Wn3 ((((Wn3.setCell ⟨Wq2.heap.size, 0, none⟩ (.int .u64 (lim (siz a / siz b) 0))).setCell ⟨Wq2.heap.size, 1, none⟩ (.int .u64 (lim (siz a / siz b) 1))).setCell ⟨Wq2.heap.size, 2, none⟩ (.int .u64 (lim (siz a / siz b) 2))).setCell ⟨Wq2.heap.size, 3, none⟩ (.int .u64 (lim (siz a / siz b) 3))) (Wq2.heap.size) 0 4 := ((((Only.refl _ _ _ _).setCell _ _ (by omega) (by omega)).setCell _ _ (by omega) (by omega)).setCell _ _ (by omega) (by omega)).setCell _ _ (by omega) (by omega)
          replace R5 : Row4 ((((Wn3.setCell ⟨Wq2.heap.size, 0, none⟩ (.int .u64 (lim (siz a / siz b) 0))).setCell ⟨Wq2.heap.size, 1, none⟩ (.int .u64 (lim (siz a / siz b) 1))).setCell ⟨Wq2.heap.size, 2, none⟩ (.int .u64 (lim (siz a / siz b) 2))).setCell ⟨Wq2.heap.size, 3, none⟩ (.int .u64 (lim (siz a / siz b) 3))) (Wq2.heap.size) (lim (siz a / siz b) 0) (lim (siz a / siz b) 1) (lim (siz a / siz b) 2) (lim (siz a / siz b) 3) := ⟨by simp [go_sem, e0], by simp [go_sem, e1], by simp [go_sem, e2], by simp [go_sem, e3], fun j hj => (ho.frozen j).trans (R5.fz j hj)⟩
          have hB9 := hH.trans (ho.below (by omega))
          have hz9 := Nat.le_of_eq ho.size.symm
          clear ho
          refine wpAnyH_ready (rs := [6]) (by kernel_rfl) (by simp) ?_
          refine AllReadyH.cons rfl (fun K hK => ?_) AllReadyH.nil
          go_simp
          refine hK.out _ _ hB9 (fun hH => ?_)
          clear hK K e0 e1 e2 e3 ef0 ef1 ef2 ef3 hB9
          generalize ((((Wn3.setCell ⟨Wq2.heap.size, 0, none⟩ (.int .u64 (lim (siz a / siz b) 0))).setCell ⟨Wq2.heap.size, 1, none⟩ (.int .u64 (lim (siz a / siz b) 1))).setCell ⟨Wq2.heap.size, 2, none⟩ (.int .u64 (lim (siz a / siz b) 2))).setCell ⟨Wq2.heap.size, 3, none⟩ (.int .u64 (lim (siz a / siz b) 3))) = Wy4 at hH R5 hz9 ⊢
          refine wpAnyH_done (by kernel_rfl) ?_ _
          have hb5 : Wq2.heap.size < Wy4.heap.size := by omega
          go_wp2
          refine wp_region_held_drew (S := fun W => Below W0.heap.size W0 W ∧ Row4 W (Wq2.heap.size) (lim (siz a / siz b) 0) (lim (siz a / siz b) 1) (lim (siz a / siz b) 2) (lim (siz a / siz b) 3) ∧ Wq2.heap.size < W.heap.size) (by kernel_rfl) ⟨hH.drew, R5.drew, hb5⟩ (fun hH => ?_)
          clear R5 hz9 hb5
          refine take_d (i := 0) (d := some 11) (v := .agg #[.int .u64 (lim a 0), .int .u64 (lim a 1), .int .u64 (lim a 2), .int .u64 (lim a 3)]) rfl rfl (by kernel_rfl) (by kernel_rfl) (by kernel_rfl) (fun _ _ _ h => h) (Or.inl ⟨by rfl, fun W hW => ?_⟩) hH ?_
          · obtain ⟨k0, k1, k2, k3⟩ := Eq4.keep h1 hW.1 z1
            clear hW hH
            go_simp
          simp only [Act.put, List.setIfInBounds_toArray, List.set_cons_zero, List.set_cons_succ]
          refine take_d (i := 2) (d := some 13) (v := .agg #[.int .u64 (lim b 0), .int .u64 (lim b 1), .int .u64 (lim b 2), .int .u64 (lim b 3)]) rfl rfl (by kernel_rfl) (by kernel_rfl) (by kernel_rfl) (fun _ _ _ h => h) (Or.inl ⟨by rfl, fun W hW => ?_⟩) hH ?_
          · obtain ⟨k0, k1, k2, k3⟩ := Eq4.keep h2 hW.1 z2
            clear hW hH
            go_simp
          simp only [Act.put, List.setIfInBounds_toArray, List.set_cons_zero, List.set_cons_succ]
          generalize Wy4.drew = Wz at hH ⊢
          refine wpAnyH_ready (rs := [1]) (by kernel_rfl) (by simp) ?_
          refine AllReadyH.cons rfl (fun K hK => ?_) AllReadyH.nil
          go_simp
          refine (HNA.out _).mono ?_
          rintro e wp1 ⟨rfl, hbn⟩
          go_wp2_with fail
          refine hK.out _ _ ⟨below_over0 hH.1 hbn, hH.2.1.below hbn hH.2.2, Nat.lt_of_lt_of_le hH.2.2 hbn.size⟩ (fun hH => ?_)
          clear hbn hK K
          refine wpAnyH_ready (rs := [3]) (by kernel_rfl) (by simp) ?_
          refine AllReadyH.cons rfl (fun K hK => ?_) AllReadyH.nil
          go_simp
          refine (HNB.out _).mono ?_
          rintro e wp3 ⟨rfl, hbn⟩
          go_wp2_with fail
          refine hK.out _ _ ⟨below_over0 hH.1 hbn, hH.2.1.below hbn hH.2.2, Nat.lt_of_lt_of_le hH.2.2 hbn.size⟩ (fun hH => ?_)
          clear hbn hK K
          refine take_d (i := 4) (d := some 15) (v := .bool true) rfl rfl (by kernel_rfl) (by kernel_rfl) (by kernel_rfl) (fun _ _ _ h => h) (Or.inl ⟨by rfl, fun W hW => ?_⟩) hH ?_
          · clear hW hH
            go_simp
          simp only [Act.put, List.setIfInBounds_toArray, List.set_cons_zero, List.set_cons_succ]
          refine wpAnyH_done (by kernel_rfl) ?_ _
          obtain ⟨hH, ⟨e0, e1, e2, e3, -⟩, hb5⟩ := hH
          go_wp2_with fail
          refine (HNQ.out _).mono ?_
          rintro e wl ⟨rfl, hbl⟩
          have hTl := below_over0 hH hbl
          obtain ⟨x0, x1, x2, x3, x4, x5, x6, x7⟩ := C2.below hTl z3
          clear e0 e1 e2 e3 hbl
          go_wp2
          simp [bodyPost, results, Try.results32, go_sem, x0, x1, x2, x3]
          exact set4_below (hB.trans (hTl.mono hB.size)) (by omega) _
      · go_simp
        have hbn := below1 Wq1 (.cells #[.int .u64 0, .int .u64 0, .int .u64 0, .int .u64 0] 24)
        refine hK.out _ _ (below_over0 hH hbn) (fun hH => ?_)
        have R5 := row4_new Wq1 0 0 0 0
        have hz5 : Wq1.heap.size + 1 ≤ (Wq1.alloc (.cells #[.int .u64 0, .int .u64 0, .int .u64 0, .int .u64 0] 24)).heap.size := by simp
        clear hbn hK K
        generalize Wq1.alloc (.cells #[.int .u64 0, .int .u64 0, .int .u64 0, .int .u64 0] 24) = Wn5 at hH hz5 R5 ⊢
        have hw5 := hH.size
        refine wpAnyH_ready (rs := [4]) (by kernel_rfl) (by simp) ?_
        refine (AllReadyH.cons rfl (fun K hK => ?_) AllReadyH.nil)
        · go_simp
          refine (HIN.out _).mono ?_
          rintro e Wq6 ⟨rfl, hbn⟩
          go_wp2_with fail
          refine hK.out _ _ (below_over0 hH hbn) (fun hH => ?_)
          replace R5 := R5.below hbn (by omega)
          have hz6 := hbn.size
          clear hbn hK K
          obtain ⟨e0, e1, e2, e3, ef⟩ := id R5
          have ef0 := ef 0 (by decide); have ef1 := ef 1 (by decide); have ef2 := ef 2 (by decide); have ef3 := ef 3 (by decide)
          clear ef
          have ho : Only Wq6 ((((Wq6.setCell ⟨Wq1.heap.size, 0, none⟩ (.int .u64 (lim (siz a / siz b) 0))).setCell ⟨Wq1.heap.size, 1, none⟩ (.int .u64 (lim (siz a / siz b) 1))).setCell ⟨Wq1.heap.size, 2, none⟩ (.int .u64 (lim (siz a / siz b) 2))).setCell ⟨Wq1.heap.size, 3, none⟩ (.int .u64 (lim (siz a / siz b) 3))) (Wq1.heap.size) 0 4 := ((((Only.refl _ _ _ _).setCell _ _ (by omega) (by omega)).setCell _ _ (by omega) (by omega)).setCell _ _ (by omega) (by omega)).setCell _ _ (by omega) (by omega)
          replace R5 : Row4 ((((Wq6.setCell ⟨Wq1.heap.size, 0, none⟩ (.int .u64 (lim (siz a / siz b) 0))).setCell ⟨Wq1.heap.size, 1, none⟩ (.int .u64 (lim (siz a / siz b) 1))).setCell ⟨Wq1.heap.size, 2, none⟩ (.int .u64 (lim (siz a / siz b) 2))).setCell ⟨Wq1.heap.size, 3, none⟩ (.int .u64 (lim (siz a / siz b) 3))) (Wq1.heap.size) (lim (siz a / siz b) 0) (lim (siz a / siz b) 1) (lim (siz a / siz b) 2) (lim (siz a / siz b) 3) := ⟨by simp [go_sem, e0], by simp [go_sem, e1], by simp [go_sem, e2], by simp [go_sem, e3], fun j hj => (ho.frozen j).trans (R5.fz j hj)⟩
          have hB9 := hH.trans (ho.below (by omega))
          have hz9 := Nat.le_of_eq ho.size.symm
          clear ho
          refine wpAnyH_ready (rs := [6]) (by kernel_rfl) (by simp) ?_
          refine AllReadyH.cons rfl (fun K hK => ?_) AllReadyH.nil
          go_simp
          refine hK.out _ _ hB9 (fun hH => ?_)
          clear hK K e0 e1 e2 e3 ef0 ef1 ef2 ef3 hB9
          generalize ((((Wq6.setCell ⟨Wq1.heap.size, 0, none⟩ (.int .u64 (lim (siz a / siz b) 0))).setCell ⟨Wq1.heap.size, 1, none⟩ (.int .u64 (lim (siz a / siz b) 1))).setCell ⟨Wq1.heap.size, 2, none⟩ (.int .u64 (lim (siz a / siz b) 2))).setCell ⟨Wq1.heap.size, 3, none⟩ (.int .u64 (lim (siz a / siz b) 3))) = Wy7 at hH R5 hz9 ⊢
          refine wpAnyH_done (by kernel_rfl) ?_ _
          have hb5 : Wq1.heap.size < Wy7.heap.size := by omega
          go_wp2
          refine wp_region_held_drew (S := fun W => Below W0.heap.size W0 W ∧ Row4 W (Wq1.heap.size) (lim (siz a / siz b) 0) (lim (siz a / siz b) 1) (lim (siz a / siz b) 2) (lim (siz a / siz b) 3) ∧ Wq1.heap.size < W.heap.size) (by kernel_rfl) ⟨hH.drew, R5.drew, hb5⟩ (fun hH => ?_)
          clear R5 hz9 hb5
          refine take_d (i := 0) (d := some 11) (v := .agg #[.int .u64 (lim a 0), .int .u64 (lim a 1), .int .u64 (lim a 2), .int .u64 (lim a 3)]) rfl rfl (by kernel_rfl) (by kernel_rfl) (by kernel_rfl) (fun _ _ _ h => h) (Or.inl ⟨by rfl, fun W hW => ?_⟩) hH ?_
          · obtain ⟨k0, k1, k2, k3⟩ := Eq4.keep h1 hW.1 z1
            clear hW hH
            go_simp
          simp only [Act.put, List.setIfInBounds_toArray, List.set_cons_zero, List.set_cons_succ]
          refine take_d (i := 2) (d := some 13) (v := .agg #[.int .u64 (lim b 0), .int .u64 (lim b 1), .int .u64 (lim b 2), .int .u64 (lim b 3)]) rfl rfl (by kernel_rfl) (by kernel_rfl) (by kernel_rfl) (fun _ _ _ h => h) (Or.inl ⟨by rfl, fun W hW => ?_⟩) hH ?_
          · obtain ⟨k0, k1, k2, k3⟩ := Eq4.keep h2 hW.1 z2
            clear hW hH
            go_simp
          simp only [Act.put, List.setIfInBounds_toArray, List.set_cons_zero, List.set_cons_succ]
          generalize Wy7.drew = Wz at hH ⊢
          refine wpAnyH_ready (rs := [1]) (by kernel_rfl) (by simp) ?_
          refine AllReadyH.cons rfl (fun K hK => ?_) AllReadyH.nil
          go_simp
          refine (HNA.out _).mono ?_
          rintro e wp1 ⟨rfl, hbn⟩
          go_wp2_with fail
          refine hK.out _ _ ⟨below_over0 hH.1 hbn, hH.2.1.below hbn hH.2.2, Nat.lt_of_lt_of_le hH.2.2 hbn.size⟩ (fun hH => ?_)
          clear hbn hK K
          refine wpAnyH_ready (rs := [3]) (by kernel_rfl) (by simp) ?_
          refine AllReadyH.cons rfl (fun K hK => ?_) AllReadyH.nil
          go_simp
          refine (HNB.out _).mono ?_
          rintro e wp3 ⟨rfl, hbn⟩
          go_wp2_with fail
          refine hK.out _ _ ⟨below_over0 hH.1 hbn, hH.2.1.below hbn hH.2.2, Nat.lt_of_lt_of_le hH.2.2 hbn.size⟩ (fun hH => ?_)
          clear hbn hK K
          refine take_d (i := 4) (d := some 15) (v := .bool true) rfl rfl (by kernel_rfl) (by kernel_rfl) (by kernel_rfl) (fun _ _ _ h => h) (Or.inl ⟨by rfl, fun W hW => ?_⟩) hH ?_
          · clear hW hH
            go_simp
          simp only [Act.put, List.setIfInBounds_toArray, List.set_cons_zero, List.set_cons_succ]
          refine wpAnyH_done (by kernel_rfl) ?_ _
          obtain ⟨hH, ⟨e0, e1, e2, e3, -⟩, hb5⟩ := hH
          go_wp2_with fail
          refine (HNQ.out _).mono ?_
          rintro e wl ⟨rfl, hbl⟩
          have hTl := below_over0 hH hbl
          obtain ⟨x0, x1, x2, x3, x4, x5, x6, x7⟩ := C2.below hTl z3
          clear e0 e1 e2 e3 hbl
          go_wp2
          simp [bodyPost, results, Try.results32, go_sem, x0, x1, x2, x3]
          exact set4_below (hB.trans (hTl.mono hB.size)) (by omega) _
    · go_simp
      have hbn := below1 Wq0 (.cells #[.int .u64 0, .int .u64 0, .int .u64 0, .int .u64 0] 24)
      refine hK.out _ _ (below_over0 hH hbn) (fun hH => ?_)
      have R5 := row4_new Wq0 0 0 0 0
      have hz8 : Wq0.heap.size + 1 ≤ (Wq0.alloc (.cells #[.int .u64 0, .int .u64 0, .int .u64 0, .int .u64 0] 24)).heap.size := by simp
      clear hbn hK K
      generalize Wq0.alloc (.cells #[.int .u64 0, .int .u64 0, .int .u64 0, .int .u64 0] 24) = Wn8 at hH hz8 R5 ⊢
      have hw8 := hH.size
      refine wpAnyH_ready (rs := [3]) (by kernel_rfl) (by simp) ?_
      refine (AllReadyH.cons rfl (fun K hK => ?_) AllReadyH.nil)
      · go_simp
        refine (HSB.out _).mono ?_
        rintro e Wq9 ⟨rfl, hbn⟩
        go_wp2_with fail
        refine hK.out _ _ (below_over0 hH hbn) (fun hH => ?_)
        replace R5 := R5.below hbn (by omega)
        have hz9 := hbn.size
        clear hbn hK K
        refine wpAnyH_ready (rs := [4]) (by kernel_rfl) (by simp) ?_
        refine (AllReadyH.cons rfl (fun K hK => ?_) AllReadyH.nil)
        · go_simp
          refine (HIN.out _).mono ?_
          rintro e Wq10 ⟨rfl, hbn⟩
          go_wp2_with fail
          refine hK.out _ _ (below_over0 hH hbn) (fun hH => ?_)
          replace R5 := R5.below hbn (by omega)
          have hz10 := hbn.size
          clear hbn hK K
          obtain ⟨e0, e1, e2, e3, ef⟩ := id R5
          have ef0 := ef 0 (by decide); have ef1 := ef 1 (by decide); have ef2 := ef 2 (by decide); have ef3 := ef 3 (by decide)
          clear ef
          have ho : Only Wq10 ((((Wq10.setCell ⟨Wq0.heap.size, 0, none⟩ (.int .u64 (lim (siz a / siz b) 0))).setCell ⟨Wq0.heap.size, 1, none⟩ (.int .u64 (lim (siz a / siz b) 1))).setCell ⟨Wq0.heap.size, 2, none⟩ (.int .u64 (lim (siz a / siz b) 2))).setCell ⟨Wq0.heap.size, 3, none⟩ (.int .u64 (lim (siz a / siz b) 3))) (Wq0.heap.size) 0 4 := ((((Only.refl _ _ _ _).setCell _ _ (by omega) (by omega)).setCell _ _ (by omega) (by omega)).setCell _ _ (by omega) (by omega)).setCell _ _ (by omega) (by omega)
          replace R5 : Row4 ((((Wq10.setCell ⟨Wq0.heap.size, 0, none⟩ (.int .u64 (lim (siz a / siz b) 0))).setCell ⟨Wq0.heap.size, 1, none⟩ (.int .u64 (lim (siz a / siz b) 1))).setCell ⟨Wq0.heap.size, 2, none⟩ (.int .u64 (lim (siz a / siz b) 2))).setCell ⟨Wq0.heap.size, 3, none⟩ (.int .u64 (lim (siz a / siz b) 3))) (Wq0.heap.size) (lim (siz a / siz b) 0) (lim (siz a / siz b) 1) (lim (siz a / siz b) 2) (lim (siz a / siz b) 3) := ⟨by simp [go_sem, e0], by simp [go_sem, e1], by simp [go_sem, e2], by simp [go_sem, e3], fun j hj => (ho.frozen j).trans (R5.fz j hj)⟩
          have hB9 := hH.trans (ho.below (by omega))
          have hz9 := Nat.le_of_eq ho.size.symm
          clear ho
          refine wpAnyH_ready (rs := [6]) (by kernel_rfl) (by simp) ?_
          refine AllReadyH.cons rfl (fun K hK => ?_) AllReadyH.nil
          go_simp
          refine hK.out _ _ hB9 (fun hH => ?_)
          clear hK K e0 e1 e2 e3 ef0 ef1 ef2 ef3 hB9
          generalize ((((Wq10.setCell ⟨Wq0.heap.size, 0, none⟩ (.int .u64 (lim (siz a / siz b) 0))).setCell ⟨Wq0.heap.size, 1, none⟩ (.int .u64 (lim (siz a / siz b) 1))).setCell ⟨Wq0.heap.size, 2, none⟩ (.int .u64 (lim (siz a / siz b) 2))).setCell ⟨Wq0.heap.size, 3, none⟩ (.int .u64 (lim (siz a / siz b) 3))) = Wy11 at hH R5 hz9 ⊢
          refine wpAnyH_done (by kernel_rfl) ?_ _
          have hb5 : Wq0.heap.size < Wy11.heap.size := by omega
          go_wp2
          refine wp_region_held_drew (S := fun W => Below W0.heap.size W0 W ∧ Row4 W (Wq0.heap.size) (lim (siz a / siz b) 0) (lim (siz a / siz b) 1) (lim (siz a / siz b) 2) (lim (siz a / siz b) 3) ∧ Wq0.heap.size < W.heap.size) (by kernel_rfl) ⟨hH.drew, R5.drew, hb5⟩ (fun hH => ?_)
          clear R5 hz9 hb5
          refine take_d (i := 0) (d := some 11) (v := .agg #[.int .u64 (lim a 0), .int .u64 (lim a 1), .int .u64 (lim a 2), .int .u64 (lim a 3)]) rfl rfl (by kernel_rfl) (by kernel_rfl) (by kernel_rfl) (fun _ _ _ h => h) (Or.inl ⟨by rfl, fun W hW => ?_⟩) hH ?_
          · obtain ⟨k0, k1, k2, k3⟩ := Eq4.keep h1 hW.1 z1
            clear hW hH
            go_simp
          simp only [Act.put, List.setIfInBounds_toArray, List.set_cons_zero, List.set_cons_succ]
          refine take_d (i := 2) (d := some 13) (v := .agg #[.int .u64 (lim b 0), .int .u64 (lim b 1), .int .u64 (lim b 2), .int .u64 (lim b 3)]) rfl rfl (by kernel_rfl) (by kernel_rfl) (by kernel_rfl) (fun _ _ _ h => h) (Or.inl ⟨by rfl, fun W hW => ?_⟩) hH ?_
          · obtain ⟨k0, k1, k2, k3⟩ := Eq4.keep h2 hW.1 z2
            clear hW hH
            go_simp
          simp only [Act.put, List.setIfInBounds_toArray, List.set_cons_zero, List.set_cons_succ]
          generalize Wy11.drew = Wz at hH ⊢
          refine wpAnyH_ready (rs := [1]) (by kernel_rfl) (by simp) ?_
          refine AllReadyH.cons rfl (fun K hK => ?_) AllReadyH.nil
          go_simp
          refine (HNA.out _).mono ?_
          rintro e wp1 ⟨rfl, hbn⟩
          go_wp2_with fail
          refine hK.out _ _ ⟨below_over0 hH.1 hbn, hH.2.1.below hbn hH.2.2, Nat.lt_of_lt_of_le hH.2.2 hbn.size⟩ (fun hH => ?_)
          clear hbn hK K
          refine wpAnyH_ready (rs := [3]) (by kernel_rfl) (by simp) ?_
          refine AllReadyH.cons rfl (fun K hK => ?_) AllReadyH.nil
          go_simp
          refine (HNB.out _).mono ?_
          rintro e wp3 ⟨rfl, hbn⟩
          go_wp2_with fail
          refine hK.out _ _ ⟨below_over0 hH.1 hbn, hH.2.1.below hbn hH.2.2, Nat.lt_of_lt_of_le hH.2.2 hbn.size⟩ (fun hH => ?_)
          clear hbn hK K
          refine take_d (i := 4) (d := some 15) (v := .bool true) rfl rfl (by kernel_rfl) (by kernel_rfl) (by kernel_rfl) (fun _ _ _ h => h) (Or.inl ⟨by rfl, fun W hW => ?_⟩) hH ?_
          · clear hW hH
            go_simp
          simp only [Act.put, List.setIfInBounds_toArray, List.set_cons_zero, List.set_cons_succ]
          refine wpAnyH_done (by kernel_rfl) ?_ _
          obtain ⟨hH, ⟨e0, e1, e2, e3, -⟩, hb5⟩ := hH
          go_wp2_with fail
          refine (HNQ.out _).mono ?_
          rintro e wl ⟨rfl, hbl⟩
          have hTl := below_over0 hH hbl
          obtain ⟨x0, x1, x2, x3, x4, x5, x6, x7⟩ := C2.below hTl z3
          clear e0 e1 e2 e3 hbl
          go_wp2
          simp [bodyPost, results, Try.results32, go_sem, x0, x1, x2, x3]
          exact set4_below (hB.trans (hTl.mono hB.size)) (by omega) _
  · go_simp
    have hbn := below1 Wa (.cells #[.int .u64 0, .int .u64 0, .int .u64 0, .int .u64 0] 24)
    refine hK.out _ _ (below_over0 hH hbn) (fun hH => ?_)
    have R5 := row4_new Wa 0 0 0 0
    have hz12 : Wa.heap.size + 1 ≤ (Wa.alloc (.cells #[.int .u64 0, .int .u64 0, .int .u64 0, .int .u64 0] 24)).heap.size := by simp
    clear hbn hK K
    generalize Wa.alloc (.cells #[.int .u64 0, .int .u64 0, .int .u64 0, .int .u64 0] 24) = Wn12 at hH hz12 R5 ⊢
    have hw12 := hH.size
    refine wpAnyH_ready (rs := [1]) (by kernel_rfl) (by simp) ?_
    refine (AllReadyH.cons rfl (fun K hK => ?_) AllReadyH.nil)
    · go_simp
      refine (HSA.out _).mono ?_
      rintro e Wq13 ⟨rfl, hbn⟩
      go_wp2_with fail
      refine hK.out _ _ (below_over0 hH hbn) (fun hH => ?_)
      replace R5 := R5.below hbn (by omega)
      have hz13 := hbn.size
      clear hbn hK K
      refine wpAnyH_ready (rs := [3]) (by kernel_rfl) (by simp) ?_
      refine (AllReadyH.cons rfl (fun K hK => ?_) AllReadyH.nil)
      · go_simp
        refine (HSB.out _).mono ?_
        rintro e Wq14 ⟨rfl, hbn⟩
        go_wp2_with fail
        refine hK.out _ _ (below_over0 hH hbn) (fun hH => ?_)
        replace R5 := R5.below hbn (by omega)
        have hz14 := hbn.size
        clear hbn hK K
        refine wpAnyH_ready (rs := [4]) (by kernel_rfl) (by simp) ?_
        refine (AllReadyH.cons rfl (fun K hK => ?_) AllReadyH.nil)
        · go_simp
          refine (HIN.out _).mono ?_
          rintro e Wq15 ⟨rfl, hbn⟩
          go_wp2_with fail
          refine hK.out _ _ (below_over0 hH hbn) (fun hH => ?_)
          replace R5 := R5.below hbn (by omega)
          have hz15 := hbn.size
          clear hbn hK K
          obtain ⟨e0, e1, e2, e3, ef⟩ := id R5
          have ef0 := ef 0 (by decide); have ef1 := ef 1 (by decide); have ef2 := ef 2 (by decide); have ef3 := ef 3 (by decide)
          clear ef
          have ho : Only Wq15 ((((Wq15.setCell ⟨Wa.heap.size, 0, none⟩ (.int .u64 (lim (siz a / siz b) 0))).setCell ⟨Wa.heap.size, 1, none⟩ (.int .u64 (lim (siz a / siz b) 1))).setCell ⟨Wa.heap.size, 2, none⟩ (.int .u64 (lim (siz a / siz b) 2))).setCell ⟨Wa.heap.size, 3, none⟩ (.int .u64 (lim (siz a / siz b) 3))) (Wa.heap.size) 0 4 := ((((Only.refl _ _ _ _).setCell _ _ (by omega) (by omega)).setCell _ _ (by omega) (by omega)).setCell _ _ (by omega) (by omega)).setCell _ _ (by omega) (by omega)
          replace R5 : Row4 ((((Wq15.setCell ⟨Wa.heap.size, 0, none⟩ (.int .u64 (lim (siz a / siz b) 0))).setCell ⟨Wa.heap.size, 1, none⟩ (.int .u64 (lim (siz a / siz b) 1))).setCell ⟨Wa.heap.size, 2, none⟩ (.int .u64 (lim (siz a / siz b) 2))).setCell ⟨Wa.heap.size, 3, none⟩ (.int .u64 (lim (siz a / siz b) 3))) (Wa.heap.size) (lim (siz a / siz b) 0) (lim (siz a / siz b) 1) (lim (siz a / siz b) 2) (lim (siz a / siz b) 3) := ⟨by simp [go_sem, e0], by simp [go_sem, e1], by simp [go_sem, e2], by simp [go_sem, e3], fun j hj => (ho.frozen j).trans (R5.fz j hj)⟩
          have hB9 := hH.trans (ho.below (by omega))
          have hz9 := Nat.le_of_eq ho.size.symm
          clear ho
          refine wpAnyH_ready (rs := [6]) (by kernel_rfl) (by simp) ?_
          refine AllReadyH.cons rfl (fun K hK => ?_) AllReadyH.nil
          go_simp
          refine hK.out _ _ hB9 (fun hH => ?_)
          clear hK K e0 e1 e2 e3 ef0 ef1 ef2 ef3 hB9
          generalize ((((Wq15.setCell ⟨Wa.heap.size, 0, none⟩ (.int .u64 (lim (siz a / siz b) 0))).setCell ⟨Wa.heap.size, 1, none⟩ (.int .u64 (lim (siz a / siz b) 1))).setCell ⟨Wa.heap.size, 2, none⟩ (.int .u64 (lim (siz a / siz b) 2))).setCell ⟨Wa.heap.size, 3, none⟩ (.int .u64 (lim (siz a / siz b) 3))) = Wy16 at hH R5 hz9 ⊢
          refine wpAnyH_done (by kernel_rfl) ?_ _
          have hb5 : Wa.heap.size < Wy16.heap.size := by omega
          go_wp2
          refine wp_region_held_drew (S := fun W => Below W0.heap.size W0 W ∧ Row4 W (Wa.heap.size) (lim (siz a / siz b) 0) (lim (siz a / siz b) 1) (lim (siz a / siz b) 2) (lim (siz a / siz b) 3) ∧ Wa.heap.size < W.heap.size) (by kernel_rfl) ⟨hH.drew, R5.drew, hb5⟩ (fun hH => ?_)
          clear R5 hz9 hb5
          refine take_d (i := 0) (d := some 11) (v := .agg #[.int .u64 (lim a 0), .int .u64 (lim a 1), .int .u64 (lim a 2), .int .u64 (lim a 3)]) rfl rfl (by kernel_rfl) (by kernel_rfl) (by kernel_rfl) (fun _ _ _ h => h) (Or.inl ⟨by rfl, fun W hW => ?_⟩) hH ?_
          · obtain ⟨k0, k1, k2, k3⟩ := Eq4.keep h1 hW.1 z1
            clear hW hH
            go_simp
          simp only [Act.put, List.setIfInBounds_toArray, List.set_cons_zero, List.set_cons_succ]
          refine take_d (i := 2) (d := some 13) (v := .agg #[.int .u64 (lim b 0), .int .u64 (lim b 1), .int .u64 (lim b 2), .int .u64 (lim b 3)]) rfl rfl (by kernel_rfl) (by kernel_rfl) (by kernel_rfl) (fun _ _ _ h => h) (Or.inl ⟨by rfl, fun W hW => ?_⟩) hH ?_
          · obtain ⟨k0, k1, k2, k3⟩ := Eq4.keep h2 hW.1 z2
            clear hW hH
            go_simp
          simp only [Act.put, List.setIfInBounds_toArray, List.set_cons_zero, List.set_cons_succ]
          generalize Wy16.drew = Wz at hH ⊢
          refine wpAnyH_ready (rs := [1]) (by kernel_rfl) (by simp) ?_
          refine AllReadyH.cons rfl (fun K hK => ?_) AllReadyH.nil
          go_simp
          refine (HNA.out _).mono ?_
          rintro e wp1 ⟨rfl, hbn⟩
          go_wp2_with fail
          refine hK.out _ _ ⟨below_over0 hH.1 hbn, hH.2.1.below hbn hH.2.2, Nat.lt_of_lt_of_le hH.2.2 hbn.size⟩ (fun hH => ?_)
          clear hbn hK K
          refine wpAnyH_ready (rs := [3]) (by kernel_rfl) (by simp) ?_
          refine AllReadyH.cons rfl (fun K hK => ?_) AllReadyH.nil
          go_simp
          refine (HNB.out _).mono ?_
          rintro e wp3 ⟨rfl, hbn⟩
          go_wp2_with fail
          refine hK.out _ _ ⟨below_over0 hH.1 hbn, hH.2.1.below hbn hH.2.2, Nat.lt_of_lt_of_le hH.2.2 hbn.size⟩ (fun hH => ?_)
          clear hbn hK K
          refine take_d (i := 4) (d := some 15) (v := .bool true) rfl rfl (by kernel_rfl) (by kernel_rfl) (by kernel_rfl) (fun _ _ _ h => h) (Or.inl ⟨by rfl, fun W hW => ?_⟩) hH ?_
          · clear hW hH
            go_simp
          simp only [Act.put, List.setIfInBounds_toArray, List.set_cons_zero, List.set_cons_succ]
          refine wpAnyH_done (by kernel_rfl) ?_ _
          obtain ⟨hH, ⟨e0, e1, e2, e3, -⟩, hb5⟩ := hH
          go_wp2_with fail
          refine (HNQ.out _).mono ?_
          rintro e wl ⟨rfl, hbl⟩
          have hTl := below_over0 hH hbl
          obtain ⟨x0, x1, x2, x3, x4, x5, x6, x7⟩ := C2.below hTl z3
          clear e0 e1 e2 e3 hbl
          go_wp2
          simp [bodyPost, results, Try.results32, go_sem, x0, x1, x2, x3]
          exact set4_below (hB.trans (hTl.mono hB.size)) (by omega) _

set_option maxHeartbeats 8000000 in
theorem sdiv_ft (a b : Nat) (ha : a < M) (hb : b < M) (hna : neg a = false) (hnb : neg b = true) (w : World) :
    Calls Try.prog 32 #[wd a, wd b] w fun e w' => e = .returned (wd (opp (siz a / siz b))) ∧ Below w.heap.size w w' := by
  have HSA := Hid.mk' (size a ha)
  have HSB := Hid.mk' (size b hb)
  have HIN := Hid.mk' (div (siz a) (siz b) (siz_lt a ha) (siz_lt b hb))
  have HNA := Hid.mk' (negative a ha)
  have HNB := Hid.mk' (negative b hb)
  rw [hna] at HNA
  rw [hnb] at HNB
  have HNQ := Hid.mk' (negate (siz a / siz b) (div_lt _ _ (siz_lt a ha)))
  clear hna hnb
  obtain ⟨h1, h2, h3, ⟨z1, z2, z3⟩, hB⟩ := held_start w a b 0
  have e0 : put4 (put4 (put4 w a) b) 0 = ((w.alloc (.cells #[.int .u64 (lim a 0), .int .u64 (lim a 1), .int .u64 (lim a 2), .int .u64 (lim a 3)] 24)).alloc (.cells #[.int .u64 (lim b 0), .int .u64 (lim b 1), .int .u64 (lim b 2), .int .u64 (lim b 3)] 24)).alloc (.cells #[.int .u64 0, .int .u64 0, .int .u64 0, .int .u64 0] 24) := by
    unfold put4; simp [lim_z]
  have C2 : Cells4 (put4 (put4 (put4 w a) b) 0) (w.heap.size + 1 + 1) 0 := ⟨h3.1, h3.2.1, h3.2.2.1, h3.2.2.2, by simp [go_sem], by simp [go_sem], by simp [go_sem], by simp [go_sem]⟩
  clear h3
  rw [e0] at h1 h2 z1 z2 z3 hB C2
  clear e0
  go_enter Try.func32, Try.ntmps32
  go_wp2
  generalize ((w.alloc (.cells #[.int .u64 (lim a 0), .int .u64 (lim a 1), .int .u64 (lim a 2), .int .u64 (lim a 3)] 24)).alloc (.cells #[.int .u64 (lim b 0), .int .u64 (lim b 1), .int .u64 (lim b 2), .int .u64 (lim b 3)] 24)).alloc (.cells #[.int .u64 0, .int .u64 0, .int .u64 0, .int .u64 0] 24) = W0 at *
  refine wp_region_held_drew (S := fun W => Below W0.heap.size W0 W) (by kernel_rfl) (Below.refl _ _).drew (fun hH => ?_)
  refine take_d (i := 0) (d := some 6) (v := .agg #[.int .u64 (lim a 0), .int .u64 (lim a 1), .int .u64 (lim a 2), .int .u64 (lim a 3)]) rfl rfl (by kernel_rfl) (by kernel_rfl) (by kernel_rfl) (fun _ _ _ h => h) (Or.inl ⟨by rfl, fun W hW => ?_⟩) hH ?_
  · obtain ⟨k0, k1, k2, k3⟩ := Eq4.keep h1 hW z1
    clear hW hH
    go_simp
  simp only [Act.put, List.setIfInBounds_toArray, List.set_cons_zero, List.set_cons_succ]
  refine take_d (i := 2) (d := some 8) (v := .agg #[.int .u64 (lim b 0), .int .u64 (lim b 1), .int .u64 (lim b 2), .int .u64 (lim b 3)]) rfl rfl (by kernel_rfl) (by kernel_rfl) (by kernel_rfl) (fun _ _ _ h => h) (Or.inl ⟨by rfl, fun W hW => ?_⟩) hH ?_
  · obtain ⟨k0, k1, k2, k3⟩ := Eq4.keep h2 hW z2
    clear hW hH
    go_simp
  simp only [Act.put, List.setIfInBounds_toArray, List.set_cons_zero, List.set_cons_succ]
  generalize W0.drew = Wa at hH ⊢
  have hwa := hH.size
  refine wpAnyH_ready (rs := [1, 5]) (by kernel_rfl) (by simp) ?_
  refine (AllReadyH.cons rfl (fun K hK => ?_) (AllReadyH.cons rfl (fun K hK => ?_) AllReadyH.nil))
  · go_simp
    refine (HSA.out _).mono ?_
    rintro e Wq0 ⟨rfl, hbn⟩
    go_wp2_with fail
    refine hK.out _ _ (below_over0 hH hbn) (fun hH => ?_)
    have hz0 := hbn.size
    clear hbn hK K
    refine wpAnyH_ready (rs := [3, 5]) (by kernel_rfl) (by simp) ?_
    refine (AllReadyH.cons rfl (fun K hK => ?_) (AllReadyH.cons rfl (fun K hK => ?_) AllReadyH.nil))
    · go_simp
      refine (HSB.out _).mono ?_
      rintro e Wq1 ⟨rfl, hbn⟩
      go_wp2_with fail
      refine hK.out _ _ (below_over0 hH hbn) (fun hH => ?_)
      have hz1 := hbn.size
      clear hbn hK K
      refine wpAnyH_ready (rs := [4, 5]) (by kernel_rfl) (by simp) ?_
      refine (AllReadyH.cons rfl (fun K hK => ?_) (AllReadyH.cons rfl (fun K hK => ?_) AllReadyH.nil))
      · go_simp
        refine (HIN.out _).mono ?_
        rintro e Wq2 ⟨rfl, hbn⟩
        go_wp2_with fail
        refine hK.out _ _ (below_over0 hH hbn) (fun hH => ?_)
        have hz2 := hbn.size
        clear hbn hK K
        refine wpAnyH_ready (rs := [5]) (by kernel_rfl) (by simp) ?_
        refine (AllReadyH.cons rfl (fun K hK => ?_) AllReadyH.nil)
        · go_simp
          have hbn := below1 Wq2 (.cells #[.int .u64 0, .int .u64 0, .int .u64 0, .int .u64 0] 24)
          refine hK.out _ _ (below_over0 hH hbn) (fun hH => ?_)
          have R5 := row4_new Wq2 0 0 0 0
          have hz3 : Wq2.heap.size + 1 ≤ (Wq2.alloc (.cells #[.int .u64 0, .int .u64 0, .int .u64 0, .int .u64 0] 24)).heap.size := by simp
          clear hbn hK K
          generalize Wq2.alloc (.cells #[.int .u64 0, .int .u64 0, .int .u64 0, .int .u64 0] 24) = Wn3 at hH hz3 R5 ⊢
          have hw3 := hH.size
          obtain ⟨e0, e1, e2, e3, ef⟩ := id R5
          have ef0 := ef 0 (by decide); have ef1 := ef 1 (by decide); have ef2 := ef 2 (by decide); have ef3 := ef 3 (by decide)
          clear ef
          have ho : Only Wn3 ((((Wn3.setCell ⟨Wq2.heap.size, 0, none⟩ (.int .u64 (lim (siz a / siz b) 0))).setCell ⟨Wq2.heap.size, 1, none⟩ (.int .u64 (lim (siz a / siz b) 1))).setCell ⟨Wq2.heap.size, 2, none⟩ (.int .u64 (lim (siz a / siz b) 2))).setCell ⟨Wq2.heap.size, 3, none⟩ (.int .u64 (lim (siz a / siz b) 3))) (Wq2.heap.size) 0 4 := ((((Only.refl _ _ _ _).setCell _ _ (by omega) (by omega)).setCell _ _ (by omega) (by omega)).setCell _ _ (by omega) (by omega)).setCell _ _ (by omega) (by omega)
          replace R5 : Row4 ((((Wn3.setCell ⟨Wq2.heap.size, 0, none⟩ (.int .u64 (lim (siz a / siz b) 0))).setCell ⟨Wq2.heap.size, 1, none⟩ (.int .u64 (lim (siz a / siz b) 1))).setCell ⟨Wq2.heap.size, 2, none⟩ (.int .u64 (lim (siz a / siz b) 2))).setCell ⟨Wq2.heap.size, 3, none⟩ (.int .u64 (lim (siz a / siz b) 3))) (Wq2.heap.size) (lim (siz a / siz b) 0) (lim (siz a / siz b) 1) (lim (siz a / siz b) 2) (lim (siz a / siz b) 3) := ⟨by simp [go_sem, e0], by simp [go_sem, e1], by simp [go_sem, e2], by simp [go_sem, e3], fun j hj => (ho.frozen j).trans (R5.fz j hj)⟩
          have hB9 := hH.trans (ho.below (by omega))
          have hz9 := Nat.le_of_eq ho.size.symm
          clear ho
          refine wpAnyH_ready (rs := [6]) (by kernel_rfl) (by simp) ?_
          refine AllReadyH.cons rfl (fun K hK => ?_) AllReadyH.nil
          go_simp
          refine hK.out _ _ hB9 (fun hH => ?_)
          clear hK K e0 e1 e2 e3 ef0 ef1 ef2 ef3 hB9
          generalize ((((Wn3.setCell ⟨Wq2.heap.size, 0, none⟩ (.int .u64 (lim (siz a / siz b) 0))).setCell ⟨Wq2.heap.size, 1, none⟩ (.int .u64 (lim (siz a / siz b) 1))).setCell ⟨Wq2.heap.size, 2, none⟩ (.int .u64 (lim (siz a / siz b) 2))).setCell ⟨Wq2.heap.size, 3, none⟩ (.int .u64 (lim (siz a / siz b) 3))) = Wy4 at hH R5 hz9 ⊢
          refine wpAnyH_done (by kernel_rfl) ?_ _
          have hb5 : Wq2.heap.size < Wy4.heap.size := by omega
          go_wp2
          refine wp_region_held_drew (S := fun W => Below W0.heap.size W0 W ∧ Row4 W (Wq2.heap.size) (lim (siz a / siz b) 0) (lim (siz a / siz b) 1) (lim (siz a / siz b) 2) (lim (siz a / siz b) 3) ∧ Wq2.heap.size < W.heap.size) (by kernel_rfl) ⟨hH.drew, R5.drew, hb5⟩ (fun hH => ?_)
          clear R5 hz9 hb5
          refine take_d (i := 0) (d := some 11) (v := .agg #[.int .u64 (lim a 0), .int .u64 (lim a 1), .int .u64 (lim a 2), .int .u64 (lim a 3)]) rfl rfl (by kernel_rfl) (by kernel_rfl) (by kernel_rfl) (fun _ _ _ h => h) (Or.inl ⟨by rfl, fun W hW => ?_⟩) hH ?_
          · obtain ⟨k0, k1, k2, k3⟩ := Eq4.keep h1 hW.1 z1
            clear hW hH
            go_simp
          simp only [Act.put, List.setIfInBounds_toArray, List.set_cons_zero, List.set_cons_succ]
          refine take_d (i := 2) (d := some 13) (v := .agg #[.int .u64 (lim b 0), .int .u64 (lim b 1), .int .u64 (lim b 2), .int .u64 (lim b 3)]) rfl rfl (by kernel_rfl) (by kernel_rfl) (by kernel_rfl) (fun _ _ _ h => h) (Or.inl ⟨by rfl, fun W hW => ?_⟩) hH ?_
          · obtain ⟨k0, k1, k2, k3⟩ := Eq4.keep h2 hW.1 z2
            clear hW hH
            go_simp
          simp only [Act.put, List.setIfInBounds_toArray, List.set_cons_zero, List.set_cons_succ]
          generalize Wy4.drew = Wz at hH ⊢
          refine wpAnyH_ready (rs := [1]) (by kernel_rfl) (by simp) ?_
          refine AllReadyH.cons rfl (fun K hK => ?_) AllReadyH.nil
          go_simp
          refine (HNA.out _).mono ?_
          rintro e wp1 ⟨rfl, hbn⟩
          go_wp2_with fail
          refine hK.out _ _ ⟨below_over0 hH.1 hbn, hH.2.1.below hbn hH.2.2, Nat.lt_of_lt_of_le hH.2.2 hbn.size⟩ (fun hH => ?_)
          clear hbn hK K
          refine wpAnyH_ready (rs := [3]) (by kernel_rfl) (by simp) ?_
          refine AllReadyH.cons rfl (fun K hK => ?_) AllReadyH.nil
          go_simp
          refine (HNB.out _).mono ?_
          rintro e wp3 ⟨rfl, hbn⟩
          go_wp2_with fail
          refine hK.out _ _ ⟨below_over0 hH.1 hbn, hH.2.1.below hbn hH.2.2, Nat.lt_of_lt_of_le hH.2.2 hbn.size⟩ (fun hH => ?_)
          clear hbn hK K
          refine take_d (i := 4) (d := some 15) (v := .bool true) rfl rfl (by kernel_rfl) (by kernel_rfl) (by kernel_rfl) (fun _ _ _ h => h) (Or.inl ⟨by rfl, fun W hW => ?_⟩) hH ?_
          · clear hW hH
            go_simp
          simp only [Act.put, List.setIfInBounds_toArray, List.set_cons_zero, List.set_cons_succ]
          refine wpAnyH_done (by kernel_rfl) ?_ _
          obtain ⟨hH, ⟨e0, e1, e2, e3, -⟩, hb5⟩ := hH
          go_wp2_with fail
          refine (HNQ.out _).mono ?_
          rintro e wl ⟨rfl, hbl⟩
          have hTl := below_over0 hH hbl
          obtain ⟨x0, x1, x2, x3, x4, x5, x6, x7⟩ := C2.below hTl z3
          clear e0 e1 e2 e3 hbl
          go_wp2
          simp [bodyPost, results, Try.results32, go_sem, x0, x1, x2, x3]
          exact set4_below (hB.trans (hTl.mono hB.size)) (by omega) _
      · go_simp
        have hbn := below1 Wq1 (.cells #[.int .u64 0, .int .u64 0, .int .u64 0, .int .u64 0] 24)
        refine hK.out _ _ (below_over0 hH hbn) (fun hH => ?_)
        have R5 := row4_new Wq1 0 0 0 0
        have hz5 : Wq1.heap.size + 1 ≤ (Wq1.alloc (.cells #[.int .u64 0, .int .u64 0, .int .u64 0, .int .u64 0] 24)).heap.size := by simp
        clear hbn hK K
        generalize Wq1.alloc (.cells #[.int .u64 0, .int .u64 0, .int .u64 0, .int .u64 0] 24) = Wn5 at hH hz5 R5 ⊢
        have hw5 := hH.size
        refine wpAnyH_ready (rs := [4]) (by kernel_rfl) (by simp) ?_
        refine (AllReadyH.cons rfl (fun K hK => ?_) AllReadyH.nil)
        · go_simp
          refine (HIN.out _).mono ?_
          rintro e Wq6 ⟨rfl, hbn⟩
          go_wp2_with fail
          refine hK.out _ _ (below_over0 hH hbn) (fun hH => ?_)
          replace R5 := R5.below hbn (by omega)
          have hz6 := hbn.size
          clear hbn hK K
          obtain ⟨e0, e1, e2, e3, ef⟩ := id R5
          have ef0 := ef 0 (by decide); have ef1 := ef 1 (by decide); have ef2 := ef 2 (by decide); have ef3 := ef 3 (by decide)
          clear ef
          have ho : Only Wq6 ((((Wq6.setCell ⟨Wq1.heap.size, 0, none⟩ (.int .u64 (lim (siz a / siz b) 0))).setCell ⟨Wq1.heap.size, 1, none⟩ (.int .u64 (lim (siz a / siz b) 1))).setCell ⟨Wq1.heap.size, 2, none⟩ (.int .u64 (lim (siz a / siz b) 2))).setCell ⟨Wq1.heap.size, 3, none⟩ (.int .u64 (lim (siz a / siz b) 3))) (Wq1.heap.size) 0 4 := ((((Only.refl _ _ _ _).setCell _ _ (by omega) (by omega)).setCell _ _ (by omega) (by omega)).setCell _ _ (by omega) (by omega)).setCell _ _ (by omega) (by omega)
          replace R5 : Row4 ((((Wq6.setCell ⟨Wq1.heap.size, 0, none⟩ (.int .u64 (lim (siz a / siz b) 0))).setCell ⟨Wq1.heap.size, 1, none⟩ (.int .u64 (lim (siz a / siz b) 1))).setCell ⟨Wq1.heap.size, 2, none⟩ (.int .u64 (lim (siz a / siz b) 2))).setCell ⟨Wq1.heap.size, 3, none⟩ (.int .u64 (lim (siz a / siz b) 3))) (Wq1.heap.size) (lim (siz a / siz b) 0) (lim (siz a / siz b) 1) (lim (siz a / siz b) 2) (lim (siz a / siz b) 3) := ⟨by simp [go_sem, e0], by simp [go_sem, e1], by simp [go_sem, e2], by simp [go_sem, e3], fun j hj => (ho.frozen j).trans (R5.fz j hj)⟩
          have hB9 := hH.trans (ho.below (by omega))
          have hz9 := Nat.le_of_eq ho.size.symm
          clear ho
          refine wpAnyH_ready (rs := [6]) (by kernel_rfl) (by simp) ?_
          refine AllReadyH.cons rfl (fun K hK => ?_) AllReadyH.nil
          go_simp
          refine hK.out _ _ hB9 (fun hH => ?_)
          clear hK K e0 e1 e2 e3 ef0 ef1 ef2 ef3 hB9
          generalize ((((Wq6.setCell ⟨Wq1.heap.size, 0, none⟩ (.int .u64 (lim (siz a / siz b) 0))).setCell ⟨Wq1.heap.size, 1, none⟩ (.int .u64 (lim (siz a / siz b) 1))).setCell ⟨Wq1.heap.size, 2, none⟩ (.int .u64 (lim (siz a / siz b) 2))).setCell ⟨Wq1.heap.size, 3, none⟩ (.int .u64 (lim (siz a / siz b) 3))) = Wy7 at hH R5 hz9 ⊢
          refine wpAnyH_done (by kernel_rfl) ?_ _
          have hb5 : Wq1.heap.size < Wy7.heap.size := by omega
          go_wp2
          refine wp_region_held_drew (S := fun W => Below W0.heap.size W0 W ∧ Row4 W (Wq1.heap.size) (lim (siz a / siz b) 0) (lim (siz a / siz b) 1) (lim (siz a / siz b) 2) (lim (siz a / siz b) 3) ∧ Wq1.heap.size < W.heap.size) (by kernel_rfl) ⟨hH.drew, R5.drew, hb5⟩ (fun hH => ?_)
          clear R5 hz9 hb5
          refine take_d (i := 0) (d := some 11) (v := .agg #[.int .u64 (lim a 0), .int .u64 (lim a 1), .int .u64 (lim a 2), .int .u64 (lim a 3)]) rfl rfl (by kernel_rfl) (by kernel_rfl) (by kernel_rfl) (fun _ _ _ h => h) (Or.inl ⟨by rfl, fun W hW => ?_⟩) hH ?_
          · obtain ⟨k0, k1, k2, k3⟩ := Eq4.keep h1 hW.1 z1
            clear hW hH
            go_simp
          simp only [Act.put, List.setIfInBounds_toArray, List.set_cons_zero, List.set_cons_succ]
          refine take_d (i := 2) (d := some 13) (v := .agg #[.int .u64 (lim b 0), .int .u64 (lim b 1), .int .u64 (lim b 2), .int .u64 (lim b 3)]) rfl rfl (by kernel_rfl) (by kernel_rfl) (by kernel_rfl) (fun _ _ _ h => h) (Or.inl ⟨by rfl, fun W hW => ?_⟩) hH ?_
          · obtain ⟨k0, k1, k2, k3⟩ := Eq4.keep h2 hW.1 z2
            clear hW hH
            go_simp
          simp only [Act.put, List.setIfInBounds_toArray, List.set_cons_zero, List.set_cons_succ]
          generalize Wy7.drew = Wz at hH ⊢
          refine wpAnyH_ready (rs := [1]) (by kernel_rfl) (by simp) ?_
          refine AllReadyH.cons rfl (fun K hK => ?_) AllReadyH.nil
          go_simp
          refine (HNA.out _).mono ?_
          rintro e wp1 ⟨rfl, hbn⟩
          go_wp2_with fail
          refine hK.out _ _ ⟨below_over0 hH.1 hbn, hH.2.1.below hbn hH.2.2, Nat.lt_of_lt_of_le hH.2.2 hbn.size⟩ (fun hH => ?_)
          clear hbn hK K
          refine wpAnyH_ready (rs := [3]) (by kernel_rfl) (by simp) ?_
          refine AllReadyH.cons rfl (fun K hK => ?_) AllReadyH.nil
          go_simp
          refine (HNB.out _).mono ?_
          rintro e wp3 ⟨rfl, hbn⟩
          go_wp2_with fail
          refine hK.out _ _ ⟨below_over0 hH.1 hbn, hH.2.1.below hbn hH.2.2, Nat.lt_of_lt_of_le hH.2.2 hbn.size⟩ (fun hH => ?_)
          clear hbn hK K
          refine take_d (i := 4) (d := some 15) (v := .bool true) rfl rfl (by kernel_rfl) (by kernel_rfl) (by kernel_rfl) (fun _ _ _ h => h) (Or.inl ⟨by rfl, fun W hW => ?_⟩) hH ?_
          · clear hW hH
            go_simp
          simp only [Act.put, List.setIfInBounds_toArray, List.set_cons_zero, List.set_cons_succ]
          refine wpAnyH_done (by kernel_rfl) ?_ _
          obtain ⟨hH, ⟨e0, e1, e2, e3, -⟩, hb5⟩ := hH
          go_wp2_with fail
          refine (HNQ.out _).mono ?_
          rintro e wl ⟨rfl, hbl⟩
          have hTl := below_over0 hH hbl
          obtain ⟨x0, x1, x2, x3, x4, x5, x6, x7⟩ := C2.below hTl z3
          clear e0 e1 e2 e3 hbl
          go_wp2
          simp [bodyPost, results, Try.results32, go_sem, x0, x1, x2, x3]
          exact set4_below (hB.trans (hTl.mono hB.size)) (by omega) _
    · go_simp
      have hbn := below1 Wq0 (.cells #[.int .u64 0, .int .u64 0, .int .u64 0, .int .u64 0] 24)
      refine hK.out _ _ (below_over0 hH hbn) (fun hH => ?_)
      have R5 := row4_new Wq0 0 0 0 0
      have hz8 : Wq0.heap.size + 1 ≤ (Wq0.alloc (.cells #[.int .u64 0, .int .u64 0, .int .u64 0, .int .u64 0] 24)).heap.size := by simp
      clear hbn hK K
      generalize Wq0.alloc (.cells #[.int .u64 0, .int .u64 0, .int .u64 0, .int .u64 0] 24) = Wn8 at hH hz8 R5 ⊢
      have hw8 := hH.size
      refine wpAnyH_ready (rs := [3]) (by kernel_rfl) (by simp) ?_
      refine (AllReadyH.cons rfl (fun K hK => ?_) AllReadyH.nil)
      · go_simp
        refine (HSB.out _).mono ?_
        rintro e Wq9 ⟨rfl, hbn⟩
        go_wp2_with fail
        refine hK.out _ _ (below_over0 hH hbn) (fun hH => ?_)
        replace R5 := R5.below hbn (by omega)
        have hz9 := hbn.size
        clear hbn hK K
        refine wpAnyH_ready (rs := [4]) (by kernel_rfl) (by simp) ?_
        refine (AllReadyH.cons rfl (fun K hK => ?_) AllReadyH.nil)
        · go_simp
          refine (HIN.out _).mono ?_
          rintro e Wq10 ⟨rfl, hbn⟩
          go_wp2_with fail
          refine hK.out _ _ (below_over0 hH hbn) (fun hH => ?_)
          replace R5 := R5.below hbn (by omega)
          have hz10 := hbn.size
          clear hbn hK K
          obtain ⟨e0, e1, e2, e3, ef⟩ := id R5
          have ef0 := ef 0 (by decide); have ef1 := ef 1 (by decide); have ef2 := ef 2 (by decide); have ef3 := ef 3 (by decide)
          clear ef
          have ho : Only Wq10 ((((Wq10.setCell ⟨Wq0.heap.size, 0, none⟩ (.int .u64 (lim (siz a / siz b) 0))).setCell ⟨Wq0.heap.size, 1, none⟩ (.int .u64 (lim (siz a / siz b) 1))).setCell ⟨Wq0.heap.size, 2, none⟩ (.int .u64 (lim (siz a / siz b) 2))).setCell ⟨Wq0.heap.size, 3, none⟩ (.int .u64 (lim (siz a / siz b) 3))) (Wq0.heap.size) 0 4 := ((((Only.refl _ _ _ _).setCell _ _ (by omega) (by omega)).setCell _ _ (by omega) (by omega)).setCell _ _ (by omega) (by omega)).setCell _ _ (by omega) (by omega)
          replace R5 : Row4 ((((Wq10.setCell ⟨Wq0.heap.size, 0, none⟩ (.int .u64 (lim (siz a / siz b) 0))).setCell ⟨Wq0.heap.size, 1, none⟩ (.int .u64 (lim (siz a / siz b) 1))).setCell ⟨Wq0.heap.size, 2, none⟩ (.int .u64 (lim (siz a / siz b) 2))).setCell ⟨Wq0.heap.size, 3, none⟩ (.int .u64 (lim (siz a / siz b) 3))) (Wq0.heap.size) (lim (siz a / siz b) 0) (lim (siz a / siz b) 1) (lim (siz a / siz b) 2) (lim (siz a / siz b) 3) := ⟨by simp [go_sem, e0], by simp [go_sem, e1], by simp [go_sem, e2], by simp [go_sem, e3], fun j hj => (ho.frozen j).trans (R5.fz j hj)⟩
          have hB9 := hH.trans (ho.below (by omega))
          have hz9 := Nat.le_of_eq ho.size.symm
          clear ho
          refine wpAnyH_ready (rs := [6]) (by kernel_rfl) (by simp) ?_
          refine AllReadyH.cons rfl (fun K hK => ?_) AllReadyH.nil
          go_simp
          refine hK.out _ _ hB9 (fun hH => ?_)
          clear hK K e0 e1 e2 e3 ef0 ef1 ef2 ef3 hB9
          generalize ((((Wq10.setCell ⟨Wq0.heap.size, 0, none⟩ (.int .u64 (lim (siz a / siz b) 0))).setCell ⟨Wq0.heap.size, 1, none⟩ (.int .u64 (lim (siz a / siz b) 1))).setCell ⟨Wq0.heap.size, 2, none⟩ (.int .u64 (lim (siz a / siz b) 2))).setCell ⟨Wq0.heap.size, 3, none⟩ (.int .u64 (lim (siz a / siz b) 3))) = Wy11 at hH R5 hz9 ⊢
          refine wpAnyH_done (by kernel_rfl) ?_ _
          have hb5 : Wq0.heap.size < Wy11.heap.size := by omega
          go_wp2
          refine wp_region_held_drew (S := fun W => Below W0.heap.size W0 W ∧ Row4 W (Wq0.heap.size) (lim (siz a / siz b) 0) (lim (siz a / siz b) 1) (lim (siz a / siz b) 2) (lim (siz a / siz b) 3) ∧ Wq0.heap.size < W.heap.size) (by kernel_rfl) ⟨hH.drew, R5.drew, hb5⟩ (fun hH => ?_)
          clear R5 hz9 hb5
          refine take_d (i := 0) (d := some 11) (v := .agg #[.int .u64 (lim a 0), .int .u64 (lim a 1), .int .u64 (lim a 2), .int .u64 (lim a 3)]) rfl rfl (by kernel_rfl) (by kernel_rfl) (by kernel_rfl) (fun _ _ _ h => h) (Or.inl ⟨by rfl, fun W hW => ?_⟩) hH ?_
          · obtain ⟨k0, k1, k2, k3⟩ := Eq4.keep h1 hW.1 z1
            clear hW hH
            go_simp
          simp only [Act.put, List.setIfInBounds_toArray, List.set_cons_zero, List.set_cons_succ]
          refine take_d (i := 2) (d := some 13) (v := .agg #[.int .u64 (lim b 0), .int .u64 (lim b 1), .int .u64 (lim b 2), .int .u64 (lim b 3)]) rfl rfl (by kernel_rfl) (by kernel_rfl) (by kernel_rfl) (fun _ _ _ h => h) (Or.inl ⟨by rfl, fun W hW => ?_⟩) hH ?_
          · obtain ⟨k0, k1, k2, k3⟩ := Eq4.keep h2 hW.1 z2
            clear hW hH
            go_simp
          simp only [Act.put, List.setIfInBounds_toArray, List.set_cons_zero, List.set_cons_succ]
          generalize Wy11.drew = Wz at hH ⊢
          refine wpAnyH_ready (rs := [1]) (by kernel_rfl) (by simp) ?_
          refine AllReadyH.cons rfl (fun K hK => ?_) AllReadyH.nil
          go_simp
          refine (HNA.out _).mono ?_
          rintro e wp1 ⟨rfl, hbn⟩
          go_wp2_with fail
          refine hK.out _ _ ⟨below_over0 hH.1 hbn, hH.2.1.below hbn hH.2.2, Nat.lt_of_lt_of_le hH.2.2 hbn.size⟩ (fun hH => ?_)
          clear hbn hK K
          refine wpAnyH_ready (rs := [3]) (by kernel_rfl) (by simp) ?_
          refine AllReadyH.cons rfl (fun K hK => ?_) AllReadyH.nil
          go_simp
          refine (HNB.out _).mono ?_
          rintro e wp3 ⟨rfl, hbn⟩
          go_wp2_with fail
          refine hK.out _ _ ⟨below_over0 hH.1 hbn, hH.2.1.below hbn hH.2.2, Nat.lt_of_lt_of_le hH.2.2 hbn.size⟩ (fun hH => ?_)
          clear hbn hK K
          refine take_d (i := 4) (d := some 15) (v := .bool true) rfl rfl (by kernel_rfl) (by kernel_rfl) (by kernel_rfl) (fun _ _ _ h => h) (Or.inl ⟨by rfl, fun W hW => ?_⟩) hH ?_
          · clear hW hH
            go_simp
          simp only [Act.put, List.setIfInBounds_toArray, List.set_cons_zero, List.set_cons_succ]
          refine wpAnyH_done (by kernel_rfl) ?_ _
          obtain ⟨hH, ⟨e0, e1, e2, e3, -⟩, hb5⟩ := hH
          go_wp2_with fail
          refine (HNQ.out _).mono ?_
          rintro e wl ⟨rfl, hbl⟩
          have hTl := below_over0 hH hbl
          obtain ⟨x0, x1, x2, x3, x4, x5, x6, x7⟩ := C2.below hTl z3
          clear e0 e1 e2 e3 hbl
          go_wp2
          simp [bodyPost, results, Try.results32, go_sem, x0, x1, x2, x3]
          exact set4_below (hB.trans (hTl.mono hB.size)) (by omega) _
  · go_simp
    have hbn := below1 Wa (.cells #[.int .u64 0, .int .u64 0, .int .u64 0, .int .u64 0] 24)
    refine hK.out _ _ (below_over0 hH hbn) (fun hH => ?_)
    have R5 := row4_new Wa 0 0 0 0
    have hz12 : Wa.heap.size + 1 ≤ (Wa.alloc (.cells #[.int .u64 0, .int .u64 0, .int .u64 0, .int .u64 0] 24)).heap.size := by simp
    clear hbn hK K
    generalize Wa.alloc (.cells #[.int .u64 0, .int .u64 0, .int .u64 0, .int .u64 0] 24) = Wn12 at hH hz12 R5 ⊢
    have hw12 := hH.size
    refine wpAnyH_ready (rs := [1]) (by kernel_rfl) (by simp) ?_
    refine (AllReadyH.cons rfl (fun K hK => ?_) AllReadyH.nil)
    · go_simp
      refine (HSA.out _).mono ?_
      rintro e Wq13 ⟨rfl, hbn⟩
      go_wp2_with fail
      refine hK.out _ _ (below_over0 hH hbn) (fun hH => ?_)
      replace R5 := R5.below hbn (by omega)
      have hz13 := hbn.size
      clear hbn hK K
      refine wpAnyH_ready (rs := [3]) (by kernel_rfl) (by simp) ?_
      refine (AllReadyH.cons rfl (fun K hK => ?_) AllReadyH.nil)
      · go_simp
        refine (HSB.out _).mono ?_
        rintro e Wq14 ⟨rfl, hbn⟩
        go_wp2_with fail
        refine hK.out _ _ (below_over0 hH hbn) (fun hH => ?_)
        replace R5 := R5.below hbn (by omega)
        have hz14 := hbn.size
        clear hbn hK K
        refine wpAnyH_ready (rs := [4]) (by kernel_rfl) (by simp) ?_
        refine (AllReadyH.cons rfl (fun K hK => ?_) AllReadyH.nil)
        · go_simp
          refine (HIN.out _).mono ?_
          rintro e Wq15 ⟨rfl, hbn⟩
          go_wp2_with fail
          refine hK.out _ _ (below_over0 hH hbn) (fun hH => ?_)
          replace R5 := R5.below hbn (by omega)
          have hz15 := hbn.size
          clear hbn hK K
          obtain ⟨e0, e1, e2, e3, ef⟩ := id R5
          have ef0 := ef 0 (by decide); have ef1 := ef 1 (by decide); have ef2 := ef 2 (by decide); have ef3 := ef 3 (by decide)
          clear ef
          have ho : Only Wq15 ((((Wq15.setCell ⟨Wa.heap.size, 0, none⟩ (.int .u64 (lim (siz a / siz b) 0))).setCell ⟨Wa.heap.size, 1, none⟩ (.int .u64 (lim (siz a / siz b) 1))).setCell ⟨Wa.heap.size, 2, none⟩ (.int .u64 (lim (siz a / siz b) 2))).setCell ⟨Wa.heap.size, 3, none⟩ (.int .u64 (lim (siz a / siz b) 3))) (Wa.heap.size) 0 4 := ((((Only.refl _ _ _ _).setCell _ _ (by omega) (by omega)).setCell _ _ (by omega) (by omega)).setCell _ _ (by omega) (by omega)).setCell _ _ (by omega) (by omega)
          replace R5 : Row4 ((((Wq15.setCell ⟨Wa.heap.size, 0, none⟩ (.int .u64 (lim (siz a / siz b) 0))).setCell ⟨Wa.heap.size, 1, none⟩ (.int .u64 (lim (siz a / siz b) 1))).setCell ⟨Wa.heap.size, 2, none⟩ (.int .u64 (lim (siz a / siz b) 2))).setCell ⟨Wa.heap.size, 3, none⟩ (.int .u64 (lim (siz a / siz b) 3))) (Wa.heap.size) (lim (siz a / siz b) 0) (lim (siz a / siz b) 1) (lim (siz a / siz b) 2) (lim (siz a / siz b) 3) := ⟨by simp [go_sem, e0], by simp [go_sem, e1], by simp [go_sem, e2], by simp [go_sem, e3], fun j hj => (ho.frozen j).trans (R5.fz j hj)⟩
          have hB9 := hH.trans (ho.below (by omega))
          have hz9 := Nat.le_of_eq ho.size.symm
          clear ho
          refine wpAnyH_ready (rs := [6]) (by kernel_rfl) (by simp) ?_
          refine AllReadyH.cons rfl (fun K hK => ?_) AllReadyH.nil
          go_simp
          refine hK.out _ _ hB9 (fun hH => ?_)
          clear hK K e0 e1 e2 e3 ef0 ef1 ef2 ef3 hB9
          generalize ((((Wq15.setCell ⟨Wa.heap.size, 0, none⟩ (.int .u64 (lim (siz a / siz b) 0))).setCell ⟨Wa.heap.size, 1, none⟩ (.int .u64 (lim (siz a / siz b) 1))).setCell ⟨Wa.heap.size, 2, none⟩ (.int .u64 (lim (siz a / siz b) 2))).setCell ⟨Wa.heap.size, 3, none⟩ (.int .u64 (lim (siz a / siz b) 3))) = Wy16 at hH R5 hz9 ⊢
          refine wpAnyH_done (by kernel_rfl) ?_ _
          have hb5 : Wa.heap.size < Wy16.heap.size := by omega
          go_wp2
          refine wp_region_held_drew (S := fun W => Below W0.heap.size W0 W ∧ Row4 W (Wa.heap.size) (lim (siz a / siz b) 0) (lim (siz a / siz b) 1) (lim (siz a / siz b) 2) (lim (siz a / siz b) 3) ∧ Wa.heap.size < W.heap.size) (by kernel_rfl) ⟨hH.drew, R5.drew, hb5⟩ (fun hH => ?_)
          clear R5 hz9 hb5
          refine take_d (i := 0) (d := some 11) (v := .agg #[.int .u64 (lim a 0), .int .u64 (lim a 1), .int .u64 (lim a 2), .int .u64 (lim a 3)]) rfl rfl (by kernel_rfl) (by kernel_rfl) (by kernel_rfl) (fun _ _ _ h => h) (Or.inl ⟨by rfl, fun W hW => ?_⟩) hH ?_
          · obtain ⟨k0, k1, k2, k3⟩ := Eq4.keep h1 hW.1 z1
            clear hW hH
            go_simp
          simp only [Act.put, List.setIfInBounds_toArray, List.set_cons_zero, List.set_cons_succ]
          refine take_d (i := 2) (d := some 13) (v := .agg #[.int .u64 (lim b 0), .int .u64 (lim b 1), .int .u64 (lim b 2), .int .u64 (lim b 3)]) rfl rfl (by kernel_rfl) (by kernel_rfl) (by kernel_rfl) (fun _ _ _ h => h) (Or.inl ⟨by rfl, fun W hW => ?_⟩) hH ?_
          · obtain ⟨k0, k1, k2, k3⟩ := Eq4.keep h2 hW.1 z2
            clear hW hH
            go_simp
          simp only [Act.put, List.setIfInBounds_toArray, List.set_cons_zero, List.set_cons_succ]
          generalize Wy16.drew = Wz at hH ⊢
          refine wpAnyH_ready (rs := [1]) (by kernel_rfl) (by simp) ?_
          refine AllReadyH.cons rfl (fun K hK => ?_) AllReadyH.nil
          go_simp
          refine (HNA.out _).mono ?_
          rintro e wp1 ⟨rfl, hbn⟩
          go_wp2_with fail
          refine hK.out _ _ ⟨below_over0 hH.1 hbn, hH.2.1.below hbn hH.2.2, Nat.lt_of_lt_of_le hH.2.2 hbn.size⟩ (fun hH => ?_)
          clear hbn hK K
          refine wpAnyH_ready (rs := [3]) (by kernel_rfl) (by simp) ?_
          refine AllReadyH.cons rfl (fun K hK => ?_) AllReadyH.nil
          go_simp
          refine (HNB.out _).mono ?_
          rintro e wp3 ⟨rfl, hbn⟩
          go_wp2_with fail
          refine hK.out _ _ ⟨below_over0 hH.1 hbn, hH.2.1.below hbn hH.2.2, Nat.lt_of_lt_of_le hH.2.2 hbn.size⟩ (fun hH => ?_)
          clear hbn hK K
          refine take_d (i := 4) (d := some 15) (v := .bool true) rfl rfl (by kernel_rfl) (by kernel_rfl) (by kernel_rfl) (fun _ _ _ h => h) (Or.inl ⟨by rfl, fun W hW => ?_⟩) hH ?_
          · clear hW hH
            go_simp
          simp only [Act.put, List.setIfInBounds_toArray, List.set_cons_zero, List.set_cons_succ]
          refine wpAnyH_done (by kernel_rfl) ?_ _
          obtain ⟨hH, ⟨e0, e1, e2, e3, -⟩, hb5⟩ := hH
          go_wp2_with fail
          refine (HNQ.out _).mono ?_
          rintro e wl ⟨rfl, hbl⟩
          have hTl := below_over0 hH hbl
          obtain ⟨x0, x1, x2, x3, x4, x5, x6, x7⟩ := C2.below hTl z3
          clear e0 e1 e2 e3 hbl
          go_wp2
          simp [bodyPost, results, Try.results32, go_sem, x0, x1, x2, x3]
          exact set4_below (hB.trans (hTl.mono hB.size)) (by omega) _

set_option maxHeartbeats 8000000 in
theorem sdiv_ff (a b : Nat) (ha : a < M) (hb : b < M) (hna : neg a = false) (hnb : neg b = false) (w : World) :
    Calls Try.prog 32 #[wd a, wd b] w fun e w' => e = .returned (wd (siz a / siz b)) ∧ Below w.heap.size w w' := by
  have HSA := Hid.mk' (size a ha)
  have HSB := Hid.mk' (size b hb)
  have HIN := Hid.mk' (div (siz a) (siz b) (siz_lt a ha) (siz_lt b hb))
  have HNA := Hid.mk' (negative a ha)
  have HNB := Hid.mk' (negative b hb)
  rw [hna] at HNA
  rw [hnb] at HNB
  have HNQ := Hid.mk' (negate (siz a / siz b) (div_lt _ _ (siz_lt a ha)))
  clear hna hnb
  obtain ⟨h1, h2, h3, ⟨z1, z2, z3⟩, hB⟩ := held_start w a b 0
  have e0 : put4 (put4 (put4 w a) b) 0 = ((w.alloc (.cells #[.int .u64 (lim a 0), .int .u64 (lim a 1), .int .u64 (lim a 2), .int .u64 (lim a 3)] 24)).alloc (.cells #[.int .u64 (lim b 0), .int .u64 (lim b 1), .int .u64 (lim b 2), .int .u64 (lim b 3)] 24)).alloc (.cells #[.int .u64 0, .int .u64 0, .int .u64 0, .int .u64 0] 24) := by
    unfold put4; simp [lim_z]
  have C2 : Cells4 (put4 (put4 (put4 w a) b) 0) (w.heap.size + 1 + 1) 0 := ⟨h3.1, h3.2.1, h3.2.2.1, h3.2.2.2, by simp [go_sem], by simp [go_sem], by simp [go_sem], by simp [go_sem]⟩
  clear h3
  rw [e0] at h1 h2 z1 z2 z3 hB C2
  clear e0
  go_enter Try.func32, Try.ntmps32
  go_wp2
  generalize ((w.alloc (.cells #[.int .u64 (lim a 0), .int .u64 (lim a 1), .int .u64 (lim a 2), .int .u64 (lim a 3)] 24)).alloc (.cells #[.int .u64 (lim b 0), .int .u64 (lim b 1), .int .u64 (lim b 2), .int .u64 (lim b 3)] 24)).alloc (.cells #[.int .u64 0, .int .u64 0, .int .u64 0, .int .u64 0] 24) = W0 at *
  refine wp_region_held_drew (S := fun W => Below W0.heap.size W0 W) (by kernel_rfl) (Below.refl _ _).drew (fun hH => ?_)
  refine take_d (i := 0) (d := some 6) (v := .agg #[.int .u64 (lim a 0), .int .u64 (lim a 1), .int .u64 (lim a 2), .int .u64 (lim a 3)]) rfl rfl (by kernel_rfl) (by kernel_rfl) (by kernel_rfl) (fun _ _ _ h => h) (Or.inl ⟨by rfl, fun W hW => ?_⟩) hH ?_
  · obtain ⟨k0, k1, k2, k3⟩ := Eq4.keep h1 hW z1
    clear hW hH
    go_simp
  simp only [Act.put, List.setIfInBounds_toArray, List.set_cons_zero, List.set_cons_succ]
  refine take_d (i := 2) (d := some 8) (v := .agg #[.int .u64 (lim b 0), .int .u64 (lim b 1), .int .u64 (lim b 2), .int .u64 (lim b 3)]) rfl rfl (by kernel_rfl) (by kernel_rfl) (by kernel_rfl) (fun _ _ _ h => h) (Or.inl ⟨by rfl, fun W hW => ?_⟩) hH ?_
  · obtain ⟨k0, k1, k2, k3⟩ := Eq4.keep h2 hW z2
    clear hW hH
    go_simp
  simp only [Act.put, List.setIfInBounds_toArray, List.set_cons_zero, List.set_cons_succ]
  generalize W0.drew = Wa at hH ⊢
  have hwa := hH.size
  refine wpAnyH_ready (rs := [1, 5]) (by kernel_rfl) (by simp) ?_
  refine (AllReadyH.cons rfl (fun K hK => ?_) (AllReadyH.cons rfl (fun K hK => ?_) AllReadyH.nil))
  · go_simp
    refine (HSA.out _).mono ?_
    rintro e Wq0 ⟨rfl, hbn⟩
    go_wp2_with fail
    refine hK.out _ _ (below_over0 hH hbn) (fun hH => ?_)
    have hz0 := hbn.size
    clear hbn hK K
    refine wpAnyH_ready (rs := [3, 5]) (by kernel_rfl) (by simp) ?_
    refine (AllReadyH.cons rfl (fun K hK => ?_) (AllReadyH.cons rfl (fun K hK => ?_) AllReadyH.nil))
    · go_simp
      refine (HSB.out _).mono ?_
      rintro e Wq1 ⟨rfl, hbn⟩
      go_wp2_with fail
      refine hK.out _ _ (below_over0 hH hbn) (fun hH => ?_)
      have hz1 := hbn.size
      clear hbn hK K
      refine wpAnyH_ready (rs := [4, 5]) (by kernel_rfl) (by simp) ?_
      refine (AllReadyH.cons rfl (fun K hK => ?_) (AllReadyH.cons rfl (fun K hK => ?_) AllReadyH.nil))
      · go_simp
        refine (HIN.out _).mono ?_
        rintro e Wq2 ⟨rfl, hbn⟩
        go_wp2_with fail
        refine hK.out _ _ (below_over0 hH hbn) (fun hH => ?_)
        have hz2 := hbn.size
        clear hbn hK K
        refine wpAnyH_ready (rs := [5]) (by kernel_rfl) (by simp) ?_
        refine (AllReadyH.cons rfl (fun K hK => ?_) AllReadyH.nil)
        · go_simp
          have hbn := below1 Wq2 (.cells #[.int .u64 0, .int .u64 0, .int .u64 0, .int .u64 0] 24)
          refine hK.out _ _ (below_over0 hH hbn) (fun hH => ?_)
          have R5 := row4_new Wq2 0 0 0 0
          have hz3 : Wq2.heap.size + 1 ≤ (Wq2.alloc (.cells #[.int .u64 0, .int .u64 0, .int .u64 0, .int .u64 0] 24)).heap.size := by simp
          clear hbn hK K
          generalize Wq2.alloc (.cells #[.int .u64 0, .int .u64 0, .int .u64 0, .int .u64 0] 24) = Wn3 at hH hz3 R5 ⊢
          have hw3 := hH.size
          obtain ⟨e0, e1, e2, e3, ef⟩ := id R5
          have ef0 := ef 0 (by decide); have ef1 := ef 1 (by decide); have ef2 := ef 2 (by decide); have ef3 := ef 3 (by decide)
          clear ef
          have ho : Only Wn3 ((((Wn3.setCell ⟨Wq2.heap.size, 0, none⟩ (.int .u64 (lim (siz a / siz b) 0))).setCell ⟨Wq2.heap.size, 1, none⟩ (.int .u64 (lim (siz a / siz b) 1))).setCell ⟨Wq2.heap.size, 2, none⟩ (.int .u64 (lim (siz a / siz b) 2))).setCell ⟨Wq2.heap.size, 3, none⟩ (.int .u64 (lim (siz a / siz b) 3))) (Wq2.heap.size) 0 4 := ((((Only.refl _ _ _ _).setCell _ _ (by omega) (by omega)).setCell _ _ (by omega) (by omega)).setCell _ _ (by omega) (by omega)).setCell _ _ (by omega) (by omega)
          replace R5 : Row4 ((((Wn3.setCell ⟨Wq2.heap.size, 0, none⟩ (.int .u64 (lim (siz a / siz b) 0))).setCell ⟨Wq2.heap.size, 1, none⟩ (.int .u64 (lim (siz a / siz b) 1))).setCell ⟨Wq2.heap.size, 2, none⟩ (.int .u64 (lim (siz a / siz b) 2))).setCell ⟨Wq2.heap.size, 3, none⟩ (.int .u64 (lim (siz a / siz b) 3))) (Wq2.heap.size) (lim (siz a / siz b) 0) (lim (siz a / siz b) 1) (lim (siz a / siz b) 2) (lim (siz a / siz b) 3) := ⟨by simp [go_sem, e0], by simp [go_sem, e1], by simp [go_sem, e2], by simp [go_sem, e3], fun j hj => (ho.frozen j).trans (R5.fz j hj)⟩
          have hB9 := hH.trans (ho.below (by omega))
          have hz9 := Nat.le_of_eq ho.size.symm
          clear ho
          refine wpAnyH_ready (rs := [6]) (by kernel_rfl) (by simp) ?_
          refine AllReadyH.cons rfl (fun K hK => ?_) AllReadyH.nil
          go_simp
          refine hK.out _ _ hB9 (fun hH => ?_)
          clear hK K e0 e1 e2 e3 ef0 ef1 ef2 ef3 hB9
          generalize ((((Wn3.setCell ⟨Wq2.heap.size, 0, none⟩ (.int .u64 (lim (siz a / siz b) 0))).setCell ⟨Wq2.heap.size, 1, none⟩ (.int .u64 (lim (siz a / siz b) 1))).setCell ⟨Wq2.heap.size, 2, none⟩ (.int .u64 (lim (siz a / siz b) 2))).setCell ⟨Wq2.heap.size, 3, none⟩ (.int .u64 (lim (siz a / siz b) 3))) = Wy4 at hH R5 hz9 ⊢
          refine wpAnyH_done (by kernel_rfl) ?_ _
          have hb5 : Wq2.heap.size < Wy4.heap.size := by omega
          go_wp2
          refine wp_region_held_drew (S := fun W => Below W0.heap.size W0 W ∧ Row4 W (Wq2.heap.size) (lim (siz a / siz b) 0) (lim (siz a / siz b) 1) (lim (siz a / siz b) 2) (lim (siz a / siz b) 3) ∧ Wq2.heap.size < W.heap.size) (by kernel_rfl) ⟨hH.drew, R5.drew, hb5⟩ (fun hH => ?_)
          clear R5 hz9 hb5
          refine take_d (i := 0) (d := some 11) (v := .agg #[.int .u64 (lim a 0), .int .u64 (lim a 1), .int .u64 (lim a 2), .int .u64 (lim a 3)]) rfl rfl (by kernel_rfl) (by kernel_rfl) (by kernel_rfl) (fun _ _ _ h => h) (Or.inl ⟨by rfl, fun W hW => ?_⟩) hH ?_
          · obtain ⟨k0, k1, k2, k3⟩ := Eq4.keep h1 hW.1 z1
            clear hW hH
            go_simp
          simp only [Act.put, List.setIfInBounds_toArray, List.set_cons_zero, List.set_cons_succ]
          refine take_d (i := 2) (d := some 13) (v := .agg #[.int .u64 (lim b 0), .int .u64 (lim b 1), .int .u64 (lim b 2), .int .u64 (lim b 3)]) rfl rfl (by kernel_rfl) (by kernel_rfl) (by kernel_rfl) (fun _ _ _ h => h) (Or.inl ⟨by rfl, fun W hW => ?_⟩) hH ?_
          · obtain ⟨k0, k1, k2, k3⟩ := Eq4.keep h2 hW.1 z2
            clear hW hH
            go_simp
          simp only [Act.put, List.setIfInBounds_toArray, List.set_cons_zero, List.set_cons_succ]
          generalize Wy4.drew = Wz at hH ⊢
          refine wpAnyH_ready (rs := [1]) (by kernel_rfl) (by simp) ?_
          refine AllReadyH.cons rfl (fun K hK => ?_) AllReadyH.nil
          go_simp
          refine (HNA.out _).mono ?_
          rintro e wp1 ⟨rfl, hbn⟩
          go_wp2_with fail
          refine hK.out _ _ ⟨below_over0 hH.1 hbn, hH.2.1.below hbn hH.2.2, Nat.lt_of_lt_of_le hH.2.2 hbn.size⟩ (fun hH => ?_)
          clear hbn hK K
          refine wpAnyH_ready (rs := [3]) (by kernel_rfl) (by simp) ?_
          refine AllReadyH.cons rfl (fun K hK => ?_) AllReadyH.nil
          go_simp
          refine (HNB.out _).mono ?_
          rintro e wp3 ⟨rfl, hbn⟩
          go_wp2_with fail
          refine hK.out _ _ ⟨below_over0 hH.1 hbn, hH.2.1.below hbn hH.2.2, Nat.lt_of_lt_of_le hH.2.2 hbn.size⟩ (fun hH => ?_)
          clear hbn hK K
          refine take_d (i := 4) (d := some 15) (v := .bool false) rfl rfl (by kernel_rfl) (by kernel_rfl) (by kernel_rfl) (fun _ _ _ h => h) (Or.inl ⟨by rfl, fun W hW => ?_⟩) hH ?_
          · clear hW hH
            go_simp
          simp only [Act.put, List.setIfInBounds_toArray, List.set_cons_zero, List.set_cons_succ]
          refine wpAnyH_done (by kernel_rfl) ?_ _
          obtain ⟨hH, ⟨e0, e1, e2, e3, -⟩, hb5⟩ := hH
          obtain ⟨x0, x1, x2, x3, x4, x5, x6, x7⟩ := C2.below hH z3
          go_wp2
          simp [bodyPost, results, Try.results32, go_sem, x0, x1, x2, x3]
          exact set4_below (hB.trans (hH.mono hB.size)) (by omega) _
      · go_simp
        have hbn := below1 Wq1 (.cells #[.int .u64 0, .int .u64 0, .int .u64 0, .int .u64 0] 24)
        refine hK.out _ _ (below_over0 hH hbn) (fun hH => ?_)
        have R5 := row4_new Wq1 0 0 0 0
        have hz5 : Wq1.heap.size + 1 ≤ (Wq1.alloc (.cells #[.int .u64 0, .int .u64 0, .int .u64 0, .int .u64 0] 24)).heap.size := by simp
        clear hbn hK K
        generalize Wq1.alloc (.cells #[.int .u64 0, .int .u64 0, .int .u64 0, .int .u64 0] 24) = Wn5 at hH hz5 R5 ⊢
        have hw5 := hH.size
        refine wpAnyH_ready (rs := [4]) (by kernel_rfl) (by simp) ?_
        refine (AllReadyH.cons rfl (fun K hK => ?_) AllReadyH.nil)
        · go_simp
          refine (HIN.out _).mono ?_
          rintro e Wq6 ⟨rfl, hbn⟩
          go_wp2_with fail
          refine hK.out _ _ (below_over0 hH hbn) (fun hH => ?_)
          replace R5 := R5.below hbn (by omega)
          have hz6 := hbn.size
          clear hbn hK K
          obtain ⟨e0, e1, e2, e3, ef⟩ := id R5
          have ef0 := ef 0 (by decide); have ef1 := ef 1 (by decide); have ef2 := ef 2 (by decide); have ef3 := ef 3 (by decide)
          clear ef
          have ho : Only Wq6 ((((Wq6.setCell ⟨Wq1.heap.size, 0, none⟩ (.int .u64 (lim (siz a / siz b) 0))).setCell ⟨Wq1.heap.size, 1, none⟩ (.int .u64 (lim (siz a / siz b) 1))).setCell ⟨Wq1.heap.size, 2, none⟩ (.int .u64 (lim (siz a / siz b) 2))).setCell ⟨Wq1.heap.size, 3, none⟩ (.int .u64 (lim (siz a / siz b) 3))) (Wq1.heap.size) 0 4 := ((((Only.refl _ _ _ _).setCell _ _ (by omega) (by omega)).setCell _ _ (by omega) (by omega)).setCell _ _ (by omega) (by omega)).setCell _ _ (by omega) (by omega)
          replace R5 : Row4 ((((Wq6.setCell ⟨Wq1.heap.size, 0, none⟩ (.int .u64 (lim (siz a / siz b) 0))).setCell ⟨Wq1.heap.size, 1, none⟩ (.int .u64 (lim (siz a / siz b) 1))).setCell ⟨Wq1.heap.size, 2, none⟩ (.int .u64 (lim (siz a / siz b) 2))).setCell ⟨Wq1.heap.size, 3, none⟩ (.int .u64 (lim (siz a / siz b) 3))) (Wq1.heap.size) (lim (siz a / siz b) 0) (lim (siz a / siz b) 1) (lim (siz a / siz b) 2) (lim (siz a / siz b) 3) := ⟨by simp [go_sem, e0], by simp [go_sem, e1], by simp [go_sem, e2], by simp [go_sem, e3], fun j hj => (ho.frozen j).trans (R5.fz j hj)⟩
          have hB9 := hH.trans (ho.below (by omega))
          have hz9 := Nat.le_of_eq ho.size.symm
          clear ho
          refine wpAnyH_ready (rs := [6]) (by kernel_rfl) (by simp) ?_
          refine AllReadyH.cons rfl (fun K hK => ?_) AllReadyH.nil
          go_simp
          refine hK.out _ _ hB9 (fun hH => ?_)
          clear hK K e0 e1 e2 e3 ef0 ef1 ef2 ef3 hB9
          generalize ((((Wq6.setCell ⟨Wq1.heap.size, 0, none⟩ (.int .u64 (lim (siz a / siz b) 0))).setCell ⟨Wq1.heap.size, 1, none⟩ (.int .u64 (lim (siz a / siz b) 1))).setCell ⟨Wq1.heap.size, 2, none⟩ (.int .u64 (lim (siz a / siz b) 2))).setCell ⟨Wq1.heap.size, 3, none⟩ (.int .u64 (lim (siz a / siz b) 3))) = Wy7 at hH R5 hz9 ⊢
          refine wpAnyH_done (by kernel_rfl) ?_ _
          have hb5 : Wq1.heap.size < Wy7.heap.size := by omega
          go_wp2
          refine wp_region_held_drew (S := fun W => Below W0.heap.size W0 W ∧ Row4 W (Wq1.heap.size) (lim (siz a / siz b) 0) (lim (siz a / siz b) 1) (lim (siz a / siz b) 2) (lim (siz a / siz b) 3) ∧ Wq1.heap.size < W.heap.size) (by kernel_rfl) ⟨hH.drew, R5.drew, hb5⟩ (fun hH => ?_)
          clear R5 hz9 hb5
          refine take_d (i := 0) (d := some 11) (v := .agg #[.int .u64 (lim a 0), .int .u64 (lim a 1), .int .u64 (lim a 2), .int .u64 (lim a 3)]) rfl rfl (by kernel_rfl) (by kernel_rfl) (by kernel_rfl) (fun _ _ _ h => h) (Or.inl ⟨by rfl, fun W hW => ?_⟩) hH ?_
          · obtain ⟨k0, k1, k2, k3⟩ := Eq4.keep h1 hW.1 z1
            clear hW hH
            go_simp
          simp only [Act.put, List.setIfInBounds_toArray, List.set_cons_zero, List.set_cons_succ]
          refine take_d (i := 2) (d := some 13) (v := .agg #[.int .u64 (lim b 0), .int .u64 (lim b 1), .int .u64 (lim b 2), .int .u64 (lim b 3)]) rfl rfl (by kernel_rfl) (by kernel_rfl) (by kernel_rfl) (fun _ _ _ h => h) (Or.inl ⟨by rfl, fun W hW => ?_⟩) hH ?_
          · obtain ⟨k0, k1, k2, k3⟩ := Eq4.keep h2 hW.1 z2
            clear hW hH
            go_simp
          simp only [Act.put, List.setIfInBounds_toArray, List.set_cons_zero, List.set_cons_succ]
          generalize Wy7.drew = Wz at hH ⊢
          refine wpAnyH_ready (rs := [1]) (by kernel_rfl) (by simp) ?_
          refine AllReadyH.cons rfl (fun K hK => ?_) AllReadyH.nil
          go_simp
          refine (HNA.out _).mono ?_
          rintro e wp1 ⟨rfl, hbn⟩
          go_wp2_with fail
          refine hK.out _ _ ⟨below_over0 hH.1 hbn, hH.2.1.below hbn hH.2.2, Nat.lt_of_lt_of_le hH.2.2 hbn.size⟩ (fun hH => ?_)
          clear hbn hK K
          refine wpAnyH_ready (rs := [3]) (by kernel_rfl) (by simp) ?_
          refine AllReadyH.cons rfl (fun K hK => ?_) AllReadyH.nil
          go_simp
          refine (HNB.out _).mono ?_
          rintro e wp3 ⟨rfl, hbn⟩
          go_wp2_with fail
          refine hK.out _ _ ⟨below_over0 hH.1 hbn, hH.2.1.below hbn hH.2.2, Nat.lt_of_lt_of_le hH.2.2 hbn.size⟩ (fun hH => ?_)
          clear hbn hK K
          refine take_d (i := 4) (d := some 15) (v := .bool false) rfl rfl (by kernel_rfl) (by kernel_rfl) (by kernel_rfl) (fun _ _ _ h => h) (Or.inl ⟨by rfl, fun W hW => ?_⟩) hH ?_
          · clear hW hH
            go_simp
          simp only [Act.put, List.setIfInBounds_toArray, List.set_cons_zero, List.set_cons_succ]
          refine wpAnyH_done (by kernel_rfl) ?_ _
          obtain ⟨hH, ⟨e0, e1, e2, e3, -⟩, hb5⟩ := hH
          obtain ⟨x0, x1, x2, x3, x4, x5, x6, x7⟩ := C2.below hH z3
          go_wp2
          simp [bodyPost, results, Try.results32, go_sem, x0, x1, x2, x3]
          exact set4_below (hB.trans (hH.mono hB.size)) (by omega) _
    · go_simp
      have hbn := below1 Wq0 (.cells #[.int .u64 0, .int .u64 0, .int .u64 0, .int .u64 0] 24)
      refine hK.out _ _ (below_over0 hH hbn) (fun hH => ?_)
      have R5 := row4_new Wq0 0 0 0 0
      have hz8 : Wq0.heap.size + 1 ≤ (Wq0.alloc (.cells #[.int .u64 0, .int .u64 0, .int .u64 0, .int .u64 0] 24)).heap.size := by simp
      clear hbn hK K
      generalize Wq0.alloc (.cells #[.int .u64 0, .int .u64 0, .int .u64 0, .int .u64 0] 24) = Wn8 at hH hz8 R5 ⊢
      have hw8 := hH.size
      refine wpAnyH_ready (rs := [3]) (by kernel_rfl) (by simp) ?_
      refine (AllReadyH.cons rfl (fun K hK => ?_) AllReadyH.nil)
      · go_simp
        refine (HSB.out _).mono ?_
        rintro e Wq9 ⟨rfl, hbn⟩
        go_wp2_with fail
        refine hK.out _ _ (below_over0 hH hbn) (fun hH => ?_)
        replace R5 := R5.below hbn (by omega)
        have hz9 := hbn.size
        clear hbn hK K
        refine wpAnyH_ready (rs := [4]) (by kernel_rfl) (by simp) ?_
        refine (AllReadyH.cons rfl (fun K hK => ?_) AllReadyH.nil)
        · go_simp
          refine (HIN.out _).mono ?_
          rintro e Wq10 ⟨rfl, hbn⟩
          go_wp2_with fail
          refine hK.out _ _ (below_over0 hH hbn) (fun hH => ?_)
          replace R5 := R5.below hbn (by omega)
          have hz10 := hbn.size
          clear hbn hK K
          obtain ⟨e0, e1, e2, e3, ef⟩ := id R5
          have ef0 := ef 0 (by decide); have ef1 := ef 1 (by decide); have ef2 := ef 2 (by decide); have ef3 := ef 3 (by decide)
          clear ef
          have ho : Only Wq10 ((((Wq10.setCell ⟨Wq0.heap.size, 0, none⟩ (.int .u64 (lim (siz a / siz b) 0))).setCell ⟨Wq0.heap.size, 1, none⟩ (.int .u64 (lim (siz a / siz b) 1))).setCell ⟨Wq0.heap.size, 2, none⟩ (.int .u64 (lim (siz a / siz b) 2))).setCell ⟨Wq0.heap.size, 3, none⟩ (.int .u64 (lim (siz a / siz b) 3))) (Wq0.heap.size) 0 4 := ((((Only.refl _ _ _ _).setCell _ _ (by omega) (by omega)).setCell _ _ (by omega) (by omega)).setCell _ _ (by omega) (by omega)).setCell _ _ (by omega) (by omega)
          replace R5 : Row4 ((((Wq10.setCell ⟨Wq0.heap.size, 0, none⟩ (.int .u64 (lim (siz a / siz b) 0))).setCell ⟨Wq0.heap.size, 1, none⟩ (.int .u64 (lim (siz a / siz b) 1))).setCell ⟨Wq0.heap.size, 2, none⟩ (.int .u64 (lim (siz a / siz b) 2))).setCell ⟨Wq0.heap.size, 3, none⟩ (.int .u64 (lim (siz a / siz b) 3))) (Wq0.heap.size) (lim (siz a / siz b) 0) (lim (siz a / siz b) 1) (lim (siz a / siz b) 2) (lim (siz a / siz b) 3) := ⟨by simp [go_sem, e0], by simp [go_sem, e1], by simp [go_sem, e2], by simp [go_sem, e3], fun j hj => (ho.frozen j).trans (R5.fz j hj)⟩
          have hB9 := hH.trans (ho.below (by omega))
          have hz9 := Nat.le_of_eq ho.size.symm
          clear ho
          refine wpAnyH_ready (rs := [6]) (by kernel_rfl) (by simp) ?_
          refine AllReadyH.cons rfl (fun K hK => ?_) AllReadyH.nil
          go_simp
          refine hK.out _ _ hB9 (fun hH => ?_)
          clear hK K e0 e1 e2 e3 ef0 ef1 ef2 ef3 hB9
          generalize ((((Wq10.setCell ⟨Wq0.heap.size, 0, none⟩ (.int .u64 (lim (siz a / siz b) 0))).setCell ⟨Wq0.heap.size, 1, none⟩ (.int .u64 (lim (siz a / siz b) 1))).setCell ⟨Wq0.heap.size, 2, none⟩ (.int .u64 (lim (siz a / siz b) 2))).setCell ⟨Wq0.heap.size, 3, none⟩ (.int .u64 (lim (siz a / siz b) 3))) = Wy11 at hH R5 hz9 ⊢
          refine wpAnyH_done (by kernel_rfl) ?_ _
          have hb5 : Wq0.heap.size < Wy11.heap.size := by omega
          go_wp2
          refine wp_region_held_drew (S := fun W => Below W0.heap.size W0 W ∧ Row4 W (Wq0.heap.size) (lim (siz a / siz b) 0) (lim (siz a / siz b) 1) (lim (siz a / siz b) 2) (lim (siz a / siz b) 3) ∧ Wq0.heap.size < W.heap.size) (by kernel_rfl) ⟨hH.drew, R5.drew, hb5⟩ (fun hH => ?_)
          clear R5 hz9 hb5
          refine take_d (i := 0) (d := some 11) (v := .agg #[.int .u64 (lim a 0), .int .u64 (lim a 1), .int .u64 (lim a 2), .int .u64 (lim a 3)]) rfl rfl (by kernel_rfl) (by kernel_rfl) (by kernel_rfl) (fun _ _ _ h => h) (Or.inl ⟨by rfl, fun W hW => ?_⟩) hH ?_
          · obtain ⟨k0, k1, k2, k3⟩ := Eq4.keep h1 hW.1 z1
            clear hW hH
            go_simp
          simp only [Act.put, List.setIfInBounds_toArray, List.set_cons_zero, List.set_cons_succ]
          refine take_d (i := 2) (d := some 13) (v := .agg #[.int .u64 (lim b 0), .int .u64 (lim b 1), .int .u64 (lim b 2), .int .u64 (lim b 3)]) rfl rfl (by kernel_rfl) (by kernel_rfl) (by kernel_rfl) (fun _ _ _ h => h) (Or.inl ⟨by rfl, fun W hW => ?_⟩) hH ?_
          · obtain ⟨k0, k1, k2, k3⟩ := Eq4.keep h2 hW.1 z2
            clear hW hH
            go_simp
          simp only [Act.put, List.setIfInBounds_toArray, List.set_cons_zero, List.set_cons_succ]
          generalize Wy11.drew = Wz at hH ⊢
          refine wpAnyH_ready (rs := [1]) (by kernel_rfl) (by simp) ?_
          refine AllReadyH.cons rfl (fun K hK => ?_) AllReadyH.nil
          go_simp
          refine (HNA.out _).mono ?_
          rintro e wp1 ⟨rfl, hbn⟩
          go_wp2_with fail
          refine hK.out _ _ ⟨below_over0 hH.1 hbn, hH.2.1.below hbn hH.2.2, Nat.lt_of_lt_of_le hH.2.2 hbn.size⟩ (fun hH => ?_)
          clear hbn hK K
          refine wpAnyH_ready (rs := [3]) (by kernel_rfl) (by simp) ?_
          refine AllReadyH.cons rfl (fun K hK => ?_) AllReadyH.nil
          go_simp
          refine (HNB.out _).mono ?_
          rintro e wp3 ⟨rfl, hbn⟩
          go_wp2_with fail
          refine hK.out _ _ ⟨below_over0 hH.1 hbn, hH.2.1.below hbn hH.2.2, Nat.lt_of_lt_of_le hH.2.2 hbn.size⟩ (fun hH => ?_)
          clear hbn hK K
          refine take_d (i := 4) (d := some 15) (v := .bool false) rfl rfl (by kernel_rfl) (by kernel_rfl) (by kernel_rfl) (fun _ _ _ h => h) (Or.inl ⟨by rfl, fun W hW => ?_⟩) hH ?_
          · clear hW hH
            go_simp
          simp only [Act.put, List.setIfInBounds_toArray, List.set_cons_zero, List.set_cons_succ]
          refine wpAnyH_done (by kernel_rfl) ?_ _
          obtain ⟨hH, ⟨e0, e1, e2, e3, -⟩, hb5⟩ := hH
          obtain ⟨x0, x1, x2, x3, x4, x5, x6, x7⟩ := C2.below hH z3
          go_wp2
          simp [bodyPost, results, Try.results32, go_sem, x0, x1, x2, x3]
          exact set4_below (hB.trans (hH.mono hB.size)) (by omega) _
  · go_simp
    have hbn := below1 Wa (.cells #[.int .u64 0, .int .u64 0, .int .u64 0, .int .u64 0] 24)
    refine hK.out _ _ (below_over0 hH hbn) (fun hH => ?_)
    have R5 := row4_new Wa 0 0 0 0
    have hz12 : Wa.heap.size + 1 ≤ (Wa.alloc (.cells #[.int .u64 0, .int .u64 0, .int .u64 0, .int .u64 0] 24)).heap.size := by simp
    clear hbn hK K
    generalize Wa.alloc (.cells #[.int .u64 0, .int .u64 0, .int .u64 0, .int .u64 0] 24) = Wn12 at hH hz12 R5 ⊢
    have hw12 := hH.size
    refine wpAnyH_ready (rs := [1]) (by kernel_rfl) (by simp) ?_
    refine (AllReadyH.cons rfl (fun K hK => ?_) AllReadyH.nil)
    · go_simp
      refine (HSA.out _).mono ?_
      rintro e Wq13 ⟨rfl, hbn⟩
      go_wp2_with fail
      refine hK.out _ _ (below_over0 hH hbn) (fun hH => ?_)
      replace R5 := R5.below hbn (by omega)
      have hz13 := hbn.size
      clear hbn hK K
      refine wpAnyH_ready (rs := [3]) (by kernel_rfl) (by simp) ?_
      refine (AllReadyH.cons rfl (fun K hK => ?_) AllReadyH.nil)
      · go_simp
        refine (HSB.out _).mono ?_
        rintro e Wq14 ⟨rfl, hbn⟩
        go_wp2_with fail
        refine hK.out _ _ (below_over0 hH hbn) (fun hH => ?_)
        replace R5 := R5.below hbn (by omega)
        have hz14 := hbn.size
        clear hbn hK K
        refine wpAnyH_ready (rs := [4]) (by kernel_rfl) (by simp) ?_
        refine (AllReadyH.cons rfl (fun K hK => ?_) AllReadyH.nil)
        · go_simp
          refine (HIN.out _).mono ?_
          rintro e Wq15 ⟨rfl, hbn⟩
          go_wp2_with fail
          refine hK.out _ _ (below_over0 hH hbn) (fun hH => ?_)
          replace R5 := R5.below hbn (by omega)
          have hz15 := hbn.size
          clear hbn hK K
          obtain ⟨e0, e1, e2, e3, ef⟩ := id R5
          have ef0 := ef 0 (by decide); have ef1 := ef 1 (by decide); have ef2 := ef 2 (by decide); have ef3 := ef 3 (by decide)
          clear ef
          have ho : Only Wq15 ((((Wq15.setCell ⟨Wa.heap.size, 0, none⟩ (.int .u64 (lim (siz a / siz b) 0))).setCell ⟨Wa.heap.size, 1, none⟩ (.int .u64 (lim (siz a / siz b) 1))).setCell ⟨Wa.heap.size, 2, none⟩ (.int .u64 (lim (siz a / siz b) 2))).setCell ⟨Wa.heap.size, 3, none⟩ (.int .u64 (lim (siz a / siz b) 3))) (Wa.heap.size) 0 4 := ((((Only.refl _ _ _ _).setCell _ _ (by omega) (by omega)).setCell _ _ (by omega) (by omega)).setCell _ _ (by omega) (by omega)).setCell _ _ (by omega) (by omega)
          replace R5 : Row4 ((((Wq15.setCell ⟨Wa.heap.size, 0, none⟩ (.int .u64 (lim (siz a / siz b) 0))).setCell ⟨Wa.heap.size, 1, none⟩ (.int .u64 (lim (siz a / siz b) 1))).setCell ⟨Wa.heap.size, 2, none⟩ (.int .u64 (lim (siz a / siz b) 2))).setCell ⟨Wa.heap.size, 3, none⟩ (.int .u64 (lim (siz a / siz b) 3))) (Wa.heap.size) (lim (siz a / siz b) 0) (lim (siz a / siz b) 1) (lim (siz a / siz b) 2) (lim (siz a / siz b) 3) := ⟨by simp [go_sem, e0], by simp [go_sem, e1], by simp [go_sem, e2], by simp [go_sem, e3], fun j hj => (ho.frozen j).trans (R5.fz j hj)⟩
          have hB9 := hH.trans (ho.below (by omega))
          have hz9 := Nat.le_of_eq ho.size.symm
          clear ho
          refine wpAnyH_ready (rs := [6]) (by kernel_rfl) (by simp) ?_
          refine AllReadyH.cons rfl (fun K hK => ?_) AllReadyH.nil
          go_simp
          refine hK.out _ _ hB9 (fun hH => ?_)
          clear hK K e0 e1 e2 e3 ef0 ef1 ef2 ef3 hB9
          generalize ((((Wq15.setCell ⟨Wa.heap.size, 0, none⟩ (.int .u64 (lim (siz a / siz b) 0))).setCell ⟨Wa.heap.size, 1, none⟩ (.int .u64 (lim (siz a / siz b) 1))).setCell ⟨Wa.heap.size, 2, none⟩ (.int .u64 (lim (siz a / siz b) 2))).setCell ⟨Wa.heap.size, 3, none⟩ (.int .u64 (lim (siz a / siz b) 3))) = Wy16 at hH R5 hz9 ⊢
          refine wpAnyH_done (by kernel_rfl) ?_ _
          have hb5 : Wa.heap.size < Wy16.heap.size := by omega
          go_wp2
          refine wp_region_held_drew (S := fun W => Below W0.heap.size W0 W ∧ Row4 W (Wa.heap.size) (lim (siz a / siz b) 0) (lim (siz a / siz b) 1) (lim (siz a / siz b) 2) (lim (siz a / siz b) 3) ∧ Wa.heap.size < W.heap.size) (by kernel_rfl) ⟨hH.drew, R5.drew, hb5⟩ (fun hH => ?_)
          clear R5 hz9 hb5
          refine take_d (i := 0) (d := some 11) (v := .agg #[.int .u64 (lim a 0), .int .u64 (lim a 1), .int .u64 (lim a 2), .int .u64 (lim a 3)]) rfl rfl (by kernel_rfl) (by kernel_rfl) (by kernel_rfl) (fun _ _ _ h => h) (Or.inl ⟨by rfl, fun W hW => ?_⟩) hH ?_
          · obtain ⟨k0, k1, k2, k3⟩ := Eq4.keep h1 hW.1 z1
            clear hW hH
            go_simp
          simp only [Act.put, List.setIfInBounds_toArray, List.set_cons_zero, List.set_cons_succ]
          refine take_d (i := 2) (d := some 13) (v := .agg #[.int .u64 (lim b 0), .int .u64 (lim b 1), .int .u64 (lim b 2), .int .u64 (lim b 3)]) rfl rfl (by kernel_rfl) (by kernel_rfl) (by kernel_rfl) (fun _ _ _ h => h) (Or.inl ⟨by rfl, fun W hW => ?_⟩) hH ?_
          · obtain ⟨k0, k1, k2, k3⟩ := Eq4.keep h2 hW.1 z2
            clear hW hH
            go_simp
          simp only [Act.put, List.setIfInBounds_toArray, List.set_cons_zero, List.set_cons_succ]
          generalize Wy16.drew = Wz at hH ⊢
          refine wpAnyH_ready (rs := [1]) (by kernel_rfl) (by simp) ?_
          refine AllReadyH.cons rfl (fun K hK => ?_) AllReadyH.nil
          go_simp
          refine (HNA.out _).mono ?_
          rintro e wp1 ⟨rfl, hbn⟩
          go_wp2_with fail
          refine hK.out _ _ ⟨below_over0 hH.1 hbn, hH.2.1.below hbn hH.2.2, Nat.lt_of_lt_of_le hH.2.2 hbn.size⟩ (fun hH => ?_)
          clear hbn hK K
          refine wpAnyH_ready (rs := [3]) (by kernel_rfl) (by simp) ?_
          refine AllReadyH.cons rfl (fun K hK => ?_) AllReadyH.nil
          go_simp
          refine (HNB.out _).mono ?_
          rintro e wp3 ⟨rfl, hbn⟩
          go_wp2_with fail
          refine hK.out _ _ ⟨below_over0 hH.1 hbn, hH.2.1.below hbn hH.2.2, Nat.lt_of_lt_of_le hH.2.2 hbn.size⟩ (fun hH => ?_)
          clear hbn hK K
          refine take_d (i := 4) (d := some 15) (v := .bool false) rfl rfl (by kernel_rfl) (by kernel_rfl) (by kernel_rfl) (fun _ _ _ h => h) (Or.inl ⟨by rfl, fun W hW => ?_⟩) hH ?_
          · clear hW hH
            go_simp
          simp only [Act.put, List.setIfInBounds_toArray, List.set_cons_zero, List.set_cons_succ]
          refine wpAnyH_done (by kernel_rfl) ?_ _
          obtain ⟨hH, ⟨e0, e1, e2, e3, -⟩, hb5⟩ := hH
          obtain ⟨x0, x1, x2, x3, x4, x5, x6, x7⟩ := C2.below hH z3
          go_wp2
          simp [bodyPost, results, Try.results32, go_sem, x0, x1, x2, x3]
          exact set4_below (hB.trans (hH.mono hB.size)) (by omega) _

/-- The signed quotient. -/
def sdv (a b : Nat) : Nat := if neg a != neg b then opp (siz a / siz b) else siz a / siz b
theorem sdiv (a b : Nat) (ha : a < M) (hb : b < M) (w : World) : Calls Try.prog 32 #[wd a, wd b] w fun e w' => e = .returned (wd (sdv a b)) ∧ Below w.heap.size w w' := by
  unfold sdv
  cases hna : neg a <;> cases hnb : neg b
  · exact sdiv_ff a b ha hb hna hnb w
  · exact sdiv_ft a b ha hb hna hnb w
  · exact sdiv_tf a b ha hb hna hnb w
  · exact sdiv_tt a b ha hb hna hnb w

end Go.Proofs.Ytmkfjmidlllnlaa
