/-
  number.SMod at this program: what they return.
-/
import Derived.Test.YtmkfjmidlllnlaaMo
import Derived.Test.YtmkfjmidlllnlaaSg
namespace Go.Proofs.Ytmkfjmidlllnlaa
open Go.RowKit Go.Shelf
attribute [local go_sem] wd dbl

set_option maxHeartbeats 8000000 in
theorem smod_t (a b : Nat) (ha : a < M) (hb : b < M) (hna : neg a = true) (w : World) :
    Calls Try.prog 33 #[wd a, wd b] w fun e w' => e = .returned (wd (opp (rmod (siz a) (siz b)))) ∧ Below w.heap.size w w' := by
  have HSA := Hid.mk' (size a ha)
  have HSB := Hid.mk' (size b hb)
  have HIN := Hid.mk' (mod (siz a) (siz b) (siz_lt a ha) (siz_lt b hb))
  have HNA := Hid.mk' (negative a ha)
  rw [hna] at HNA
  have HNQ := Hid.mk' (negate (rmod (siz a) (siz b)) (rmod_lt _ _ (siz_lt b hb)))
  clear hna
  obtain ⟨h1, h2, h3, ⟨z1, z2, z3⟩, hB⟩ := held_start w a b 0
  have e0 : put4 (put4 (put4 w a) b) 0 = ((w.alloc (.cells #[.int .u64 (lim a 0), .int .u64 (lim a 1), .int .u64 (lim a 2), .int .u64 (lim a 3)] 24)).alloc (.cells #[.int .u64 (lim b 0), .int .u64 (lim b 1), .int .u64 (lim b 2), .int .u64 (lim b 3)] 24)).alloc (.cells #[.int .u64 0, .int .u64 0, .int .u64 0, .int .u64 0] 24) := by
    unfold put4; simp [lim_z]
  have C2 : Cells4 (put4 (put4 (put4 w a) b) 0) (w.heap.size + 1 + 1) 0 := ⟨h3.1, h3.2.1, h3.2.2.1, h3.2.2.2, by simp [go_sem], by simp [go_sem], by simp [go_sem], by simp [go_sem]⟩
  clear h3
  rw [e0] at h1 h2 z1 z2 z3 hB C2
  clear e0
  go_enter Try.func33, Try.ntmps33
  go_wp2
  generalize ((w.alloc (.cells #[.int .u64 (lim a 0), .int .u64 (lim a 1), .int .u64 (lim a 2), .int .u64 (lim a 3)] 24)).alloc (.cells #[.int .u64 (lim b 0), .int .u64 (lim b 1), .int .u64 (lim b 2), .int .u64 (lim b 3)] 24)).alloc (.cells #[.int .u64 0, .int .u64 0, .int .u64 0, .int .u64 0] 24) = W0 at *
  refine wp_region_held_drew (S := fun W => Below W0.heap.size W0 W) (by kernel_rfl) (Below.refl _ _).drew (fun hH => ?_)
  refine take_d (i := 0) (d := some 6) (v := .agg #[.int .u64 (lim a 0), .int .u64 (lim a 1), .int .u64 (lim a 2), .int .u64 (lim a 3)]) rfl rfl (by kernel_rfl) (by kernel_rfl) (by kernel_rfl) (fun _ _ _ h => h) (Or.inl ⟨by rfl, fun W hW => ?_⟩) hH ?_
  · obtain ⟨k0, k1, k2, k3⟩ := Eq4.keep h1 hW z1
    clear hW hH
    go_simp
  simp only [Act.put, List.setIfInBounds_toArray, List.set_cons_zero, List.set_cons_succ]
  refine take_d (i := 2) (d := some 8) (v := .agg #[.int .u64 (lim b 0), .int .u64 (lim b 1), .int .u64 (lim b 2), .int .u64 (lim b 3)]) rfl rfl (by kernel_rfl) (by kernel_rfl) (by kernel_rfl) (fun _ _ _ h => h) (Or.inl ⟨by rfl, fun W hW => ?_⟩) hH ?_
  · obtain ⟨k0, k1, k2, k3⟩ := Eq4.keep h2 hW z2
    clear hW hH
    go_simp
  simp only [Act.put, List.setIfInBounds_toArray, List.set_cons_zero, List.set_cons_succ]
  generalize W0.drew = Wa at hH ⊢
  have hwa := hH.size
  refine wpAnyH_ready (rs := [1, 5]) (by kernel_rfl) (by simp) ?_
  refine (AllReadyH.cons rfl (fun K hK => ?_) (AllReadyH.cons rfl (fun K hK => ?_) AllReadyH.nil))
  · go_simp
    refine (HSA.out _).mono ?_
    rintro e Wq0 ⟨rfl, hbn⟩
    go_wp2_with fail
    refine hK.out _ _ (below_over0 hH hbn) (fun hH => ?_)
    have hz0 := hbn.size
    clear hbn hK K
    refine wpAnyH_ready (rs := [3, 5]) (by kernel_rfl) (by simp) ?_
    refine (AllReadyH.cons rfl (fun K hK => ?_) (AllReadyH.cons rfl (fun K hK => ?_) AllReadyH.nil))
    · go_simp
      refine (HSB.out _).mono ?_
      rintro e Wq1 ⟨rfl, hbn⟩
      go_wp2_with fail
      refine hK.out _ _ (below_over0 hH hbn) (fun hH => ?_)
      have hz1 := hbn.size
      clear hbn hK K
      refine wpAnyH_ready (rs := [4, 5]) (by kernel_rfl) (by simp) ?_
      refine (AllReadyH.cons rfl (fun K hK => ?_) (AllReadyH.cons rfl (fun K hK => ?_) AllReadyH.nil))
      · go_simp
        refine (HIN.out _).mono ?_
        rintro e Wq2 ⟨rfl, hbn⟩
        go_wp2_with fail
        refine hK.out _ _ (below_over0 hH hbn) (fun hH => ?_)
        have hz2 := hbn.size
        clear hbn hK K
        refine wpAnyH_ready (rs := [5]) (by kernel_rfl) (by simp) ?_
        refine (AllReadyH.cons rfl (fun K hK => ?_) AllReadyH.nil)
        · go_simp
          have hbn := below1 Wq2 (.cells #[.int .u64 0, .int .u64 0, .int .u64 0, .int .u64 0] 24)
          refine hK.out _ _ (below_over0 hH hbn) (fun hH => ?_)
          have R5 := row4_new Wq2 0 0 0 0
          have hz3 : Wq2.heap.size + 1 ≤ (Wq2.alloc (.cells #[.int .u64 0, .int .u64 0, .int .u64 0, .int .u64 0] 24)).heap.size := by simp
          clear hbn hK K
          generalize Wq2.alloc (.cells #[.int .u64 0, .int .u64 0, .int .u64 0, .int .u64 0] 24) = Wn3 at hH hz3 R5 ⊢
          have hw3 := hH.size
          obtain ⟨e0, e1, e2, e3, ef⟩ := id R5
          have ef0 := ef 0 (by decide); have ef1 := ef 1 (by decide); have ef2 := ef 2 (by decide); have ef3 := ef 3 (by decide)
          clear ef
          have ho : Only Wn3 ((((Wn3.setCell ⟨Wq2.heap.size, 0, none⟩ (.int .u64 (lim (rmod (siz a) (siz b)) 0))).setCell ⟨Wq2.heap.size, 1, none⟩ (.int .u64 (lim (rmod (siz a) (siz b)) 1))).setCell ⟨Wq2.heap.size, 2, none⟩ (.int .u64 (lim (rmod (siz a) (siz b)) 2))).setCell ⟨Wq2.heap.size, 3, none⟩ (.int .u64 (lim (rmod (siz a) (siz b)) 3))) (Wq2.heap.size) 0 4 := ((((Only.refl _ _ _ _).setCell _ _ (by omega) (by omega)).setCell _ _ (by omega) (by omega)).setCell _ _ (by omega) (by omega)).setCell _ _ (by omega) (by omega)
          replace R5 : Row4 ((((Wn3.setCell ⟨Wq2.heap.size, 0, none⟩ (.int .u64 (lim (rmod (siz a) (siz b)) 0))).setCell ⟨Wq2.heap.size, 1, none⟩ (.int .u64 (lim (rmod (siz a) (siz b)) 1))).setCell ⟨Wq2.heap.size, 2, none⟩ (.int .u64 (lim (rmod (siz a) (siz b)) 2))).setCell ⟨Wq2.heap.size, 3, none⟩ (.int .u64 (lim (rmod (siz a) (siz b)) 3))) (Wq2.heap.size) (lim (rmod (siz a) (siz b)) 0) (lim (rmod (siz a) (siz b)) 1) (lim (rmod (siz a) (siz b)) 2) (lim (rmod (siz a) (siz b)) 3) := ⟨by simp [go_sem, e0], by simp [go_sem, e1], by simp [go_sem, e2], by simp [go_sem, e3], fun j hj => (ho.frozen j).trans (R5.fz j hj)⟩
          have hB9 := hH.trans (ho.below (by omega))
          have hz9 := Nat.le_of_eq ho.size.symm
          clear ho
          refine wpAnyH_ready (rs := [6]) (by kernel_rfl) (by simp) ?_
          refine AllReadyH.cons rfl (fun K hK => ?_) AllReadyH.nil
          go_simp
          refine hK.out _ _ hB9 (fun hH => ?_)
          clear hK K e0 e1 e2 e3 ef0 ef1 ef2 ef3 hB9
          generalize ((((Wn3.setCell ⟨Wq2.heap.size, 0, none⟩ (.int .u64 (lim (rmod (siz a) (siz b)) 0))).setCell ⟨Wq2.heap.size, 1, none⟩ (.int .u64 (lim (rmod (siz a) (siz b)) 1))).setCell ⟨Wq2.heap.size, 2, none⟩ (.int .u64 (lim (rmod (siz a) (siz b)) 2))).setCell ⟨Wq2.heap.size, 3, none⟩ (.int .u64 (lim (rmod (siz a) (siz b)) 3))) = Wy4 at hH R5 hz9 ⊢
          refine wpAnyH_done (by kernel_rfl) ?_ _
          have hb5 : Wq2.heap.size < Wy4.heap.size := by omega
          obtain ⟨k0, k1, k2, k3⟩ := Eq4.keep h1 hH z1
          go_wp2_with fail
          refine (HNA.out _).mono ?_
          rintro e wp ⟨rfl, hbn⟩
          replace R5 := R5.below hbn hb5
          replace hH := below_over0 hH hbn
          clear k0 k1 k2 k3 hbn
          obtain ⟨e0, e1, e2, e3, -⟩ := R5
          go_wp2_with fail
          refine (HNQ.out _).mono ?_
          rintro e wl ⟨rfl, hbl⟩
          have hTl := below_over0 hH hbl
          obtain ⟨x0, x1, x2, x3, x4, x5, x6, x7⟩ := C2.below hTl z3
          clear e0 e1 e2 e3 hbl
          go_wp2
          simp [bodyPost, results, Try.results33, go_sem, x0, x1, x2, x3]
          exact set4_below (hB.trans (hTl.mono hB.size)) (by omega) _
      · go_simp
        have hbn := below1 Wq1 (.cells #[.int .u64 0, .int .u64 0, .int .u64 0, .int .u64 0] 24)
        refine hK.out _ _ (below_over0 hH hbn) (fun hH => ?_)
        have R5 := row4_new Wq1 0 0 0 0
        have hz5 : Wq1.heap.size + 1 ≤ (Wq1.alloc (.cells #[.int .u64 0, .int .u64 0, .int .u64 0, .int .u64 0] 24)).heap.size := by simp
        clear hbn hK K
        generalize Wq1.alloc (.cells #[.int .u64 0, .int .u64 0, .int .u64 0, .int .u64 0] 24) = Wn5 at hH hz5 R5 ⊢
        have hw5 := hH.size
        refine wpAnyH_ready (rs := [4]) (by kernel_rfl) (by simp) ?_
        refine (AllReadyH.cons rfl (fun K hK => ?_) AllReadyH.nil)
        · go_simp
          refine (HIN.out _).mono ?_
          rintro e Wq6 ⟨rfl, hbn⟩
          go_wp2_with fail
          refine hK.out _ _ (below_over0 hH hbn) (fun hH => ?_)
          replace R5 := R5.below hbn (by omega)
          have hz6 := hbn.size
          clear hbn hK K
          obtain ⟨e0, e1, e2, e3, ef⟩ := id R5
          have ef0 := ef 0 (by decide); have ef1 := ef 1 (by decide); have ef2 := ef 2 (by decide); have ef3 := ef 3 (by decide)
          clear ef
          have ho : Only Wq6 ((((Wq6.setCell ⟨Wq1.heap.size, 0, none⟩ (.int .u64 (lim (rmod (siz a) (siz b)) 0))).setCell ⟨Wq1.heap.size, 1, none⟩ (.int .u64 (lim (rmod (siz a) (siz b)) 1))).setCell ⟨Wq1.heap.size, 2, none⟩ (.int .u64 (lim (rmod (siz a) (siz b)) 2))).setCell ⟨Wq1.heap.size, 3, none⟩ (.int .u64 (lim (rmod (siz a) (siz b)) 3))) (Wq1.heap.size) 0 4 := ((((Only.refl _ _ _ _).setCell _ _ (by omega) (by omega)).setCell _ _ (by omega) (by omega)).setCell _ _ (by omega) (by omega)).setCell _ _ (by omega) (by omega)
          replace R5 : Row4 ((((Wq6.setCell ⟨Wq1.heap.size, 0, none⟩ (.int .u64 (lim (rmod (siz a) (siz b)) 0))).setCell ⟨Wq1.heap.size, 1, none⟩ (.int .u64 (lim (rmod (siz a) (siz b)) 1))).setCell ⟨Wq1.heap.size, 2, none⟩ (.int .u64 (lim (rmod (siz a) (siz b)) 2))).setCell ⟨Wq1.heap.size, 3, none⟩ (.int .u64 (lim (rmod (siz a) (siz b)) 3))) (Wq1.heap.size) (lim (rmod (siz a) (siz b)) 0) (lim (rmod (siz a) (siz b)) 1) (lim (rmod (siz a) (siz b)) 2) (lim (rmod (siz a) (siz b)) 3) := ⟨by simp [go_sem, e0], by simp [go_sem, e1], by simp [go_sem, e2], by simp [go_sem, e3], fun j hj => (ho.frozen j).trans (R5.fz j hj)⟩
          have hB9 := hH.trans (ho.below (by omega))
          have hz9 := Nat.le_of_eq ho.size.symm
          clear ho
          refine wpAnyH_ready (rs := [6]) (by kernel_rfl) (by simp) ?_
          refine AllReadyH.cons rfl (fun K hK => ?_) AllReadyH.nil
          go_simp
          refine hK.out _ _ hB9 (fun hH => ?_)
          clear hK K e0 e1 e2 e3 ef0 ef1 ef2 ef3 hB9
          generalize ((((Wq6.setCell ⟨Wq1.heap.size, 0, none⟩ (.int .u64 (lim (rmod (siz a) (siz b)) 0))).setCell ⟨Wq1.heap.size, 1, none⟩ (.int .u64 (lim (rmod (siz a) (siz b)) 1))).setCell ⟨Wq1.heap.size, 2, none⟩ (.int .u64 (lim (rmod (siz a) (siz b)) 2))).setCell ⟨Wq1.heap.size, 3, none⟩ (.int .u64 (lim (rmod (siz a) (siz b)) 3))) = Wy7 at hH R5 hz9 ⊢
          refine wpAnyH_done (by kernel_rfl) ?_ _
          have hb5 : Wq1.heap.size < Wy7.heap.size := by omega
          obtain ⟨k0, k1, k2, k3⟩ := Eq4.keep h1 hH z1
          go_wp2_with fail
          refine (HNA.out _).mono ?_
          rintro e wp ⟨rfl, hbn⟩
          replace R5 := R5.below hbn hb5
          replace hH := below_over0 hH hbn
          clear k0 k1 k2 k3 hbn
          obtain ⟨e0, e1, e2, e3, -⟩ := R5
          go_wp2_with fail
          refine (HNQ.out _).mono ?_
          rintro e wl ⟨rfl, hbl⟩
          have hTl := below_over0 hH hbl
          obtain ⟨x0, x1, x2, x3, x4, x5, x6, x7⟩ := C2.below hTl z3
          clear e0 e1 e2 e3 hbl
          go_wp2
          simp [bodyPost, results, Try.results33, go_sem, x0, x1, x2, x3]
          exact set4_below (hB.trans (hTl.mono hB.size)) (by omega) _
    · go_simp
      have hbn := below1 Wq0 (.cells #[.int .u64 0, .int .u64 0, .int .u64 0, .int .u64 0] 24)
      refine hK.out _ _ (below_over0 hH hbn) (fun hH => ?_)
      have R5 := row4_new Wq0 0 0 0 0
      have hz8 : Wq0.heap.size + 1 ≤ (Wq0.alloc (.cells #[.int .u64 0, .int .u64 0, .int .u64 0, .int .u64 0] 24)).heap.size := by simp
      clear hbn hK K
      generalize Wq0.alloc (.cells #[.int .u64 0, .int .u64 0, .int .u64 0, .int .u64 0] 24) = Wn8 at hH hz8 R5 ⊢
      have hw8 := hH.size
      refine wpAnyH_ready (rs := [3]) (by kernel_rfl) (by simp) ?_
      refine (AllReadyH.cons rfl (fun K hK => ?_) AllReadyH.nil)
      · go_simp
        refine (HSB.out _).mono ?_
        rintro e Wq9 ⟨rfl, hbn⟩
        go_wp2_with fail
        refine hK.out _ _ (below_over0 hH hbn) (fun hH => ?_)
        replace R5 := R5.below hbn (by omega)
        have hz9 := hbn.size
        clear hbn hK K
        refine wpAnyH_ready (rs := [4]) (by kernel_rfl) (by simp) ?_
        refine (AllReadyH.cons rfl (fun K hK => ?_) AllReadyH.nil)
        · go_simp
          refine (HIN.out _).mono ?_
          rintro e Wq10 ⟨rfl, hbn⟩
          go_wp2_with fail
          refine hK.out _ _ (below_over0 hH hbn) (fun hH => ?_)
          replace R5 := R5.below hbn (by omega)
          have hz10 := hbn.size
          clear hbn hK K
          obtain ⟨e0, e1, e2, e3, ef⟩ := id R5
          have ef0 := ef 0 (by decide); have ef1 := ef 1 (by decide); have ef2 := ef 2 (by decide); have ef3 := ef 3 (by decide)
          clear ef
          have ho : Only Wq10 ((((Wq10.setCell ⟨Wq0.heap.size, 0, none⟩ (.int .u64 (lim (rmod (siz a) (siz b)) 0))).setCell ⟨Wq0.heap.size, 1, none⟩ (.int .u64 (lim (rmod (siz a) (siz b)) 1))).setCell ⟨Wq0.heap.size, 2, none⟩ (.int .u64 (lim (rmod (siz a) (siz b)) 2))).setCell ⟨Wq0.heap.size, 3, none⟩ (.int .u64 (lim (rmod (siz a) (siz b)) 3))) (Wq0.heap.size) 0 4 := ((((Only.refl _ _ _ _).setCell _ _ (by omega) (by omega)).setCell _ _ (by omega) (by omega)).setCell _ _ (by omega) (by omega)).setCell _ _ (by omega) (by omega)
          replace R5 : Row4 ((((Wq10.setCell ⟨Wq0.heap.size, 0, none⟩ (.int .u64 (lim (rmod (siz a) (siz b)) 0))).setCell ⟨Wq0.heap.size, 1, none⟩ (.int .u64 (lim (rmod (siz a) (siz b)) 1))).setCell ⟨Wq0.heap.size, 2, none⟩ (.int .u64 (lim (rmod (siz a) (siz b)) 2))).setCell ⟨Wq0.heap.size, 3, none⟩ (.int .u64 (lim (rmod (siz a) (siz b)) 3))) (Wq0.heap.size) (lim (rmod (siz a) (siz b)) 0) (lim (rmod (siz a) (siz b)) 1) (lim (rmod (siz a) (siz b)) 2) (lim (rmod (siz a) (siz b)) 3) := ⟨by simp [go_sem, e0], by simp [go_sem, e1], by simp [go_sem, e2], by simp [go_sem, e3], fun j hj => (ho.frozen j).trans (R5.fz j hj)⟩
          have hB9 := hH.trans (ho.below (by omega))
          have hz9 := Nat.le_of_eq ho.size.symm
          clear ho
          refine wpAnyH_ready (rs := [6]) (by kernel_rfl) (by simp) ?_
          refine AllReadyH.cons rfl (fun K hK => ?_) AllReadyH.nil
          go_simp
          refine hK.out _ _ hB9 (fun hH => ?_)
          clear hK K e0 e1 e2 e3 ef0 ef1 ef2 ef3 hB9
          generalize ((((Wq10.setCell ⟨Wq0.heap.size, 0, none⟩ (.int .u64 (lim (rmod (siz a) (siz b)) 0))).setCell ⟨Wq0.heap.size, 1, none⟩ (.int .u64 (lim (rmod (siz a) (siz b)) 1))).setCell ⟨Wq0.heap.size, 2, none⟩ (.int .u64 (lim (rmod (siz a) (siz b)) 2))).setCell ⟨Wq0.heap.size, 3, none⟩ (.int .u64 (lim (rmod (siz a) (siz b)) 3))) = Wy11 at hH R5 hz9 ⊢
          refine wpAnyH_done (by kernel_rfl) ?_ _
          have hb5 : Wq0.heap.size < Wy11.heap.size := by omega
          obtain ⟨k0, k1, k2, k3⟩ := Eq4.keep h1 hH z1
          go_wp2_with fail
          refine (HNA.out _).mono ?_
          rintro e wp ⟨rfl, hbn⟩
          replace R5 := R5.below hbn hb5
          replace hH := below_over0 hH hbn
          clear k0 k1 k2 k3 hbn
          obtain ⟨e0, e1, e2, e3, -⟩ := R5
          go_wp2_with fail
          refine (HNQ.out _).mono ?_
          rintro e wl ⟨rfl, hbl⟩
          have hTl := below_over0 hH hbl
          obtain ⟨x0, x1, x2, x3, x4, x5, x6, x7⟩ := C2.below hTl z3
          clear e0 e1 e2 e3 hbl
          go_wp2
          simp [bodyPost, results, Try.results33, go_sem, x0, x1, x2, x3]
          exact set4_below (hB.trans (hTl.mono hB.size)) (by omega) _
  · go_simp
    have hbn := below1 Wa (.cells #[.int .u64 0, .int .u64 0, .int .u64 0, .int .u64 0] 24)
    refine hK.out _ _ (below_over0 hH hbn) (fun hH => ?_)
    have R5 := row4_new Wa 0 0 0 0
    have hz12 : Wa.heap.size + 1 ≤ (Wa.alloc (.cells #[.int .u64 0, .int .u64 0, .int .u64 0, .int .u64 0] 24)).heap.size := by simp
    clear hbn hK K
    generalize Wa.alloc (.cells #[.int .u64 0, .int .u64 0, .int .u64 0, .int .u64 0] 24) = Wn12 at hH hz12 R5 ⊢
    have hw12 := hH.size
    refine wpAnyH_ready (rs := [1]) (by kernel_rfl) (by simp) ?_
    refine (AllReadyH.cons rfl (fun K hK => ?_) AllReadyH.nil)
    · go_simp
      refine (HSA.out _).mono ?_
      rintro e Wq13 ⟨rfl, hbn⟩
      go_wp2_with fail
      refine hK.out _ _ (below_over0 hH hbn) (fun hH => ?_)
      replace R5 := R5.below hbn (by omega)
      have hz13 := hbn.size
      clear hbn hK K
      refine wpAnyH_ready (rs := [3]) (by kernel_rfl) (by simp) ?_
      refine (AllReadyH.cons rfl (fun K hK => ?_) AllReadyH.nil)
      · go_simp
        refine (HSB.out _).mono ?_
        rintro e Wq14 ⟨rfl, hbn⟩
        go_wp2_with fail
        refine hK.out _ _ (below_over0 hH hbn) (fun hH => ?_)
        replace R5 := R5.below hbn (by omega)
        have hz14 := hbn.size
        clear hbn hK K
        refine wpAnyH_ready (rs := [4]) (by kernel_rfl) (by simp) ?_
        refine (AllReadyH.cons rfl (fun K hK => ?_) AllReadyH.nil)
        · go_simp
          refine (HIN.out _).mono ?_
          rintro e Wq15 ⟨rfl, hbn⟩
          go_wp2_with fail
          refine hK.out _ _ (below_over0 hH hbn) (fun hH => ?_)
          replace R5 := R5.below hbn (by omega)
          have hz15 := hbn.size
          clear hbn hK K
          obtain ⟨e0, e1, e2, e3, ef⟩ := id R5
          have ef0 := ef 0 (by decide); have ef1 := ef 1 (by decide); have ef2 := ef 2 (by decide); have ef3 := ef 3 (by decide)
          clear ef
          have ho : Only Wq15 ((((Wq15.setCell ⟨Wa.heap.size, 0, none⟩ (.int .u64 (lim (rmod (siz a) (siz b)) 0))).setCell ⟨Wa.heap.size, 1, none⟩ (.int .u64 (lim (rmod (siz a) (siz b)) 1))).setCell ⟨Wa.heap.size, 2, none⟩ (.int .u64 (lim (rmod (siz a) (siz b)) 2))).setCell ⟨Wa.heap.size, 3, none⟩ (.int .u64 (lim (rmod (siz a) (siz b)) 3))) (Wa.heap.size) 0 4 := ((((Only.refl _ _ _ _).setCell _ _ (by omega) (by omega)).setCell _ _ (by omega) (by omega)).setCell _ _ (by omega) (by omega)).setCell _ _ (by omega) (by omega)
          replace R5 : Row4 ((((Wq15.setCell ⟨Wa.heap.size, 0, none⟩ (.int .u64 (lim (rmod (siz a) (siz b)) 0))).setCell ⟨Wa.heap.size, 1, none⟩ (.int .u64 (lim (rmod (siz a) (siz b)) 1))).setCell ⟨Wa.heap.size, 2, none⟩ (.int .u64 (lim (rmod (siz a) (siz b)) 2))).setCell ⟨Wa.heap.size, 3, none⟩ (.int .u64 (lim (rmod (siz a) (siz b)) 3))) (Wa.heap.size) (lim (rmod (siz a) (siz b)) 0) (lim (rmod (siz a) (siz b)) 1) (lim (rmod (siz a) (siz b)) 2) (lim (rmod (siz a) (siz b)) 3) := ⟨by simp [go_sem, e0], by simp [go_sem, e1], by simp [go_sem, e2], by simp [go_sem, e3], fun j hj => (ho.frozen j).trans (R5.fz j hj)⟩
          have hB9 := hH.trans (ho.below (by omega))
          have hz9 := Nat.le_of_eq ho.size.symm
          clear ho
          refine wpAnyH_ready (rs := [6]) (by kernel_rfl) (by simp) ?_
          refine AllReadyH.cons rfl (fun K hK => ?_) AllReadyH.nil
          go_simp
          refine hK.out _ _ hB9 (fun hH => ?_)
          clear hK K e0 e1 e2 e3 ef0 ef1 ef2 ef3 hB9
          generalize ((((Wq15.setCell ⟨Wa.heap.size, 0, none⟩ (.int .u64 (lim (rmod (siz a) (siz b)) 0))).setCell ⟨Wa.heap.size, 1, none⟩ (.int .u64 (lim (rmod (siz a) (siz b)) 1))).setCell ⟨Wa.heap.size, 2, none⟩ (.int .u64 (lim (rmod (siz a) (siz b)) 2))).setCell ⟨Wa.heap.size, 3, none⟩ (.int .u64 (lim (rmod (siz a) (siz b)) 3))) = Wy16 at hH R5 hz9 ⊢
          refine wpAnyH_done (by kernel_rfl) ?_ _
          have hb5 : Wa.heap.size < Wy16.heap.size := by omega
          obtain ⟨k0, k1, k2, k3⟩ := Eq4.keep h1 hH z1
          go_wp2_with fail
          refine (HNA.out _).mono ?_
          rintro e wp ⟨rfl, hbn⟩
          replace R5 := R5.below hbn hb5
          replace hH := below_over0 hH hbn
          clear k0 k1 k2 k3 hbn
          obtain ⟨e0, e1, e2, e3, -⟩ := R5
          go_wp2_with fail
          refine (HNQ.out _).mono ?_
          rintro e wl ⟨rfl, hbl⟩
          have hTl := below_over0 hH hbl
          obtain ⟨x0, x1, x2, x3, x4, x5, x6, x7⟩ := C2.below hTl z3
          clear e0 e1 e2 e3 hbl
          go_wp2
          simp [bodyPost, results, Try.results33, go_sem, x0, x1, x2, x3]
          exact set4_below (hB.trans (hTl.mono hB.size)) (by omega) _

set_option maxHeartbeats 8000000 in
theorem smod_f (a b : Nat) (ha : a < M) (hb : b < M) (hna : neg a = false) (w : World) :
    Calls Try.prog 33 #[wd a, wd b] w fun e w' => e = .returned (wd (rmod (siz a) (siz b))) ∧ Below w.heap.size w w' := by
  have HSA := Hid.mk' (size a ha)
  have HSB := Hid.mk' (size b hb)
  have HIN := Hid.mk' (mod (siz a) (siz b) (siz_lt a ha) (siz_lt b hb))
  have HNA := Hid.mk' (negative a ha)
  rw [hna] at HNA
  have HNQ := Hid.mk' (negate (rmod (siz a) (siz b)) (rmod_lt _ _ (siz_lt b hb)))
  clear hna
  obtain ⟨h1, h2, h3, ⟨z1, z2, z3⟩, hB⟩ := held_start w a b 0
  have e0 : put4 (put4 (put4 w a) b) 0 = ((w.alloc (.cells #[.int .u64 (lim a 0), .int .u64 (lim a 1), .int .u64 (lim a 2), .int .u64 (lim a 3)] 24)).alloc (.cells #[.int .u64 (lim b 0), .int .u64 (lim b 1), .int .u64 (lim b 2), .int .u64 (lim b 3)] 24)).alloc (.cells #[.int .u64 0, .int .u64 0, .int .u64 0, .int .u64 0] 24) := by
    unfold put4; simp [lim_z]
  have C2 : Cells4 (put4 (put4 (put4 w a) b) 0) (w.heap.size + 1 + 1) 0 := ⟨h3.1, h3.2.1, h3.2.2.1, h3.2.2.2, by simp [go_sem], by simp [go_sem], by simp [go_sem], by simp [go_sem]⟩
  clear h3
  rw [e0] at h1 h2 z1 z2 z3 hB C2
  clear e0
  go_enter Try.func33, Try.ntmps33
  go_wp2
  generalize ((w.alloc (.cells #[.int .u64 (lim a 0), .int .u64 (lim a 1), .int .u64 (lim a 2), .int .u64 (lim a 3)] 24)).alloc (.cells #[.int .u64 (lim b 0), .int .u64 (lim b 1), .int .u64 (lim b 2), .int .u64 (lim b 3)] 24)).alloc (.cells #[.int .u64 0, .int .u64 0, .int .u64 0, .int .u64 0] 24) = W0 at *
  refine wp_region_held_drew (S := fun W => Below W0.heap.size W0 W) (by kernel_rfl) (Below.refl _ _).drew (fun hH => ?_)
  refine take_d (i := 0) (d := some 6) (v := .agg #[.int .u64 (lim a 0), .int .u64 (lim a 1), .int .u64 (lim a 2), .int .u64 (lim a 3)]) rfl rfl (by kernel_rfl) (by kernel_rfl) (by kernel_rfl) (fun _ _ _ h => h) (Or.inl ⟨by rfl, fun W hW => ?_⟩) hH ?_
  · obtain ⟨k0, k1, k2, k3⟩ := Eq4.keep h1 hW z1
    clear hW hH
    go_simp
  simp only [Act.put, List.setIfInBounds_toArray, List.set_cons_zero, List.set_cons_succ]
  refine take_d (i := 2) (d := some 8) (v := .agg #[.int .u64 (lim b 0), .int .u64 (lim b 1), .int .u64 (lim b 2), .int .u64 (lim b 3)]) rfl rfl (by kernel_rfl) (by kernel_rfl) (by kernel_rfl) (fun _ _ _ h => h) (Or.inl ⟨by rfl, fun W hW => ?_⟩) hH ?_
  · obtain ⟨k0, k1, k2, k3⟩ := Eq4.keep h2 hW z2
    clear hW hH
    go_simp
  simp only [Act.put, List.setIfInBounds_toArray, List.set_cons_zero, List.set_cons_succ]
  generalize W0.drew = Wa at hH ⊢
  have hwa := hH.size
  refine wpAnyH_ready (rs := [1, 5]) (by kernel_rfl) (by simp) ?_
  refine (AllReadyH.cons rfl (fun K hK => ?_) (AllReadyH.cons rfl (fun K hK => ?_) AllReadyH.nil))
  · go_simp
    refine (HSA.out _).mono ?_
    rintro e Wq0 ⟨rfl, hbn⟩
    go_wp2_with fail
    refine hK.out _ _ (below_over0 hH hbn) (fun hH => ?_)
    have hz0 := hbn.size
    clear hbn hK K
    refine wpAnyH_ready (rs := [3, 5]) (by kernel_rfl) (by simp) ?_
    refine (AllReadyH.cons rfl (fun K hK => ?_) (AllReadyH.cons rfl (fun K hK => ?_) AllReadyH.nil))
    · go_simp
      refine (HSB.out _).mono ?_
      rintro e Wq1 ⟨rfl, hbn⟩
      go_wp2_with fail
      refine hK.out _ _ (below_over0 hH hbn) (fun hH => ?_)
      have hz1 := hbn.size
      clear hbn hK K
      refine wpAnyH_ready (rs := [4, 5]) (by kernel_rfl) (by simp) ?_
      refine (AllReadyH.cons rfl (fun K hK => ?_) (AllReadyH.cons rfl (fun K hK => ?_) AllReadyH.nil))
      · go_simp
        refine (HIN.out _).mono ?_
        rintro e Wq2 ⟨rfl, hbn⟩
        go_wp2_with fail
        refine hK.out _ _ (below_over0 hH hbn) (fun hH => ?_)
        have hz2 := hbn.size
        clear hbn hK K
        refine wpAnyH_ready (rs := [5]) (by kernel_rfl) (by simp) ?_
        refine (AllReadyH.cons rfl (fun K hK => ?_) AllReadyH.nil)
        · go_simp
          have hbn := below1 Wq2 (.cells #[.int .u64 0, .int .u64 0, .int .u64 0, .int .u64 0] 24)
          refine hK.out _ _ (below_over0 hH hbn) (fun hH => ?_)
          have R5 := row4_new Wq2 0 0 0 0
          have hz3 : Wq2.heap.size + 1 ≤ (Wq2.alloc (.cells #[.int .u64 0, .int .u64 0, .int .u64 0, .int .u64 0] 24)).heap.size := by simp
          clear hbn hK K
          generalize Wq2.alloc (.cells #[.int .u64 0, .int .u64 0, .int .u64 0, .int .u64 0] 24) = Wn3 at hH hz3 R5 ⊢
          have hw3 := hH.size
          obtain ⟨e0, e1, e2, e3, ef⟩ := id R5
          have ef0 := ef 0 (by decide); have ef1 := ef 1 (by decide); have ef2 := ef 2 (by decide); have ef3 := ef 3 (by decide)
          clear ef
          have ho : Only Wn3 ((((Wn3.setCell ⟨Wq2.heap.size, 0, none⟩ (.int .u64 (lim (rmod (siz a) (siz b)) 0))).setCell ⟨Wq2.heap.size, 1, none⟩ (.int .u64 (lim (rmod (siz a) (siz b)) 1))).setCell ⟨Wq2.heap.size, 2, none⟩ (.int .u64 (lim (rmod (siz a) (siz b)) 2))).setCell ⟨Wq2.heap.size, 3, none⟩ (.int .u64 (lim (rmod (siz a) (siz b)) 3))) (Wq2.heap.size) 0 4 := ((((Only.refl _ _ _ _).setCell _ _ (by omega) (by omega)).setCell _ _ (by omega) (by omega)).setCell _ _ (by omega) (by omega)).setCell _ _ (by omega) (by omega)
          replace R5 : Row4 ((((Wn3.setCell ⟨Wq2.heap.size, 0, none⟩ (.int .u64 (lim (rmod (siz a) (siz b)) 0))).setCell ⟨Wq2.heap.size, 1, none⟩ (.int .u64 (lim (rmod (siz a) (siz b)) 1))).setCell ⟨Wq2.heap.size, 2, none⟩ (.int .u64 (lim (rmod (siz a) (siz b)) 2))).setCell ⟨Wq2.heap.size, 3, none⟩ (.int .u64 (lim (rmod (siz a) (siz b)) 3))) (Wq2.heap.size) (lim (rmod (siz a) (siz b)) 0) (lim (rmod (siz a) (siz b)) 1) (lim (rmod (siz a) (siz b)) 2) (lim (rmod (siz a) (siz b)) 3) := ⟨by simp [go_sem, e0], by simp [go_sem, e1], by simp [go_sem, e2], by simp [go_sem, e3], fun j hj => (ho.frozen j).trans (R5.fz j hj)⟩
          have hB9 := hH.trans (ho.below (by omega))
          have hz9 := Nat.le_of_eq ho.size.symm
          clear ho
          refine wpAnyH_ready (rs := [6]) (by kernel_rfl) (by simp) ?_
          refine AllReadyH.cons rfl (fun K hK => ?_) AllReadyH.nil
          go_simp
          refine hK.out _ _ hB9 (fun hH => ?_)
          clear hK K e0 e1 e2 e3 ef0 ef1 ef2 ef3 hB9
          generalize ((((Wn3.setCell ⟨Wq2.heap.size, 0, none⟩ (.int .u64 (lim (rmod (siz a) (siz b)) 0))).setCell ⟨Wq2.heap.size, 1, none⟩ (.int .u64 (lim (rmod (siz a) (siz b)) 1))).setCell ⟨Wq2.heap.size, 2, none⟩ (.int .u64 (lim (rmod (siz a) (siz b)) 2))).setCell ⟨Wq2.heap.size, 3, none⟩ (.int .u64 (lim (rmod (siz a) (siz b)) 3))) = Wy4 at hH R5 hz9 ⊢
          refine wpAnyH_done (by kernel_rfl) ?_ _
          have hb5 : Wq2.heap.size < Wy4.heap.size := by omega
          obtain ⟨k0, k1, k2, k3⟩ := Eq4.keep h1 hH z1
          go_wp2_with fail
          refine (HNA.out _).mono ?_
          rintro e wp ⟨rfl, hbn⟩
          replace R5 := R5.below hbn hb5
          replace hH := below_over0 hH hbn
          clear k0 k1 k2 k3 hbn
          obtain ⟨e0, e1, e2, e3, -⟩ := R5
          obtain ⟨x0, x1, x2, x3, x4, x5, x6, x7⟩ := C2.below hH z3
          go_wp2
          simp [bodyPost, results, Try.results33, go_sem, x0, x1, x2, x3]
          exact set4_below (hB.trans (hH.mono hB.size)) (by omega) _
      · go_simp
        have hbn := below1 Wq1 (.cells #[.int .u64 0, .int .u64 0, .int .u64 0, .int .u64 0] 24)
        refine hK.out _ _ (below_over0 hH hbn) (fun hH => ?_)
        have R5 := row4_new Wq1 0 0 0 0
        have hz5 : Wq1.heap.size + 1 ≤ (Wq1.alloc (.cells #[.int .u64 0, .int .u64 0, .int .u64 0, .int .u64 0] 24)).heap.size := by simp
        clear hbn hK K
        generalize Wq1.alloc (.cells #[.int .u64 0, .int .u64 0, .int .u64 0, .int .u64 0] 24) = Wn5 at hH hz5 R5 ⊢
        have hw5 := hH.size
        refine wpAnyH_ready (rs := [4]) (by kernel_rfl) (by simp) ?_
        refine (AllReadyH.cons rfl (fun K hK => ?_) AllReadyH.nil)
        · go_simp
          refine (HIN.out _).mono ?_
          rintro e Wq6 ⟨rfl, hbn⟩
          go_wp2_with fail
          refine hK.out _ _ (below_over0 hH hbn) (fun hH => ?_)
          replace R5 := R5.below hbn (by omega)
          have hz6 := hbn.size
          clear hbn hK K
          obtain ⟨e0, e1, e2, e3, ef⟩ := id R5
          have ef0 := ef 0 (by decide); have ef1 := ef 1 (by decide); have ef2 := ef 2 (by decide); have ef3 := ef 3 (by decide)
          clear ef
          have ho : Only Wq6 ((((Wq6.setCell ⟨Wq1.heap.size, 0, none⟩ (.int .u64 (lim (rmod (siz a) (siz b)) 0))).setCell ⟨Wq1.heap.size, 1, none⟩ (.int .u64 (lim (rmod (siz a) (siz b)) 1))).setCell ⟨Wq1.heap.size, 2, none⟩ (.int .u64 (lim (rmod (siz a) (siz b)) 2))).setCell ⟨Wq1.heap.size, 3, none⟩ (.int .u64 (lim (rmod (siz a) (siz b)) 3))) (Wq1.heap.size) 0 4 := ((((Only.refl _ _ _ _).setCell _ _ (by omega) (by omega)).setCell _ _ (by omega) (by omega)).setCell _ _ (by omega) (by omega)).setCell _ _ (by omega) (by omega)
          replace R5 : Row4 ((((Wq6.setCell ⟨Wq1.heap.size, 0, none⟩ (.int .u64 (lim (rmod (siz a) (siz b)) 0))).setCell ⟨Wq1.heap.size, 1, none⟩ (.int .u64 (lim (rmod (siz a) (siz b)) 1))).setCell ⟨Wq1.heap.size, 2, none⟩ (.int .u64 (lim (rmod (siz a) (siz b)) 2))).setCell ⟨Wq1.heap.size, 3, none⟩ (.int .u64 (lim (rmod (siz a) (siz b)) 3))) (Wq1.heap.size) (lim (rmod (siz a) (siz b)) 0) (lim (rmod (siz a) (siz b)) 1) (lim (rmod (siz a) (siz b)) 2) (lim (rmod (siz a) (siz b)) 3) := ⟨by simp [go_sem, e0], by simp [go_sem, e1], by simp [go_sem, e2], by simp [go_sem, e3], fun j hj => (ho.frozen j).trans (R5.fz j hj)⟩
          have hB9 := hH.trans (ho.below (by omega))
          have hz9 := Nat.le_of_eq ho.size.symm
          clear ho
          refine wpAnyH_ready (rs := [6]) (by kernel_rfl) (by simp) ?_
          refine AllReadyH.cons rfl (fun K hK => ?_) AllReadyH.nil
          go_simp
          refine hK.out _ _ hB9 (fun hH => ?_)
          clear hK K e0 e1 e2 e3 ef0 ef1 ef2 ef3 hB9
          generalize ((((Wq6.setCell ⟨Wq1.heap.size, 0, none⟩ (.int .u64 (lim (rmod (siz a) (siz b)) 0))).setCell ⟨Wq1.heap.size, 1, none⟩ (.int .u64 (lim (rmod (siz a) (siz b)) 1))).setCell ⟨Wq1.heap.size, 2, none⟩ (.int .u64 (lim (rmod (siz a) (siz b)) 2))).setCell ⟨Wq1.heap.size, 3, none⟩ (.int .u64 (lim (rmod (siz a) (siz b)) 3))) = Wy7 at hH R5 hz9 ⊢
          refine wpAnyH_done (by kernel_rfl) ?_ _
          have hb5 : Wq1.heap.size < Wy7.heap.size := by omega
          obtain ⟨k0, k1, k2, k3⟩ := Eq4.keep h1 hH z1
          go_wp2_with fail
          refine (HNA.out _).mono ?_
          rintro e wp ⟨rfl, hbn⟩
          replace R5 := R5.below hbn hb5
          replace hH := below_over0 hH hbn
          clear k0 k1 k2 k3 hbn
          obtain ⟨e0, e1, e2, e3, -⟩ := R5
          obtain ⟨x0, x1, x2, x3, x4, x5, x6, x7⟩ := C2.below hH z3
          go_wp2
          simp [bodyPost, results, Try.results33, go_sem, x0, x1, x2, x3]
          exact set4_below (hB.trans (hH.mono hB.size)) (by omega) _
    · go_simp
      have hbn := below1 Wq0 (.cells #[.int .u64 0, .int .u64 0, .int .u64 0, .int .u64 0] 24)
      refine hK.out _ _ (below_over0 hH hbn) (fun hH => ?_)
      have R5 := row4_new Wq0 0 0 0 0
      have hz8 : Wq0.heap.size + 1 ≤ (Wq0.alloc (.cells #[.int .u64 0, .int .u64 0, .int .u64 0, .int .u64 0] 24)).heap.size := by simp
      clear hbn hK K
      generalize Wq0.alloc (.cells #[.int .u64 0, .int .u64 0, .int .u64 0, .int .u64 0] 24) = Wn8 at hH hz8 R5 ⊢
      have hw8 := hH.size
      refine wpAnyH_ready (rs := [3]) (by kernel_rfl) (by simp) ?_
      refine (AllReadyH.cons rfl (fun K hK => ?_) AllReadyH.nil)
      · go_simp
        refine (HSB.out _).mono ?_
        rintro e Wq9 ⟨rfl, hbn⟩
        go_wp2_with fail
        refine hK.out _ _ (below_over0 hH hbn) (fun hH => ?_)
        replace R5 := R5.below hbn (by omega)
        have hz9 := hbn.size
        clear hbn hK K
        refine wpAnyH_ready (rs := [4]) (by kernel_rfl) (by simp) ?_
        refine (AllReadyH.cons rfl (fun K hK => ?_) AllReadyH.nil)
        · go_simp
          refine (HIN.out _).mono ?_
          rintro e Wq10 ⟨rfl, hbn⟩
          go_wp2_with fail
          refine hK.out _ _ (below_over0 hH hbn) (fun hH => ?_)
          replace R5 := R5.below hbn (by omega)
          have hz10 := hbn.size
          clear hbn hK K
          obtain ⟨e0, e1, e2, e3, ef⟩ := id R5
          have ef0 := ef 0 (by decide); have ef1 := ef 1 (by decide); have ef2 := ef 2 (by decide); have ef3 := ef 3 (by decide)
          clear ef
          have ho : Only Wq10 ((((Wq10.setCell ⟨Wq0.heap.size, 0, none⟩ (.int .u64 (lim (rmod (siz a) (siz b)) 0))).setCell ⟨Wq0.heap.size, 1, none⟩ (.int .u64 (lim (rmod (siz a) (siz b)) 1))).setCell ⟨Wq0.heap.size, 2, none⟩ (.int .u64 (lim (rmod (siz a) (siz b)) 2))).setCell ⟨Wq0.heap.size, 3, none⟩ (.int .u64 (lim (rmod (siz a) (siz b)) 3))) (Wq0.heap.size) 0 4 := ((((Only.refl _ _ _ _).setCell _ _ (by omega) (by omega)).setCell _ _ (by omega) (by omega)).setCell _ _ (by omega) (by omega)).setCell _ _ (by omega) (by omega)
          replace R5 : Row4 ((((Wq10.setCell ⟨Wq0.heap.size, 0, none⟩ (.int .u64 (lim (rmod (siz a) (siz b)) 0))).setCell ⟨Wq0.heap.size, 1, none⟩ (.int .u64 (lim (rmod (siz a) (siz b)) 1))).setCell ⟨Wq0.heap.size, 2, none⟩ (.int .u64 (lim (rmod (siz a) (siz b)) 2))).setCell ⟨Wq0.heap.size, 3, none⟩ (.int .u64 (lim (rmod (siz a) (siz b)) 3))) (Wq0.heap.size) (lim (rmod (siz a) (siz b)) 0) (lim (rmod (siz a) (siz b)) 1) (lim (rmod (siz a) (siz b)) 2) (lim (rmod (siz a) (siz b)) 3) := ⟨by simp [go_sem, e0], by simp [go_sem, e1], by simp [go_sem, e2], by simp [go_sem, e3], fun j hj => (ho.frozen j).trans (R5.fz j hj)⟩
          have hB9 := hH.trans (ho.below (by omega))
          have hz9 := Nat.le_of_eq ho.size.symm
          clear ho
          refine wpAnyH_ready (rs := [6]) (by kernel_rfl) (by simp) ?_
          refine AllReadyH.cons rfl (fun K hK => ?_) AllReadyH.nil
          go_simp
          refine hK.out _ _ hB9 (fun hH => ?_)
          clear hK K e0 e1 e2 e3 ef0 ef1 ef2 ef3 hB9
          generalize ((((Wq10.setCell ⟨Wq0.heap.size, 0, none⟩ (.int .u64 (lim (rmod (siz a) (siz b)) 0))).setCell ⟨Wq0.heap.size, 1, none⟩ (.int .u64 (lim (rmod (siz a) (siz b)) 1))).setCell ⟨Wq0.heap.size, 2, none⟩ (.int .u64 (lim (rmod (siz a) (siz b)) 2))).setCell ⟨Wq0.heap.size, 3, none⟩ (.int .u64 (lim (rmod (siz a) (siz b)) 3))) = Wy11 at hH R5 hz9 ⊢
          refine wpAnyH_done (by kernel_rfl) ?_ _
          have hb5 : Wq0.heap.size < Wy11.heap.size := by omega
          obtain ⟨k0, k1, k2, k3⟩ := Eq4.keep h1 hH z1
          go_wp2_with fail
          refine (HNA.out _).mono ?_
          rintro e wp ⟨rfl, hbn⟩
          replace R5 := R5.below hbn hb5
          replace hH := below_over0 hH hbn
          clear k0 k1 k2 k3 hbn
          obtain ⟨e0, e1, e2, e3, -⟩ := R5
          obtain ⟨x0, x1, x2, x3, x4, x5, x6, x7⟩ := C2.below hH z3
          go_wp2
          simp [bodyPost, results, Try.results33, go_sem, x0, x1, x2, x3]
          exact set4_below (hB.trans (hH.mono hB.size)) (by omega) _
  · go_simp
    have hbn := below1 Wa (.cells #[.int .u64 0, .int .u64 0, .int .u64 0, .int .u64 0] 24)
    refine hK.out _ _ (below_over0 hH hbn) (fun hH => ?_)
    have R5 := row4_new Wa 0 0 0 0
    have hz12 : Wa.heap.size + 1 ≤ (Wa.alloc (.cells #[.int .u64 0, .int .u64 0, .int .u64 0, .int .u64 0] 24)).heap.size := by simp
    clear hbn hK K
    generalize Wa.alloc (.cells #[.int .u64 0, .int .u64 0, .int .u64 0, .int .u64 0] 24) = Wn12 at hH hz12 R5 ⊢
    have hw12 := hH.size
    refine wpAnyH_ready (rs := [1]) (by kernel_rfl) (by simp) ?_
    refine (AllReadyH.cons rfl (fun K hK => ?_) AllReadyH.nil)
    · go_simp
      refine (HSA.out _).mono ?_
      rintro e Wq13 ⟨rfl, hbn⟩
      go_wp2_with fail
      refine hK.out _ _ (below_over0 hH hbn) (fun hH => ?_)
      replace R5 := R5.below hbn (by omega)
      have hz13 := hbn.size
      clear hbn hK K
      refine wpAnyH_ready (rs := [3]) (by kernel_rfl) (by simp) ?_
      refine (AllReadyH.cons rfl (fun K hK => ?_) AllReadyH.nil)
      · go_simp
        refine (HSB.out _).mono ?_
        rintro e Wq14 ⟨rfl, hbn⟩
        go_wp2_with fail
        refine hK.out _ _ (below_over0 hH hbn) (fun hH => ?_)
        replace R5 := R5.below hbn (by omega)
        have hz14 := hbn.size
        clear hbn hK K
        refine wpAnyH_ready (rs := [4]) (by kernel_rfl) (by simp) ?_
        refine (AllReadyH.cons rfl (fun K hK => ?_) AllReadyH.nil)
        · go_simp
          refine (HIN.out _).mono ?_
          rintro e Wq15 ⟨rfl, hbn⟩
          go_wp2_with fail
          refine hK.out _ _ (below_over0 hH hbn) (fun hH => ?_)
          replace R5 := R5.below hbn (by omega)
          have hz15 := hbn.size
          clear hbn hK K
          obtain ⟨e0, e1, e2, e3, ef⟩ := id R5
          have ef0 := ef 0 (by decide); have ef1 := ef 1 (by decide); have ef2 := ef 2 (by decide); have ef3 := ef 3 (by decide)
          clear ef
          have ho : Only Wq15 ((((Wq15.setCell ⟨Wa.heap.size, 0, none⟩ (.int .u64 (lim (rmod (siz a) (siz b)) 0))).setCell ⟨Wa.heap.size, 1, none⟩ (.int .u64 (lim (rmod (siz a) (siz b)) 1))).setCell ⟨Wa.heap.size, 2, none⟩ (.int .u64 (lim (rmod (siz a) (siz b)) 2))).setCell ⟨Wa.heap.size, 3, none⟩ (.int .u64 (lim (rmod (siz a) (siz b)) 3))) (Wa.heap.size) 0 4 := ((((Only.refl _ _ _ _).setCell _ _ (by omega) (by omega)).setCell _ _ (by omega) (by omega)).setCell _ _ (by omega) (by omega)).setCell _ _ (by omega) (by omega)
          replace R5 : Row4 ((((Wq15.setCell ⟨Wa.heap.size, 0, none⟩ (.int .u64 (lim (rmod (siz a) (siz b)) 0))).setCell ⟨Wa.heap.size, 1, none⟩ (.int .u64 (lim (rmod (siz a) (siz b)) 1))).setCell ⟨Wa.heap.size, 2, none⟩ (.int .u64 (lim (rmod (siz a) (siz b)) 2))).setCell ⟨Wa.heap.size, 3, none⟩ (.int .u64 (lim (rmod (siz a) (siz b)) 3))) (Wa.heap.size) (lim (rmod (siz a) (siz b)) 0) (lim (rmod (siz a) (siz b)) 1) (lim (rmod (siz a) (siz b)) 2) (lim (rmod (siz a) (siz b)) 3) := ⟨by simp [go_sem, e0], by simp [go_sem, e1], by simp [go_sem, e2], by simp [go_sem, e3], fun j hj => (ho.frozen j).trans (R5.fz j hj)⟩
          have hB9 := hH.trans (ho.below (by omega))
          have hz9 := Nat.le_of_eq ho.size.symm
          clear ho
          refine wpAnyH_ready (rs := [6]) (by kernel_rfl) (by simp) ?_
          refine AllReadyH.cons rfl (fun K hK => ?_) AllReadyH.nil
          go_simp
          refine hK.out _ _ hB9 (fun hH => ?_)
          clear hK K e0 e1 e2 e3 ef0 ef1 ef2 ef3 hB9
          generalize ((((Wq15.setCell ⟨Wa.heap.size, 0, none⟩ (.int .u64 (lim (rmod (siz a) (siz b)) 0))).setCell ⟨Wa.heap.size, 1, none⟩ (.int .u64 (lim (rmod (siz a) (siz b)) 1))).setCell ⟨Wa.heap.size, 2, none⟩ (.int .u64 (lim (rmod (siz a) (siz b)) 2))).setCell ⟨Wa.heap.size, 3, none⟩ (.int .u64 (lim (rmod (siz a) (siz b)) 3))) = Wy16 at hH R5 hz9 ⊢
          refine wpAnyH_done (by kernel_rfl) ?_ _
          have hb5 : Wa.heap.size < Wy16.heap.size := by omega
          obtain ⟨k0, k1, k2, k3⟩ := Eq4.keep h1 hH z1
          go_wp2_with fail
          refine (HNA.out _).mono ?_
          rintro e wp ⟨rfl, hbn⟩
          replace R5 := R5.below hbn hb5
          replace hH := below_over0 hH hbn
          clear k0 k1 k2 k3 hbn
          obtain ⟨e0, e1, e2, e3, -⟩ := R5
          obtain ⟨x0, x1, x2, x3, x4, x5, x6, x7⟩ := C2.below hH z3
          go_wp2
          simp [bodyPost, results, Try.results33, go_sem, x0, x1, x2, x3]
          exact set4_below (hB.trans (hH.mono hB.size)) (by omega) _

/-- The signed rest. -/
def smd (a b : Nat) : Nat := if neg a then opp (rmod (siz a) (siz b)) else rmod (siz a) (siz b)
theorem smod (a b : Nat) (ha : a < M) (hb : b < M) (w : World) : Calls Try.prog 33 #[wd a, wd b] w fun e w' => e = .returned (wd (smd a b)) ∧ Below w.heap.size w w' := by
  unfold smd
  cases hna : neg a
  · exact smod_f a b ha hb hna w
  · exact smod_t a b ha hb hna w

end Go.Proofs.Ytmkfjmidlllnlaa
