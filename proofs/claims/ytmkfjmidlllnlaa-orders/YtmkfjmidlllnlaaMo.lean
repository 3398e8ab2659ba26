/-
  number.Mod at this program: what it returns.
-/
import Derived.Test.YtmkfjmidlllnlaaDi
import Derived.Test.YtmkfjmidlllnlaaHeld
import Derived.Test.YtmkfjmidlllnlaaExp
namespace Go.Proofs.Ytmkfjmidlllnlaa
open Go.RowKit Go.Shelf
attribute [local go_sem] wd dbl

set_option maxHeartbeats 8000000 in
theorem mod (a b : Nat) (ha : a < M) (hb : b < M) (w : World) :
    Calls Try.prog 31 #[wd a, wd b] w fun e w' => e = .returned (wd (rmod a b)) ∧ Below w.heap.size w w' := by
  have hlt : a < M * M := Nat.lt_of_lt_of_le ha (Nat.le_mul_of_pos_left M M_pos)
  have hwi := widen a 0 ha (by decide)
  have hdv := divide a b hlt hb
  simp only [Nat.zero_mul, Nat.add_zero, Int.cast_ofNat_Int] at hwi
  have HWI := Hid.mk' hwi
  have HDV := Hid.mk' hdv
  clear hwi hdv
  obtain ⟨h1, h2, h3, ⟨z1, z2, z3⟩, hB⟩ := held_start w a b 0
  have e0 : put4 (put4 (put4 w a) b) 0 = ((w.alloc (.cells #[.int .u64 (lim a 0), .int .u64 (lim a 1), .int .u64 (lim a 2), .int .u64 (lim a 3)] 24)).alloc (.cells #[.int .u64 (lim b 0), .int .u64 (lim b 1), .int .u64 (lim b 2), .int .u64 (lim b 3)] 24)).alloc (.cells #[.int .u64 0, .int .u64 0, .int .u64 0, .int .u64 0] 24) := by
    unfold put4; simp [lim_z]
  have C2 : Cells4 (put4 (put4 (put4 w a) b) 0) (w.heap.size + 1 + 1) 0 := ⟨h3.1, h3.2.1, h3.2.2.1, h3.2.2.2, by simp [go_sem], by simp [go_sem], by simp [go_sem], by simp [go_sem]⟩
  clear h3
  rw [e0] at h1 h2 z1 z2 z3 hB C2
  clear e0
  go_enter Try.func31, Try.ntmps31
  go_wp2
  generalize ((w.alloc (.cells #[.int .u64 (lim a 0), .int .u64 (lim a 1), .int .u64 (lim a 2), .int .u64 (lim a 3)] 24)).alloc (.cells #[.int .u64 (lim b 0), .int .u64 (lim b 1), .int .u64 (lim b 2), .int .u64 (lim b 3)] 24)).alloc (.cells #[.int .u64 0, .int .u64 0, .int .u64 0, .int .u64 0] 24) = W0 at *
  refine wp_region_held_drew (S := fun W => Below W0.heap.size W0 W) (by kernel_rfl) (Below.refl _ _).drew (fun hH => ?_)
  refine take_d (i := 0) (d := some 8) (v := .agg #[.int .u64 (lim a 0), .int .u64 (lim a 1), .int .u64 (lim a 2), .int .u64 (lim a 3)]) rfl rfl (by kernel_rfl) (by kernel_rfl) (by kernel_rfl) (fun _ _ _ h => h) (Or.inl ⟨by rfl, fun W hW => ?_⟩) hH ?_
  · obtain ⟨k0, k1, k2, k3⟩ := Eq4.keep h1 hW z1
    clear hW hH
    go_simp
  simp only [Act.put, List.setIfInBounds_toArray, List.set_cons_zero, List.set_cons_succ]
  refine take_d (i := 2) (d := some 10) (v := .agg #[.int .u64 (lim b 0), .int .u64 (lim b 1), .int .u64 (lim b 2), .int .u64 (lim b 3)]) rfl rfl (by kernel_rfl) (by kernel_rfl) (by kernel_rfl) (fun _ _ _ h => h) (Or.inl ⟨by rfl, fun W hW => ?_⟩) hH ?_
  · obtain ⟨k0, k1, k2, k3⟩ := Eq4.keep h2 hW z2
    clear hW hH
    go_simp
  simp only [Act.put, List.setIfInBounds_toArray, List.set_cons_zero, List.set_cons_succ]
  generalize W0.drew = Wa at hH ⊢
  have hwa := hH.size
  refine wpAnyH_ready (rs := [1, 7, 8]) (by kernel_rfl) (by simp) ?_
  refine (AllReadyH.cons rfl (fun K hK => ?_) (AllReadyH.cons rfl (fun K hK => ?_) (AllReadyH.cons rfl (fun K hK => ?_) AllReadyH.nil)))
  · go_simp
    refine (HWI.out _).mono ?_
    rintro e Wq0 ⟨rfl, hbn⟩
    go_wp2_with fail
    refine hK.out _ _ (below_over0 hH hbn) (fun hH => ?_)
    have hz0 := hbn.size
    clear hbn hK K
    refine wpAnyH_ready (rs := [3, 7, 8]) (by kernel_rfl) (by simp) ?_
    refine (AllReadyH.cons rfl (fun K hK => ?_) (AllReadyH.cons rfl (fun K hK => ?_) (AllReadyH.cons rfl (fun K hK => ?_) AllReadyH.nil)))
    · go_simp
      refine (HDV.out _).mono ?_
      rintro e Wq1 ⟨rfl, hbn⟩
      go_wp2_with fail
      refine hK.out _ _ (below_over0 hH hbn) (fun hH => ?_)
      have hz1 := hbn.size
      clear hbn hK K
      refine take_d (i := 4) (d := some 7) (v := .tuple #[.agg #[.int .u64 (lim (a / b) 0), .int .u64 (lim (a / b) 1), .int .u64 (lim (a / b) 2), .int .u64 (lim (a / b) 3), .int .u64 (lim (a / b) 4), .int .u64 (lim (a / b) 5), .int .u64 (lim (a / b) 6), .int .u64 (lim (a / b) 7)], .agg #[.int .u64 (lim (rmod a b) 0), .int .u64 (lim (rmod a b) 1), .int .u64 (lim (rmod a b) 2), .int .u64 (lim (rmod a b) 3)]]) rfl rfl (by kernel_rfl) (by kernel_rfl) (by kernel_rfl) (fun _ _ _ h => h) (Or.inl ⟨by rfl, fun W hW => ?_⟩) hH ?_
      · clear hW hH
        go_simp
      simp only [Act.put, List.setIfInBounds_toArray, List.set_cons_zero, List.set_cons_succ]
      refine take_d (i := 5) (d := some 12) (v := .agg #[.int .u64 (lim (a / b) 0), .int .u64 (lim (a / b) 1), .int .u64 (lim (a / b) 2), .int .u64 (lim (a / b) 3), .int .u64 (lim (a / b) 4), .int .u64 (lim (a / b) 5), .int .u64 (lim (a / b) 6), .int .u64 (lim (a / b) 7)]) rfl rfl (by kernel_rfl) (by kernel_rfl) (by kernel_rfl) (fun _ _ _ h => h) (Or.inl ⟨by rfl, fun W hW => ?_⟩) hH ?_
      · clear hW hH
        go_simp
      simp only [Act.put, List.setIfInBounds_toArray, List.set_cons_zero, List.set_cons_succ]
      refine take_d (i := 6) (d := some 13) (v := .agg #[.int .u64 (lim (rmod a b) 0), .int .u64 (lim (rmod a b) 1), .int .u64 (lim (rmod a b) 2), .int .u64 (lim (rmod a b) 3)]) rfl rfl (by kernel_rfl) (by kernel_rfl) (by kernel_rfl) (fun _ _ _ h => h) (Or.inl ⟨by rfl, fun W hW => ?_⟩) hH ?_
      · clear hW hH
        go_simp
      simp only [Act.put, List.setIfInBounds_toArray, List.set_cons_zero, List.set_cons_succ]
      refine wpAnyH_ready (rs := [7, 8]) (by kernel_rfl) (by simp) ?_
      refine (AllReadyH.cons rfl (fun K hK => ?_) (AllReadyH.cons rfl (fun K hK => ?_) AllReadyH.nil))
      · go_simp
        have hbn := below1 Wq1 (.cells #[.int .u64 0, .int .u64 0, .int .u64 0, .int .u64 0, .int .u64 0, .int .u64 0, .int .u64 0, .int .u64 0] 56)
        refine hK.out _ _ (below_over0 hH hbn) (fun hH => ?_)
        have R5 := row8_new Wq1 0 0 0 0 0 0 0 0
        have hz2 : Wq1.heap.size + 1 ≤ (Wq1.alloc (.cells #[.int .u64 0, .int .u64 0, .int .u64 0, .int .u64 0, .int .u64 0, .int .u64 0, .int .u64 0, .int .u64 0] 56)).heap.size := by simp
        clear hbn hK K
        generalize Wq1.alloc (.cells #[.int .u64 0, .int .u64 0, .int .u64 0, .int .u64 0, .int .u64 0, .int .u64 0, .int .u64 0, .int .u64 0] 56) = Wn2 at hH hz2 R5 ⊢
        have hw2 := hH.size
        refine wpAnyH_ready (rs := [8]) (by kernel_rfl) (by simp) ?_
        refine (AllReadyH.cons rfl (fun K hK => ?_) AllReadyH.nil)
        · go_simp
          have hbn := below1 Wn2 (.cells #[.int .u64 0, .int .u64 0, .int .u64 0, .int .u64 0] 24)
          refine hK.out _ _ (below_over0 hH hbn) (fun hH => ?_)
          replace R5 := R5.below hbn (by omega)
          have R6 := row4_new Wn2 0 0 0 0
          have hz3 : Wn2.heap.size + 1 ≤ (Wn2.alloc (.cells #[.int .u64 0, .int .u64 0, .int .u64 0, .int .u64 0] 24)).heap.size := by simp
          clear hbn hK K
          generalize Wn2.alloc (.cells #[.int .u64 0, .int .u64 0, .int .u64 0, .int .u64 0] 24) = Wn3 at hH hz3 R5 R6 ⊢
          have hw3 := hH.size
          obtain ⟨e0, e1, e2, e3, e4, e5, e6, e7, ef⟩ := id R5
          have ef0 := ef 0 (by decide); have ef1 := ef 1 (by decide); have ef2 := ef 2 (by decide); have ef3 := ef 3 (by decide); have ef4 := ef 4 (by decide); have ef5 := ef 5 (by decide); have ef6 := ef 6 (by decide); have ef7 := ef 7 (by decide)
          clear ef
          have ho : Only Wn3 ((((((((Wn3.setCell ⟨Wq1.heap.size, 0, none⟩ (.int .u64 (lim (a / b) 0))).setCell ⟨Wq1.heap.size, 1, none⟩ (.int .u64 (lim (a / b) 1))).setCell ⟨Wq1.heap.size, 2, none⟩ (.int .u64 (lim (a / b) 2))).setCell ⟨Wq1.heap.size, 3, none⟩ (.int .u64 (lim (a / b) 3))).setCell ⟨Wq1.heap.size, 4, none⟩ (.int .u64 (lim (a / b) 4))).setCell ⟨Wq1.heap.size, 5, none⟩ (.int .u64 (lim (a / b) 5))).setCell ⟨Wq1.heap.size, 6, none⟩ (.int .u64 (lim (a / b) 6))).setCell ⟨Wq1.heap.size, 7, none⟩ (.int .u64 (lim (a / b) 7))) (Wq1.heap.size) 0 8 := ((((((((Only.refl _ _ _ _).setCell _ _ (by omega) (by omega)).setCell _ _ (by omega) (by omega)).setCell _ _ (by omega) (by omega)).setCell _ _ (by omega) (by omega)).setCell _ _ (by omega) (by omega)).setCell _ _ (by omega) (by omega)).setCell _ _ (by omega) (by omega)).setCell _ _ (by omega) (by omega)
          replace R5 := ((((((((R5.put0 (lim (a / b) 0)).put1 (lim (a / b) 1)).put2 (lim (a / b) 2)).put3 (lim (a / b) 3)).put4 (lim (a / b) 4)).put5 (lim (a / b) 5)).put6 (lim (a / b) 6)).put7 (lim (a / b) 7))
          replace R6 := R6.only ho (by omega)
          have hB9 := hH.trans (ho.below (by omega))
          have hz9 := Nat.le_of_eq ho.size.symm
          clear ho
          refine wpAnyH_ready (rs := [9]) (by kernel_rfl) (by simp) ?_
          refine AllReadyH.cons rfl (fun K hK => ?_) AllReadyH.nil
          go_simp
          refine hK.out _ _ hB9 (fun hH => ?_)
          clear hK K e0 e1 e2 e3 e4 e5 e6 e7 ef0 ef1 ef2 ef3 ef4 ef5 ef6 ef7 hB9
          generalize ((((((((Wn3.setCell ⟨Wq1.heap.size, 0, none⟩ (.int .u64 (lim (a / b) 0))).setCell ⟨Wq1.heap.size, 1, none⟩ (.int .u64 (lim (a / b) 1))).setCell ⟨Wq1.heap.size, 2, none⟩ (.int .u64 (lim (a / b) 2))).setCell ⟨Wq1.heap.size, 3, none⟩ (.int .u64 (lim (a / b) 3))).setCell ⟨Wq1.heap.size, 4, none⟩ (.int .u64 (lim (a / b) 4))).setCell ⟨Wq1.heap.size, 5, none⟩ (.int .u64 (lim (a / b) 5))).setCell ⟨Wq1.heap.size, 6, none⟩ (.int .u64 (lim (a / b) 6))).setCell ⟨Wq1.heap.size, 7, none⟩ (.int .u64 (lim (a / b) 7))) = Wx4 at hH R5 R6 hz9 ⊢
          obtain ⟨e0, e1, e2, e3, ef⟩ := id R6
          have ef0 := ef 0 (by decide); have ef1 := ef 1 (by decide); have ef2 := ef 2 (by decide); have ef3 := ef 3 (by decide)
          clear ef
          have ho : Only Wx4 ((((Wx4.setCell ⟨Wn2.heap.size, 0, none⟩ (.int .u64 (lim (rmod a b) 0))).setCell ⟨Wn2.heap.size, 1, none⟩ (.int .u64 (lim (rmod a b) 1))).setCell ⟨Wn2.heap.size, 2, none⟩ (.int .u64 (lim (rmod a b) 2))).setCell ⟨Wn2.heap.size, 3, none⟩ (.int .u64 (lim (rmod a b) 3))) (Wn2.heap.size) 0 4 := ((((Only.refl _ _ _ _).setCell _ _ (by omega) (by omega)).setCell _ _ (by omega) (by omega)).setCell _ _ (by omega) (by omega)).setCell _ _ (by omega) (by omega)
          replace R5 := R5.only ho (by omega)
          replace R6 : Row4 ((((Wx4.setCell ⟨Wn2.heap.size, 0, none⟩ (.int .u64 (lim (rmod a b) 0))).setCell ⟨Wn2.heap.size, 1, none⟩ (.int .u64 (lim (rmod a b) 1))).setCell ⟨Wn2.heap.size, 2, none⟩ (.int .u64 (lim (rmod a b) 2))).setCell ⟨Wn2.heap.size, 3, none⟩ (.int .u64 (lim (rmod a b) 3))) (Wn2.heap.size) (lim (rmod a b) 0) (lim (rmod a b) 1) (lim (rmod a b) 2) (lim (rmod a b) 3) := ⟨by simp [go_sem, e0], by simp [go_sem, e1], by simp [go_sem, e2], by simp [go_sem, e3], fun j hj => (ho.frozen j).trans (R6.fz j hj)⟩
          have hB9 := hH.trans (ho.below (by omega))
          clear ho hz9
          refine wpAnyH_ready (rs := [10]) (by kernel_rfl) (by simp) ?_
          refine AllReadyH.cons rfl (fun K hK => ?_) AllReadyH.nil
          go_simp
          refine hK.out _ _ hB9 (fun hH => ?_)
          clear hK K e0 e1 e2 e3 ef0 ef1 ef2 ef3 hB9
          generalize ((((Wx4.setCell ⟨Wn2.heap.size, 0, none⟩ (.int .u64 (lim (rmod a b) 0))).setCell ⟨Wn2.heap.size, 1, none⟩ (.int .u64 (lim (rmod a b) 1))).setCell ⟨Wn2.heap.size, 2, none⟩ (.int .u64 (lim (rmod a b) 2))).setCell ⟨Wn2.heap.size, 3, none⟩ (.int .u64 (lim (rmod a b) 3))) = Wy4 at hH R5 R6 ⊢
          refine wpAnyH_done (by kernel_rfl) ?_ _
          obtain ⟨e0, e1, e2, e3, -⟩ := R6
          obtain ⟨x0, x1, x2, x3, x4, x5, x6, x7⟩ := C2.below hH z3
          clear R5
          go_wp2
          simp [bodyPost, results, Try.results31, go_sem, x0, x1, x2, x3]
          exact set4_below (hB.trans (hH.mono hB.size)) (by omega) _
      · go_simp
        have hbn := below1 Wq1 (.cells #[.int .u64 0, .int .u64 0, .int .u64 0, .int .u64 0] 24)
        refine hK.out _ _ (below_over0 hH hbn) (fun hH => ?_)
        have R6 := row4_new Wq1 0 0 0 0
        have hz5 : Wq1.heap.size + 1 ≤ (Wq1.alloc (.cells #[.int .u64 0, .int .u64 0, .int .u64 0, .int .u64 0] 24)).heap.size := by simp
        clear hbn hK K
        generalize Wq1.alloc (.cells #[.int .u64 0, .int .u64 0, .int .u64 0, .int .u64 0] 24) = Wn5 at hH hz5 R6 ⊢
        have hw5 := hH.size
        refine wpAnyH_ready (rs := [7]) (by kernel_rfl) (by simp) ?_
        refine (AllReadyH.cons rfl (fun K hK => ?_) AllReadyH.nil)
        · go_simp
          have hbn := below1 Wn5 (.cells #[.int .u64 0, .int .u64 0, .int .u64 0, .int .u64 0, .int .u64 0, .int .u64 0, .int .u64 0, .int .u64 0] 56)
          refine hK.out _ _ (below_over0 hH hbn) (fun hH => ?_)
          replace R6 := R6.below hbn (by omega)
          have R5 := row8_new Wn5 0 0 0 0 0 0 0 0
          have hz6 : Wn5.heap.size + 1 ≤ (Wn5.alloc (.cells #[.int .u64 0, .int .u64 0, .int .u64 0, .int .u64 0, .int .u64 0, .int .u64 0, .int .u64 0, .int .u64 0] 56)).heap.size := by simp
          clear hbn hK K
          generalize Wn5.alloc (.cells #[.int .u64 0, .int .u64 0, .int .u64 0, .int .u64 0, .int .u64 0, .int .u64 0, .int .u64 0, .int .u64 0] 56) = Wn6 at hH hz6 R5 R6 ⊢
          have hw6 := hH.size
          obtain ⟨e0, e1, e2, e3, e4, e5, e6, e7, ef⟩ := id R5
          have ef0 := ef 0 (by decide); have ef1 := ef 1 (by decide); have ef2 := ef 2 (by decide); have ef3 := ef 3 (by decide); have ef4 := ef 4 (by decide); have ef5 := ef 5 (by decide); have ef6 := ef 6 (by decide); have ef7 := ef 7 (by decide)
          clear ef
          have ho : Only Wn6 ((((((((Wn6.setCell ⟨Wn5.heap.size, 0, none⟩ (.int .u64 (lim (a / b) 0))).setCell ⟨Wn5.heap.size, 1, none⟩ (.int .u64 (lim (a / b) 1))).setCell ⟨Wn5.heap.size, 2, none⟩ (.int .u64 (lim (a / b) 2))).setCell ⟨Wn5.heap.size, 3, none⟩ (.int .u64 (lim (a / b) 3))).setCell ⟨Wn5.heap.size, 4, none⟩ (.int .u64 (lim (a / b) 4))).setCell ⟨Wn5.heap.size, 5, none⟩ (.int .u64 (lim (a / b) 5))).setCell ⟨Wn5.heap.size, 6, none⟩ (.int .u64 (lim (a / b) 6))).setCell ⟨Wn5.heap.size, 7, none⟩ (.int .u64 (lim (a / b) 7))) (Wn5.heap.size) 0 8 := ((((((((Only.refl _ _ _ _).setCell _ _ (by omega) (by omega)).setCell _ _ (by omega) (by omega)).setCell _ _ (by omega) (by omega)).setCell _ _ (by omega) (by omega)).setCell _ _ (by omega) (by omega)).setCell _ _ (by omega) (by omega)).setCell _ _ (by omega) (by omega)).setCell _ _ (by omega) (by omega)
          replace R5 := ((((((((R5.put0 (lim (a / b) 0)).put1 (lim (a / b) 1)).put2 (lim (a / b) 2)).put3 (lim (a / b) 3)).put4 (lim (a / b) 4)).put5 (lim (a / b) 5)).put6 (lim (a / b) 6)).put7 (lim (a / b) 7))
          replace R6 := R6.only ho (by omega)
          have hB9 := hH.trans (ho.below (by omega))
          have hz9 := Nat.le_of_eq ho.size.symm
          clear ho
          refine wpAnyH_ready (rs := [9]) (by kernel_rfl) (by simp) ?_
          refine AllReadyH.cons rfl (fun K hK => ?_) AllReadyH.nil
          go_simp
          refine hK.out _ _ hB9 (fun hH => ?_)
          clear hK K e0 e1 e2 e3 e4 e5 e6 e7 ef0 ef1 ef2 ef3 ef4 ef5 ef6 ef7 hB9
          generalize ((((((((Wn6.setCell ⟨Wn5.heap.size, 0, none⟩ (.int .u64 (lim (a / b) 0))).setCell ⟨Wn5.heap.size, 1, none⟩ (.int .u64 (lim (a / b) 1))).setCell ⟨Wn5.heap.size, 2, none⟩ (.int .u64 (lim (a / b) 2))).setCell ⟨Wn5.heap.size, 3, none⟩ (.int .u64 (lim (a / b) 3))).setCell ⟨Wn5.heap.size, 4, none⟩ (.int .u64 (lim (a / b) 4))).setCell ⟨Wn5.heap.size, 5, none⟩ (.int .u64 (lim (a / b) 5))).setCell ⟨Wn5.heap.size, 6, none⟩ (.int .u64 (lim (a / b) 6))).setCell ⟨Wn5.heap.size, 7, none⟩ (.int .u64 (lim (a / b) 7))) = Wx7 at hH R5 R6 hz9 ⊢
          obtain ⟨e0, e1, e2, e3, ef⟩ := id R6
          have ef0 := ef 0 (by decide); have ef1 := ef 1 (by decide); have ef2 := ef 2 (by decide); have ef3 := ef 3 (by decide)
          clear ef
          have ho : Only Wx7 ((((Wx7.setCell ⟨Wq1.heap.size, 0, none⟩ (.int .u64 (lim (rmod a b) 0))).setCell ⟨Wq1.heap.size, 1, none⟩ (.int .u64 (lim (rmod a b) 1))).setCell ⟨Wq1.heap.size, 2, none⟩ (.int .u64 (lim (rmod a b) 2))).setCell ⟨Wq1.heap.size, 3, none⟩ (.int .u64 (lim (rmod a b) 3))) (Wq1.heap.size) 0 4 := ((((Only.refl _ _ _ _).setCell _ _ (by omega) (by omega)).setCell _ _ (by omega) (by omega)).setCell _ _ (by omega) (by omega)).setCell _ _ (by omega) (by omega)
          replace R5 := R5.only ho (by omega)
          replace R6 : Row4 ((((Wx7.setCell ⟨Wq1.heap.size, 0, none⟩ (.int .u64 (lim (rmod a b) 0))).setCell ⟨Wq1.heap.size, 1, none⟩ (.int .u64 (lim (rmod a b) 1))).setCell ⟨Wq1.heap.size, 2, none⟩ (.int .u64 (lim (rmod a b) 2))).setCell ⟨Wq1.heap.size, 3, none⟩ (.int .u64 (lim (rmod a b) 3))) (Wq1.heap.size) (lim (rmod a b) 0) (lim (rmod a b) 1) (lim (rmod a b) 2) (lim (rmod a b) 3) := ⟨by simp [go_sem, e0], by simp [go_sem, e1], by simp [go_sem, e2], by simp [go_sem, e3], fun j hj => (ho.frozen j).trans (R6.fz j hj)⟩
          have hB9 := hH.trans (ho.below (by omega))
          clear ho hz9
          refine wpAnyH_ready (rs := [10]) (by kernel_rfl) (by simp) ?_
          refine AllReadyH.cons rfl (fun K hK => ?_) AllReadyH.nil
          go_simp
          refine hK.out _ _ hB9 (fun hH => ?_)
          clear hK K e0 e1 e2 e3 ef0 ef1 ef2 ef3 hB9
          generalize ((((Wx7.setCell ⟨Wq1.heap.size, 0, none⟩ (.int .u64 (lim (rmod a b) 0))).setCell ⟨Wq1.heap.size, 1, none⟩ (.int .u64 (lim (rmod a b) 1))).setCell ⟨Wq1.heap.size, 2, none⟩ (.int .u64 (lim (rmod a b) 2))).setCell ⟨Wq1.heap.size, 3, none⟩ (.int .u64 (lim (rmod a b) 3))) = Wy7 at hH R5 R6 ⊢
          refine wpAnyH_done (by kernel_rfl) ?_ _
          obtain ⟨e0, e1, e2, e3, -⟩ := R6
          obtain ⟨x0, x1, x2, x3, x4, x5, x6, x7⟩ := C2.below hH z3
          clear R5
          go_wp2
          simp [bodyPost, results, Try.results31, go_sem, x0, x1, x2, x3]
          exact set4_below (hB.trans (hH.mono hB.size)) (by omega) _
    · go_simp
      have hbn := below1 Wq0 (.cells #[.int .u64 0, .int .u64 0, .int .u64 0, .int .u64 0, .int .u64 0, .int .u64 0, .int .u64 0, .int .u64 0] 56)
      refine hK.out _ _ (below_over0 hH hbn) (fun hH => ?_)
      have R5 := row8_new Wq0 0 0 0 0 0 0 0 0
      have hz8 : Wq0.heap.size + 1 ≤ (Wq0.alloc (.cells #[.int .u64 0, .int .u64 0, .int .u64 0, .int .u64 0, .int .u64 0, .int .u64 0, .int .u64 0, .int .u64 0] 56)).heap.size := by simp
      clear hbn hK K
      generalize Wq0.alloc (.cells #[.int .u64 0, .int .u64 0, .int .u64 0, .int .u64 0, .int .u64 0, .int .u64 0, .int .u64 0, .int .u64 0] 56) = Wn8 at hH hz8 R5 ⊢
      have hw8 := hH.size
      refine wpAnyH_ready (rs := [3, 8]) (by kernel_rfl) (by simp) ?_
      refine (AllReadyH.cons rfl (fun K hK => ?_) (AllReadyH.cons rfl (fun K hK => ?_) AllReadyH.nil))
      · go_simp
        refine (HDV.out _).mono ?_
        rintro e Wq9 ⟨rfl, hbn⟩
        go_wp2_with fail
        refine hK.out _ _ (below_over0 hH hbn) (fun hH => ?_)
        replace R5 := R5.below hbn (by omega)
        have hz9 := hbn.size
        clear hbn hK K
        refine take_d (i := 4) (d := some 7) (v := .tuple #[.agg #[.int .u64 (lim (a / b) 0), .int .u64 (lim (a / b) 1), .int .u64 (lim (a / b) 2), .int .u64 (lim (a / b) 3), .int .u64 (lim (a / b) 4), .int .u64 (lim (a / b) 5), .int .u64 (lim (a / b) 6), .int .u64 (lim (a / b) 7)], .agg #[.int .u64 (lim (rmod a b) 0), .int .u64 (lim (rmod a b) 1), .int .u64 (lim (rmod a b) 2), .int .u64 (lim (rmod a b) 3)]]) rfl rfl (by kernel_rfl) (by kernel_rfl) (by kernel_rfl) (fun _ _ _ h => h) (Or.inl ⟨by rfl, fun W hW => ?_⟩) hH ?_
        · clear hW hH
          go_simp
        simp only [Act.put, List.setIfInBounds_toArray, List.set_cons_zero, List.set_cons_succ]
        refine take_d (i := 5) (d := some 12) (v := .agg #[.int .u64 (lim (a / b) 0), .int .u64 (lim (a / b) 1), .int .u64 (lim (a / b) 2), .int .u64 (lim (a / b) 3), .int .u64 (lim (a / b) 4), .int .u64 (lim (a / b) 5), .int .u64 (lim (a / b) 6), .int .u64 (lim (a / b) 7)]) rfl rfl (by kernel_rfl) (by kernel_rfl) (by kernel_rfl) (fun _ _ _ h => h) (Or.inl ⟨by rfl, fun W hW => ?_⟩) hH ?_
        · clear hW hH
          go_simp
        simp only [Act.put, List.setIfInBounds_toArray, List.set_cons_zero, List.set_cons_succ]
        refine take_d (i := 6) (d := some 13) (v := .agg #[.int .u64 (lim (rmod a b) 0), .int .u64 (lim (rmod a b) 1), .int .u64 (lim (rmod a b) 2), .int .u64 (lim (rmod a b) 3)]) rfl rfl (by kernel_rfl) (by kernel_rfl) (by kernel_rfl) (fun _ _ _ h => h) (Or.inl ⟨by rfl, fun W hW => ?_⟩) hH ?_
        · clear hW hH
          go_simp
        simp only [Act.put, List.setIfInBounds_toArray, List.set_cons_zero, List.set_cons_succ]
        refine wpAnyH_ready (rs := [8]) (by kernel_rfl) (by simp) ?_
        refine (AllReadyH.cons rfl (fun K hK => ?_) AllReadyH.nil)
        · go_simp
          have hbn := below1 Wq9 (.cells #[.int .u64 0, .int .u64 0, .int .u64 0, .int .u64 0] 24)
          refine hK.out _ _ (below_over0 hH hbn) (fun hH => ?_)
          replace R5 := R5.below hbn (by omega)
          have R6 := row4_new Wq9 0 0 0 0
          have hz10 : Wq9.heap.size + 1 ≤ (Wq9.alloc (.cells #[.int .u64 0, .int .u64 0, .int .u64 0, .int .u64 0] 24)).heap.size := by simp
          clear hbn hK K
          generalize Wq9.alloc (.cells #[.int .u64 0, .int .u64 0, .int .u64 0, .int .u64 0] 24) = Wn10 at hH hz10 R5 R6 ⊢
          have hw10 := hH.size
          obtain ⟨e0, e1, e2, e3, e4, e5, e6, e7, ef⟩ := id R5
          have ef0 := ef 0 (by decide); have ef1 := ef 1 (by decide); have ef2 := ef 2 (by decide); have ef3 := ef 3 (by decide); have ef4 := ef 4 (by decide); have ef5 := ef 5 (by decide); have ef6 := ef 6 (by decide); have ef7 := ef 7 (by decide)
          clear ef
          have ho : Only Wn10 ((((((((Wn10.setCell ⟨Wq0.heap.size, 0, none⟩ (.int .u64 (lim (a / b) 0))).setCell ⟨Wq0.heap.size, 1, none⟩ (.int .u64 (lim (a / b) 1))).setCell ⟨Wq0.heap.size, 2, none⟩ (.int .u64 (lim (a / b) 2))).setCell ⟨Wq0.heap.size, 3, none⟩ (.int .u64 (lim (a / b) 3))).setCell ⟨Wq0.heap.size, 4, none⟩ (.int .u64 (lim (a / b) 4))).setCell ⟨Wq0.heap.size, 5, none⟩ (.int .u64 (lim (a / b) 5))).setCell ⟨Wq0.heap.size, 6, none⟩ (.int .u64 (lim (a / b) 6))).setCell ⟨Wq0.heap.size, 7, none⟩ (.int .u64 (lim (a / b) 7))) (Wq0.heap.size) 0 8 := ((((((((Only.refl _ _ _ _).setCell _ _ (by omega) (by omega)).setCell _ _ (by omega) (by omega)).setCell _ _ (by omega) (by omega)).setCell _ _ (by omega) (by omega)).setCell _ _ (by omega) (by omega)).setCell _ _ (by omega) (by omega)).setCell _ _ (by omega) (by omega)).setCell _ _ (by omega) (by omega)
          replace R5 := ((((((((R5.put0 (lim (a / b) 0)).put1 (lim (a / b) 1)).put2 (lim (a / b) 2)).put3 (lim (a / b) 3)).put4 (lim (a / b) 4)).put5 (lim (a / b) 5)).put6 (lim (a / b) 6)).put7 (lim (a / b) 7))
          replace R6 := R6.only ho (by omega)
          have hB9 := hH.trans (ho.below (by omega))
          have hz9 := Nat.le_of_eq ho.size.symm
          clear ho
          refine wpAnyH_ready (rs := [9]) (by kernel_rfl) (by simp) ?_
          refine AllReadyH.cons rfl (fun K hK => ?_) AllReadyH.nil
          go_simp
          refine hK.out _ _ hB9 (fun hH => ?_)
          clear hK K e0 e1 e2 e3 e4 e5 e6 e7 ef0 ef1 ef2 ef3 ef4 ef5 ef6 ef7 hB9
          generalize ((((((((Wn10.setCell ⟨Wq0.heap.size, 0, none⟩ (.int .u64 (lim (a / b) 0))).setCell ⟨Wq0.heap.size, 1, none⟩ (.int .u64 (lim (a / b) 1))).setCell ⟨Wq0.heap.size, 2, none⟩ (.int .u64 (lim (a / b) 2))).setCell ⟨Wq0.heap.size, 3, none⟩ (.int .u64 (lim (a / b) 3))).setCell ⟨Wq0.heap.size, 4, none⟩ (.int .u64 (lim (a / b) 4))).setCell ⟨Wq0.heap.size, 5, none⟩ (.int .u64 (lim (a / b) 5))).setCell ⟨Wq0.heap.size, 6, none⟩ (.int .u64 (lim (a / b) 6))).setCell ⟨Wq0.heap.size, 7, none⟩ (.int .u64 (lim (a / b) 7))) = Wx11 at hH R5 R6 hz9 ⊢
          obtain ⟨e0, e1, e2, e3, ef⟩ := id R6
          have ef0 := ef 0 (by decide); have ef1 := ef 1 (by decide); have ef2 := ef 2 (by decide); have ef3 := ef 3 (by decide)
          clear ef
          have ho : Only Wx11 ((((Wx11.setCell ⟨Wq9.heap.size, 0, none⟩ (.int .u64 (lim (rmod a b) 0))).setCell ⟨Wq9.heap.size, 1, none⟩ (.int .u64 (lim (rmod a b) 1))).setCell ⟨Wq9.heap.size, 2, none⟩ (.int .u64 (lim (rmod a b) 2))).setCell ⟨Wq9.heap.size, 3, none⟩ (.int .u64 (lim (rmod a b) 3))) (Wq9.heap.size) 0 4 := ((((Only.refl _ _ _ _).setCell _ _ (by omega) (by omega)).setCell _ _ (by omega) (by omega)).setCell _ _ (by omega) (by omega)).setCell _ _ (by omega) (by omega)
          replace R5 := R5.only ho (by omega)
          replace R6 : Row4 ((((Wx11.setCell ⟨Wq9.heap.size, 0, none⟩ (.int .u64 (lim (rmod a b) 0))).setCell ⟨Wq9.heap.size, 1, none⟩ (.int .u64 (lim (rmod a b) 1))).setCell ⟨Wq9.heap.size, 2, none⟩ (.int .u64 (lim (rmod a b) 2))).setCell ⟨Wq9.heap.size, 3, none⟩ (.int .u64 (lim (rmod a b) 3))) (Wq9.heap.size) (lim (rmod a b) 0) (lim (rmod a b) 1) (lim (rmod a b) 2) (lim (rmod a b) 3) := ⟨by simp [go_sem, e0], by simp [go_sem, e1], by simp [go_sem, e2], by simp [go_sem, e3], fun j hj => (ho.frozen j).trans (R6.fz j hj)⟩
          have hB9 := hH.trans (ho.below (by omega))
          clear ho hz9
          refine wpAnyH_ready (rs := [10]) (by kernel_rfl) (by simp) ?_
          refine AllReadyH.cons rfl (fun K hK => ?_) AllReadyH.nil
          go_simp
          refine hK.out _ _ hB9 (fun hH => ?_)
          clear hK K e0 e1 e2 e3 ef0 ef1 ef2 ef3 hB9
          generalize ((((Wx11.setCell ⟨Wq9.heap.size, 0, none⟩ (.int .u64 (lim (rmod a b) 0))).setCell ⟨Wq9.heap.size, 1, none⟩ (.int .u64 (lim (rmod a b) 1))).setCell ⟨Wq9.heap.size, 2, none⟩ (.int .u64 (lim (rmod a b) 2))).setCell ⟨Wq9.heap.size, 3, none⟩ (.int .u64 (lim (rmod a b) 3))) = Wy11 at hH R5 R6 ⊢
          refine wpAnyH_done (by kernel_rfl) ?_ _
          obtain ⟨e0, e1, e2, e3, -⟩ := R6
          obtain ⟨x0, x1, x2, x3, x4, x5, x6, x7⟩ := C2.below hH z3
          clear R5
          go_wp2
          simp [bodyPost, results, Try.results31, go_sem, x0, x1, x2, x3]
          exact set4_below (hB.trans (hH.mono hB.size)) (by omega) _
      · go_simp
        have hbn := below1 Wn8 (.cells #[.int .u64 0, .int .u64 0, .int .u64 0, .int .u64 0] 24)
        refine hK.out _ _ (below_over0 hH hbn) (fun hH => ?_)
        replace R5 := R5.below hbn (by omega)
        have R6 := row4_new Wn8 0 0 0 0
        have hz12 : Wn8.heap.size + 1 ≤ (Wn8.alloc (.cells #[.int .u64 0, .int .u64 0, .int .u64 0, .int .u64 0] 24)).heap.size := by simp
        clear hbn hK K
        generalize Wn8.alloc (.cells #[.int .u64 0, .int .u64 0, .int .u64 0, .int .u64 0] 24) = Wn12 at hH hz12 R5 R6 ⊢
        have hw12 := hH.size
        refine wpAnyH_ready (rs := [3]) (by kernel_rfl) (by simp) ?_
        refine (AllReadyH.cons rfl (fun K hK => ?_) AllReadyH.nil)
        · go_simp
          refine (HDV.out _).mono ?_
          rintro e Wq13 ⟨rfl, hbn⟩
          go_wp2_with fail
          refine hK.out _ _ (below_over0 hH hbn) (fun hH => ?_)
          replace R5 := R5.below hbn (by omega)
          replace R6 := R6.below hbn (by omega)
          have hz13 := hbn.size
          clear hbn hK K
          refine take_d (i := 4) (d := some 7) (v := .tuple #[.agg #[.int .u64 (lim (a / b) 0), .int .u64 (lim (a / b) 1), .int .u64 (lim (a / b) 2), .int .u64 (lim (a / b) 3), .int .u64 (lim (a / b) 4), .int .u64 (lim (a / b) 5), .int .u64 (lim (a / b) 6), .int .u64 (lim (a / b) 7)], .agg #[.int .u64 (lim (rmod a b) 0), .int .u64 (lim (rmod a b) 1), .int .u64 (lim (rmod a b) 2), .int .u64 (lim (rmod a b) 3)]]) rfl rfl (by kernel_rfl) (by kernel_rfl) (by kernel_rfl) (fun _ _ _ h => h) (Or.inl ⟨by rfl, fun W hW => ?_⟩) hH ?_
          · clear hW hH
            go_simp
          simp only [Act.put, List.setIfInBounds_toArray, List.set_cons_zero, List.set_cons_succ]
          refine take_d (i := 5) (d := some 12) (v := .agg #[.int .u64 (lim (a / b) 0), .int .u64 (lim (a / b) 1), .int .u64 (lim (a / b) 2), .int .u64 (lim (a / b) 3), .int .u64 (lim (a / b) 4), .int .u64 (lim (a / b) 5), .int .u64 (lim (a / b) 6), .int .u64 (lim (a / b) 7)]) rfl rfl (by kernel_rfl) (by kernel_rfl) (by kernel_rfl) (fun _ _ _ h => h) (Or.inl ⟨by rfl, fun W hW => ?_⟩) hH ?_
          · clear hW hH
            go_simp
          simp only [Act.put, List.setIfInBounds_toArray, List.set_cons_zero, List.set_cons_succ]
          refine take_d (i := 6) (d := some 13) (v := .agg #[.int .u64 (lim (rmod a b) 0), .int .u64 (lim (rmod a b) 1), .int .u64 (lim (rmod a b) 2), .int .u64 (lim (rmod a b) 3)]) rfl rfl (by kernel_rfl) (by kernel_rfl) (by kernel_rfl) (fun _ _ _ h => h) (Or.inl ⟨by rfl, fun W hW => ?_⟩) hH ?_
          · clear hW hH
            go_simp
          simp only [Act.put, List.setIfInBounds_toArray, List.set_cons_zero, List.set_cons_succ]
          obtain ⟨e0, e1, e2, e3, e4, e5, e6, e7, ef⟩ := id R5
          have ef0 := ef 0 (by decide); have ef1 := ef 1 (by decide); have ef2 := ef 2 (by decide); have ef3 := ef 3 (by decide); have ef4 := ef 4 (by decide); have ef5 := ef 5 (by decide); have ef6 := ef 6 (by decide); have ef7 := ef 7 (by decide)
          clear ef
          have ho : Only Wq13 ((((((((Wq13.setCell ⟨Wq0.heap.size, 0, none⟩ (.int .u64 (lim (a / b) 0))).setCell ⟨Wq0.heap.size, 1, none⟩ (.int .u64 (lim (a / b) 1))).setCell ⟨Wq0.heap.size, 2, none⟩ (.int .u64 (lim (a / b) 2))).setCell ⟨Wq0.heap.size, 3, none⟩ (.int .u64 (lim (a / b) 3))).setCell ⟨Wq0.heap.size, 4, none⟩ (.int .u64 (lim (a / b) 4))).setCell ⟨Wq0.heap.size, 5, none⟩ (.int .u64 (lim (a / b) 5))).setCell ⟨Wq0.heap.size, 6, none⟩ (.int .u64 (lim (a / b) 6))).setCell ⟨Wq0.heap.size, 7, none⟩ (.int .u64 (lim (a / b) 7))) (Wq0.heap.size) 0 8 := ((((((((Only.refl _ _ _ _).setCell _ _ (by omega) (by omega)).setCell _ _ (by omega) (by omega)).setCell _ _ (by omega) (by omega)).setCell _ _ (by omega) (by omega)).setCell _ _ (by omega) (by omega)).setCell _ _ (by omega) (by omega)).setCell _ _ (by omega) (by omega)).setCell _ _ (by omega) (by omega)
          replace R5 := ((((((((R5.put0 (lim (a / b) 0)).put1 (lim (a / b) 1)).put2 (lim (a / b) 2)).put3 (lim (a / b) 3)).put4 (lim (a / b) 4)).put5 (lim (a / b) 5)).put6 (lim (a / b) 6)).put7 (lim (a / b) 7))
          replace R6 := R6.only ho (by omega)
          have hB9 := hH.trans (ho.below (by omega))
          have hz9 := Nat.le_of_eq ho.size.symm
          clear ho
          refine wpAnyH_ready (rs := [9]) (by kernel_rfl) (by simp) ?_
          refine AllReadyH.cons rfl (fun K hK => ?_) AllReadyH.nil
          go_simp
          refine hK.out _ _ hB9 (fun hH => ?_)
          clear hK K e0 e1 e2 e3 e4 e5 e6 e7 ef0 ef1 ef2 ef3 ef4 ef5 ef6 ef7 hB9
          generalize ((((((((Wq13.setCell ⟨Wq0.heap.size, 0, none⟩ (.int .u64 (lim (a / b) 0))).setCell ⟨Wq0.heap.size, 1, none⟩ (.int .u64 (lim (a / b) 1))).setCell ⟨Wq0.heap.size, 2, none⟩ (.int .u64 (lim (a / b) 2))).setCell ⟨Wq0.heap.size, 3, none⟩ (.int .u64 (lim (a / b) 3))).setCell ⟨Wq0.heap.size, 4, none⟩ (.int .u64 (lim (a / b) 4))).setCell ⟨Wq0.heap.size, 5, none⟩ (.int .u64 (lim (a / b) 5))).setCell ⟨Wq0.heap.size, 6, none⟩ (.int .u64 (lim (a / b) 6))).setCell ⟨Wq0.heap.size, 7, none⟩ (.int .u64 (lim (a / b) 7))) = Wx14 at hH R5 R6 hz9 ⊢
          obtain ⟨e0, e1, e2, e3, ef⟩ := id R6
          have ef0 := ef 0 (by decide); have ef1 := ef 1 (by decide); have ef2 := ef 2 (by decide); have ef3 := ef 3 (by decide)
          clear ef
          have ho : Only Wx14 ((((Wx14.setCell ⟨Wn8.heap.size, 0, none⟩ (.int .u64 (lim (rmod a b) 0))).setCell ⟨Wn8.heap.size, 1, none⟩ (.int .u64 (lim (rmod a b) 1))).setCell ⟨Wn8.heap.size, 2, none⟩ (.int .u64 (lim (rmod a b) 2))).setCell ⟨Wn8.heap.size, 3, none⟩ (.int .u64 (lim (rmod a b) 3))) (Wn8.heap.size) 0 4 := ((((Only.refl _ _ _ _).setCell _ _ (by omega) (by omega)).setCell _ _ (by omega) (by omega)).setCell _ _ (by omega) (by omega)).setCell _ _ (by omega) (by omega)
          replace R5 := R5.only ho (by omega)
          replace R6 : Row4 ((((Wx14.setCell ⟨Wn8.heap.size, 0, none⟩ (.int .u64 (lim (rmod a b) 0))).setCell ⟨Wn8.heap.size, 1, none⟩ (.int .u64 (lim (rmod a b) 1))).setCell ⟨Wn8.heap.size, 2, none⟩ (.int .u64 (lim (rmod a b) 2))).setCell ⟨Wn8.heap.size, 3, none⟩ (.int .u64 (lim (rmod a b) 3))) (Wn8.heap.size) (lim (rmod a b) 0) (lim (rmod a b) 1) (lim (rmod a b) 2) (lim (rmod a b) 3) := ⟨by simp [go_sem, e0], by simp [go_sem, e1], by simp [go_sem, e2], by simp [go_sem, e3], fun j hj => (ho.frozen j).trans (R6.fz j hj)⟩
          have hB9 := hH.trans (ho.below (by omega))
          clear ho hz9
          refine wpAnyH_ready (rs := [10]) (by kernel_rfl) (by simp) ?_
          refine AllReadyH.cons rfl (fun K hK => ?_) AllReadyH.nil
          go_simp
          refine hK.out _ _ hB9 (fun hH => ?_)
          clear hK K e0 e1 e2 e3 ef0 ef1 ef2 ef3 hB9
          generalize ((((Wx14.setCell ⟨Wn8.heap.size, 0, none⟩ (.int .u64 (lim (rmod a b) 0))).setCell ⟨Wn8.heap.size, 1, none⟩ (.int .u64 (lim (rmod a b) 1))).setCell ⟨Wn8.heap.size, 2, none⟩ (.int .u64 (lim (rmod a b) 2))).setCell ⟨Wn8.heap.size, 3, none⟩ (.int .u64 (lim (rmod a b) 3))) = Wy14 at hH R5 R6 ⊢
          refine wpAnyH_done (by kernel_rfl) ?_ _
          obtain ⟨e0, e1, e2, e3, -⟩ := R6
          obtain ⟨x0, x1, x2, x3, x4, x5, x6, x7⟩ := C2.below hH z3
          clear R5
          go_wp2
          simp [bodyPost, results, Try.results31, go_sem, x0, x1, x2, x3]
          exact set4_below (hB.trans (hH.mono hB.size)) (by omega) _
    · go_simp
      have hbn := below1 Wq0 (.cells #[.int .u64 0, .int .u64 0, .int .u64 0, .int .u64 0] 24)
      refine hK.out _ _ (below_over0 hH hbn) (fun hH => ?_)
      have R6 := row4_new Wq0 0 0 0 0
      have hz15 : Wq0.heap.size + 1 ≤ (Wq0.alloc (.cells #[.int .u64 0, .int .u64 0, .int .u64 0, .int .u64 0] 24)).heap.size := by simp
      clear hbn hK K
      generalize Wq0.alloc (.cells #[.int .u64 0, .int .u64 0, .int .u64 0, .int .u64 0] 24) = Wn15 at hH hz15 R6 ⊢
      have hw15 := hH.size
      refine wpAnyH_ready (rs := [3, 7]) (by kernel_rfl) (by simp) ?_
      refine (AllReadyH.cons rfl (fun K hK => ?_) (AllReadyH.cons rfl (fun K hK => ?_) AllReadyH.nil))
      · go_simp
        refine (HDV.out _).mono ?_
        rintro e Wq16 ⟨rfl, hbn⟩
        go_wp2_with fail
        refine hK.out _ _ (below_over0 hH hbn) (fun hH => ?_)
        replace R6 := R6.below hbn (by omega)
        have hz16 := hbn.size
        clear hbn hK K
        refine take_d (i := 4) (d := some 7) (v := .tuple #[.agg #[.int .u64 (lim (a / b) 0), .int .u64 (lim (a / b) 1), .int .u64 (lim (a / b) 2), .int .u64 (lim (a / b) 3), .int .u64 (lim (a / b) 4), .int .u64 (lim (a / b) 5), .int .u64 (lim (a / b) 6), .int .u64 (lim (a / b) 7)], .agg #[.int .u64 (lim (rmod a b) 0), .int .u64 (lim (rmod a b) 1), .int .u64 (lim (rmod a b) 2), .int .u64 (lim (rmod a b) 3)]]) rfl rfl (by kernel_rfl) (by kernel_rfl) (by kernel_rfl) (fun _ _ _ h => h) (Or.inl ⟨by rfl, fun W hW => ?_⟩) hH ?_
        · clear hW hH
          go_simp
        simp only [Act.put, List.setIfInBounds_toArray, List.set_cons_zero, List.set_cons_succ]
        refine take_d (i := 5) (d := some 12) (v := .agg #[.int .u64 (lim (a / b) 0), .int .u64 (lim (a / b) 1), .int .u64 (lim (a / b) 2), .int .u64 (lim (a / b) 3), .int .u64 (lim (a / b) 4), .int .u64 (lim (a / b) 5), .int .u64 (lim (a / b) 6), .int .u64 (lim (a / b) 7)]) rfl rfl (by kernel_rfl) (by kernel_rfl) (by kernel_rfl) (fun _ _ _ h => h) (Or.inl ⟨by rfl, fun W hW => ?_⟩) hH ?_
        · clear hW hH
          go_simp
        simp only [Act.put, List.setIfInBounds_toArray, List.set_cons_zero, List.set_cons_succ]
        refine take_d (i := 6) (d := some 13) (v := .agg #[.int .u64 (lim (rmod a b) 0), .int .u64 (lim (rmod a b) 1), .int .u64 (lim (rmod a b) 2), .int .u64 (lim (rmod a b) 3)]) rfl rfl (by kernel_rfl) (by kernel_rfl) (by kernel_rfl) (fun _ _ _ h => h) (Or.inl ⟨by rfl, fun W hW => ?_⟩) hH ?_
        · clear hW hH
          go_simp
        simp only [Act.put, List.setIfInBounds_toArray, List.set_cons_zero, List.set_cons_succ]
        refine wpAnyH_ready (rs := [7]) (by kernel_rfl) (by simp) ?_
        refine (AllReadyH.cons rfl (fun K hK => ?_) AllReadyH.nil)
        · go_simp
          have hbn := below1 Wq16 (.cells #[.int .u64 0, .int .u64 0, .int .u64 0, .int .u64 0, .int .u64 0, .int .u64 0, .int .u64 0, .int .u64 0] 56)
          refine hK.out _ _ (below_over0 hH hbn) (fun hH => ?_)
          replace R6 := R6.below hbn (by omega)
          have R5 := row8_new Wq16 0 0 0 0 0 0 0 0
          have hz17 : Wq16.heap.size + 1 ≤ (Wq16.alloc (.cells #[.int .u64 0, .int .u64 0, .int .u64 0, .int .u64 0, .int .u64 0, .int .u64 0, .int .u64 0, .int .u64 0] 56)).heap.size := by simp
          clear hbn hK K
          generalize Wq16.alloc (.cells #[.int .u64 0, .int .u64 0, .int .u64 0, .int .u64 0, .int .u64 0, .int .u64 0, .int .u64 0, .int .u64 0] 56) = Wn17 at hH hz17 R5 R6 ⊢
          have hw17 := hH.size
          obtain ⟨e0, e1, e2, e3, e4, e5, e6, e7, ef⟩ := id R5
          have ef0 := ef 0 (by decide); have ef1 := ef 1 (by decide); have ef2 := ef 2 (by decide); have ef3 := ef 3 (by decide); have ef4 := ef 4 (by decide); have ef5 := ef 5 (by decide); have ef6 := ef 6 (by decide); have ef7 := ef 7 (by decide)
          clear ef
          have ho : Only Wn17 ((((((((Wn17.setCell ⟨Wq16.heap.size, 0, none⟩ (.int .u64 (lim (a / b) 0))).setCell ⟨Wq16.heap.size, 1, none⟩ (.int .u64 (lim (a / b) 1))).setCell ⟨Wq16.heap.size, 2, none⟩ (.int .u64 (lim (a / b) 2))).setCell ⟨Wq16.heap.size, 3, none⟩ (.int .u64 (lim (a / b) 3))).setCell ⟨Wq16.heap.size, 4, none⟩ (.int .u64 (lim (a / b) 4))).setCell ⟨Wq16.heap.size, 5, none⟩ (.int .u64 (lim (a / b) 5))).setCell ⟨Wq16.heap.size, 6, none⟩ (.int .u64 (lim (a / b) 6))).setCell ⟨Wq16.heap.size, 7, none⟩ (.int .u64 (lim (a / b) 7))) (Wq16.heap.size) 0 8 := ((((((((Only.refl _ _ _ _).setCell _ _ (by omega) (by omega)).setCell _ _ (by omega) (by omega)).setCell _ _ (by omega) (by omega)).setCell _ _ (by omega) (by omega)).setCell _ _ (by omega) (by omega)).setCell _ _ (by omega) (by omega)).setCell _ _ (by omega) (by omega)).setCell _ _ (by omega) (by omega)
          replace R5 := ((((((((R5.put0 (lim (a / b) 0)).put1 (lim (a / b) 1)).put2 (lim (a / b) 2)).put3 (lim (a / b) 3)).put4 (lim (a / b) 4)).put5 (lim (a / b) 5)).put6 (lim (a / b) 6)).put7 (lim (a / b) 7))
          replace R6 := R6.only ho (by omega)
          have hB9 := hH.trans (ho.below (by omega))
          have hz9 := Nat.le_of_eq ho.size.symm
          clear ho
          refine wpAnyH_ready (rs := [9]) (by kernel_rfl) (by simp) ?_
          refine AllReadyH.cons rfl (fun K hK => ?_) AllReadyH.nil
          go_simp
          refine hK.out _ _ hB9 (fun hH => ?_)
          clear hK K e0 e1 e2 e3 e4 e5 e6 e7 ef0 ef1 ef2 ef3 ef4 ef5 ef6 ef7 hB9
          generalize ((((((((Wn17.setCell ⟨Wq16.heap.size, 0, none⟩ (.int .u64 (lim (a / b) 0))).setCell ⟨Wq16.heap.size, 1, none⟩ (.int .u64 (lim (a / b) 1))).setCell ⟨Wq16.heap.size, 2, none⟩ (.int .u64 (lim (a / b) 2))).setCell ⟨Wq16.heap.size, 3, none⟩ (.int .u64 (lim (a / b) 3))).setCell ⟨Wq16.heap.size, 4, none⟩ (.int .u64 (lim (a / b) 4))).setCell ⟨Wq16.heap.size, 5, none⟩ (.int .u64 (lim (a / b) 5))).setCell ⟨Wq16.heap.size, 6, none⟩ (.int .u64 (lim (a / b) 6))).setCell ⟨Wq16.heap.size, 7, none⟩ (.int .u64 (lim (a / b) 7))) = Wx18 at hH R5 R6 hz9 ⊢
          obtain ⟨e0, e1, e2, e3, ef⟩ := id R6
          have ef0 := ef 0 (by decide); have ef1 := ef 1 (by decide); have ef2 := ef 2 (by decide); have ef3 := ef 3 (by decide)
          clear ef
          have ho : Only Wx18 ((((Wx18.setCell ⟨Wq0.heap.size, 0, none⟩ (.int .u64 (lim (rmod a b) 0))).setCell ⟨Wq0.heap.size, 1, none⟩ (.int .u64 (lim (rmod a b) 1))).setCell ⟨Wq0.heap.size, 2, none⟩ (.int .u64 (lim (rmod a b) 2))).setCell ⟨Wq0.heap.size, 3, none⟩ (.int .u64 (lim (rmod a b) 3))) (Wq0.heap.size) 0 4 := ((((Only.refl _ _ _ _).setCell _ _ (by omega) (by omega)).setCell _ _ (by omega) (by omega)).setCell _ _ (by omega) (by omega)).setCell _ _ (by omega) (by omega)
          replace R5 := R5.only ho (by omega)
          replace R6 : Row4 ((((Wx18.setCell ⟨Wq0.heap.size, 0, none⟩ (.int .u64 (lim (rmod a b) 0))).setCell ⟨Wq0.heap.size, 1, none⟩ (.int .u64 (lim (rmod a b) 1))).setCell ⟨Wq0.heap.size, 2, none⟩ (.int .u64 (lim (rmod a b) 2))).setCell ⟨Wq0.heap.size, 3, none⟩ (.int .u64 (lim (rmod a b) 3))) (Wq0.heap.size) (lim (rmod a b) 0) (lim (rmod a b) 1) (lim (rmod a b) 2) (lim (rmod a b) 3) := ⟨by simp [go_sem, e0], by simp [go_sem, e1], by simp [go_sem, e2], by simp [go_sem, e3], fun j hj => (ho.frozen j).trans (R6.fz j hj)⟩
          have hB9 := hH.trans (ho.below (by omega))
          clear ho hz9
          refine wpAnyH_ready (rs := [10]) (by kernel_rfl) (by simp) ?_
          refine AllReadyH.cons rfl (fun K hK => ?_) AllReadyH.nil
          go_simp
          refine hK.out _ _ hB9 (fun hH => ?_)
          clear hK K e0 e1 e2 e3 ef0 ef1 ef2 ef3 hB9
          generalize ((((Wx18.setCell ⟨Wq0.heap.size, 0, none⟩ (.int .u64 (lim (rmod a b) 0))).setCell ⟨Wq0.heap.size, 1, none⟩ (.int .u64 (lim (rmod a b) 1))).setCell ⟨Wq0.heap.size, 2, none⟩ (.int .u64 (lim (rmod a b) 2))).setCell ⟨Wq0.heap.size, 3, none⟩ (.int .u64 (lim (rmod a b) 3))) = Wy18 at hH R5 R6 ⊢
          refine wpAnyH_done (by kernel_rfl) ?_ _
          obtain ⟨e0, e1, e2, e3, -⟩ := R6
          obtain ⟨x0, x1, x2, x3, x4, x5, x6, x7⟩ := C2.below hH z3
          clear R5
          go_wp2
          simp [bodyPost, results, Try.results31, go_sem, x0, x1, x2, x3]
          exact set4_below (hB.trans (hH.mono hB.size)) (by omega) _
      · go_simp
        have hbn := below1 Wn15 (.cells #[.int .u64 0, .int .u64 0, .int .u64 0, .int .u64 0, .int .u64 0, .int .u64 0, .int .u64 0, .int .u64 0] 56)
        refine hK.out _ _ (below_over0 hH hbn) (fun hH => ?_)
        replace R6 := R6.below hbn (by omega)
        have R5 := row8_new Wn15 0 0 0 0 0 0 0 0
        have hz19 : Wn15.heap.size + 1 ≤ (Wn15.alloc (.cells #[.int .u64 0, .int .u64 0, .int .u64 0, .int .u64 0, .int .u64 0, .int .u64 0, .int .u64 0, .int .u64 0] 56)).heap.size := by simp
        clear hbn hK K
        generalize Wn15.alloc (.cells #[.int .u64 0, .int .u64 0, .int .u64 0, .int .u64 0, .int .u64 0, .int .u64 0, .int .u64 0, .int .u64 0] 56) = Wn19 at hH hz19 R5 R6 ⊢
        have hw19 := hH.size
        refine wpAnyH_ready (rs := [3]) (by kernel_rfl) (by simp) ?_
        refine (AllReadyH.cons rfl (fun K hK => ?_) AllReadyH.nil)
        · go_simp
          refine (HDV.out _).mono ?_
          rintro e Wq20 ⟨rfl, hbn⟩
          go_wp2_with fail
          refine hK.out _ _ (below_over0 hH hbn) (fun hH => ?_)
          replace R5 := R5.below hbn (by omega)
          replace R6 := R6.below hbn (by omega)
          have hz20 := hbn.size
          clear hbn hK K
          refine take_d (i := 4) (d := some 7) (v := .tuple #[.agg #[.int .u64 (lim (a / b) 0), .int .u64 (lim (a / b) 1), .int .u64 (lim (a / b) 2), .int .u64 (lim (a / b) 3), .int .u64 (lim (a / b) 4), .int .u64 (lim (a / b) 5), .int .u64 (lim (a / b) 6), .int .u64 (lim (a / b) 7)], .agg #[.int .u64 (lim (rmod a b) 0), .int .u64 (lim (rmod a b) 1), .int .u64 (lim (rmod a b) 2), .int .u64 (lim (rmod a b) 3)]]) rfl rfl (by kernel_rfl) (by kernel_rfl) (by kernel_rfl) (fun _ _ _ h => h) (Or.inl ⟨by rfl, fun W hW => ?_⟩) hH ?_
          · clear hW hH
            go_simp
          simp only [Act.put, List.setIfInBounds_toArray, List.set_cons_zero, List.set_cons_succ]
          refine take_d (i := 5) (d := some 12) (v := .agg #[.int .u64 (lim (a / b) 0), .int .u64 (lim (a / b) 1), .int .u64 (lim (a / b) 2), .int .u64 (lim (a / b) 3), .int .u64 (lim (a / b) 4), .int .u64 (lim (a / b) 5), .int .u64 (lim (a / b) 6), .int .u64 (lim (a / b) 7)]) rfl rfl (by kernel_rfl) (by kernel_rfl) (by kernel_rfl) (fun _ _ _ h => h) (Or.inl ⟨by rfl, fun W hW => ?_⟩) hH ?_
          · clear hW hH
            go_simp
          simp only [Act.put, List.setIfInBounds_toArray, List.set_cons_zero, List.set_cons_succ]
          refine take_d (i := 6) (d := some 13) (v := .agg #[.int .u64 (lim (rmod a b) 0), .int .u64 (lim (rmod a b) 1), .int .u64 (lim (rmod a b) 2), .int .u64 (lim (rmod a b) 3)]) rfl rfl (by kernel_rfl) (by kernel_rfl) (by kernel_rfl) (fun _ _ _ h => h) (Or.inl ⟨by rfl, fun W hW => ?_⟩) hH ?_
          · clear hW hH
            go_simp
          simp only [Act.put, List.setIfInBounds_toArray, List.set_cons_zero, List.set_cons_succ]
          obtain ⟨e0, e1, e2, e3, e4, e5, e6, e7, ef⟩ := id R5
          have ef0 := ef 0 (by decide); have ef1 := ef 1 (by decide); have ef2 := ef 2 (by decide); have ef3 := ef 3 (by decide); have ef4 := ef 4 (by decide); have ef5 := ef 5 (by decide); have ef6 := ef 6 (by decide); have ef7 := ef 7 (by decide)
          clear ef
          have ho : Only Wq20 ((((((((Wq20.setCell ⟨Wn15.heap.size, 0, none⟩ (.int .u64 (lim (a / b) 0))).setCell ⟨Wn15.heap.size, 1, none⟩ (.int .u64 (lim (a / b) 1))).setCell ⟨Wn15.heap.size, 2, none⟩ (.int .u64 (lim (a / b) 2))).setCell ⟨Wn15.heap.size, 3, none⟩ (.int .u64 (lim (a / b) 3))).setCell ⟨Wn15.heap.size, 4, none⟩ (.int .u64 (lim (a / b) 4))).setCell ⟨Wn15.heap.size, 5, none⟩ (.int .u64 (lim (a / b) 5))).setCell ⟨Wn15.heap.size, 6, none⟩ (.int .u64 (lim (a / b) 6))).setCell ⟨Wn15.heap.size, 7, none⟩ (.int .u64 (lim (a / b) 7))) (Wn15.heap.size) 0 8 := ((((((((Only.refl _ _ _ _).setCell _ _ (by omega) (by omega)).setCell _ _ (by omega) (by omega)).setCell _ _ (by omega) (by omega)).setCell _ _ (by omega) (by omega)).setCell _ _ (by omega) (by omega)).setCell _ _ (by omega) (by omega)).setCell _ _ (by omega) (by omega)).setCell _ _ (by omega) (by omega)
          replace R5 := ((((((((R5.put0 (lim (a / b) 0)).put1 (lim (a / b) 1)).put2 (lim (a / b) 2)).put3 (lim (a / b) 3)).put4 (lim (a / b) 4)).put5 (lim (a / b) 5)).put6 (lim (a / b) 6)).put7 (lim (a / b) 7))
          replace R6 := R6.only ho (by omega)
          have hB9 := hH.trans (ho.below (by omega))
          have hz9 := Nat.le_of_eq ho.size.symm
          clear ho
          refine wpAnyH_ready (rs := [9]) (by kernel_rfl) (by simp) ?_
          refine AllReadyH.cons rfl (fun K hK => ?_) AllReadyH.nil
          go_simp
          refine hK.out _ _ hB9 (fun hH => ?_)
          clear hK K e0 e1 e2 e3 e4 e5 e6 e7 ef0 ef1 ef2 ef3 ef4 ef5 ef6 ef7 hB9
          generalize ((((((((Wq20.setCell ⟨Wn15.heap.size, 0, none⟩ (.int .u64 (lim (a / b) 0))).setCell ⟨Wn15.heap.size, 1, none⟩ (.int .u64 (lim (a / b) 1))).setCell ⟨Wn15.heap.size, 2, none⟩ (.int .u64 (lim (a / b) 2))).setCell ⟨Wn15.heap.size, 3, none⟩ (.int .u64 (lim (a / b) 3))).setCell ⟨Wn15.heap.size, 4, none⟩ (.int .u64 (lim (a / b) 4))).setCell ⟨Wn15.heap.size, 5, none⟩ (.int .u64 (lim (a / b) 5))).setCell ⟨Wn15.heap.size, 6, none⟩ (.int .u64 (lim (a / b) 6))).setCell ⟨Wn15.heap.size, 7, none⟩ (.int .u64 (lim (a / b) 7))) = Wx21 at hH R5 R6 hz9 ⊢
          obtain ⟨e0, e1, e2, e3, ef⟩ := id R6
          have ef0 := ef 0 (by decide); have ef1 := ef 1 (by decide); have ef2 := ef 2 (by decide); have ef3 := ef 3 (by decide)
          clear ef
          have ho : Only Wx21 ((((Wx21.setCell ⟨Wq0.heap.size, 0, none⟩ (.int .u64 (lim (rmod a b) 0))).setCell ⟨Wq0.heap.size, 1, none⟩ (.int .u64 (lim (rmod a b) 1))).setCell ⟨Wq0.heap.size, 2, none⟩ (.int .u64 (lim (rmod a b) 2))).setCell ⟨Wq0.heap.size, 3, none⟩ (.int .u64 (lim (rmod a b) 3))) (Wq0.heap.size) 0 4 := ((((Only.refl _ _ _ _).setCell _ _ (by omega) (by omega)).setCell _ _ (by omega) (by omega)).setCell _ _ (by omega) (by omega)).setCell _ _ (by omega) (by omega)
          replace R5 := R5.only ho (by omega)
          replace R6 : Row4 ((((Wx21.setCell ⟨Wq0.heap.size, 0, none⟩ (.int .u64 (lim (rmod a b) 0))).setCell ⟨Wq0.heap.size, 1, none⟩ (.int .u64 (lim (rmod a b) 1))).setCell ⟨Wq0.heap.size, 2, none⟩ (.int .u64 (lim (rmod a b) 2))).setCell ⟨Wq0.heap.size, 3, none⟩ (.int .u64 (lim (rmod a b) 3))) (Wq0.heap.size) (lim (rmod a b) 0) (lim (rmod a b) 1) (lim (rmod a b) 2) (lim (rmod a b) 3) := ⟨by simp [go_sem, e0], by simp [go_sem, e1], by simp [go_sem, e2], by simp [go_sem, e3], fun j hj => (ho.frozen j).trans (R6.fz j hj)⟩
          have hB9 := hH.trans (ho.below (by omega))
          clear ho hz9
          refine wpAnyH_ready (rs := [10]) (by kernel_rfl) (by simp) ?_
          refine AllReadyH.cons rfl (fun K hK => ?_) AllReadyH.nil
          go_simp
          refine hK.out _ _ hB9 (fun hH => ?_)
          clear hK K e0 e1 e2 e3 ef0 ef1 ef2 ef3 hB9
          generalize ((((Wx21.setCell ⟨Wq0.heap.size, 0, none⟩ (.int .u64 (lim (rmod a b) 0))).setCell ⟨Wq0.heap.size, 1, none⟩ (.int .u64 (lim (rmod a b) 1))).setCell ⟨Wq0.heap.size, 2, none⟩ (.int .u64 (lim (rmod a b) 2))).setCell ⟨Wq0.heap.size, 3, none⟩ (.int .u64 (lim (rmod a b) 3))) = Wy21 at hH R5 R6 ⊢
          refine wpAnyH_done (by kernel_rfl) ?_ _
          obtain ⟨e0, e1, e2, e3, -⟩ := R6
          obtain ⟨x0, x1, x2, x3, x4, x5, x6, x7⟩ := C2.below hH z3
          clear R5
          go_wp2
          simp [bodyPost, results, Try.results31, go_sem, x0, x1, x2, x3]
          exact set4_below (hB.trans (hH.mono hB.size)) (by omega) _
  · go_simp
    have hbn := below1 Wa (.cells #[.int .u64 0, .int .u64 0, .int .u64 0, .int .u64 0, .int .u64 0, .int .u64 0, .int .u64 0, .int .u64 0] 56)
    refine hK.out _ _ (below_over0 hH hbn) (fun hH => ?_)
    have R5 := row8_new Wa 0 0 0 0 0 0 0 0
    have hz22 : Wa.heap.size + 1 ≤ (Wa.alloc (.cells #[.int .u64 0, .int .u64 0, .int .u64 0, .int .u64 0, .int .u64 0, .int .u64 0, .int .u64 0, .int .u64 0] 56)).heap.size := by simp
    clear hbn hK K
    generalize Wa.alloc (.cells #[.int .u64 0, .int .u64 0, .int .u64 0, .int .u64 0, .int .u64 0, .int .u64 0, .int .u64 0, .int .u64 0] 56) = Wn22 at hH hz22 R5 ⊢
    have hw22 := hH.size
    refine wpAnyH_ready (rs := [1, 8]) (by kernel_rfl) (by simp) ?_
    refine (AllReadyH.cons rfl (fun K hK => ?_) (AllReadyH.cons rfl (fun K hK => ?_) AllReadyH.nil))
    · go_simp
      refine (HWI.out _).mono ?_
      rintro e Wq23 ⟨rfl, hbn⟩
      go_wp2_with fail
      refine hK.out _ _ (below_over0 hH hbn) (fun hH => ?_)
      replace R5 := R5.below hbn (by omega)
      have hz23 := hbn.size
      clear hbn hK K
      refine wpAnyH_ready (rs := [3, 8]) (by kernel_rfl) (by simp) ?_
      refine (AllReadyH.cons rfl (fun K hK => ?_) (AllReadyH.cons rfl (fun K hK => ?_) AllReadyH.nil))
      · go_simp
        refine (HDV.out _).mono ?_
        rintro e Wq24 ⟨rfl, hbn⟩
        go_wp2_with fail
        refine hK.out _ _ (below_over0 hH hbn) (fun hH => ?_)
        replace R5 := R5.below hbn (by omega)
        have hz24 := hbn.size
        clear hbn hK K
        refine take_d (i := 4) (d := some 7) (v := .tuple #[.agg #[.int .u64 (lim (a / b) 0), .int .u64 (lim (a / b) 1), .int .u64 (lim (a / b) 2), .int .u64 (lim (a / b) 3), .int .u64 (lim (a / b) 4), .int .u64 (lim (a / b) 5), .int .u64 (lim (a / b) 6), .int .u64 (lim (a / b) 7)], .agg #[.int .u64 (lim (rmod a b) 0), .int .u64 (lim (rmod a b) 1), .int .u64 (lim (rmod a b) 2), .int .u64 (lim (rmod a b) 3)]]) rfl rfl (by kernel_rfl) (by kernel_rfl) (by kernel_rfl) (fun _ _ _ h => h) (Or.inl ⟨by rfl, fun W hW => ?_⟩) hH ?_
        · clear hW hH
          go_simp
        simp only [Act.put, List.setIfInBounds_toArray, List.set_cons_zero, List.set_cons_succ]
        refine take_d (i := 5) (d := some 12) (v := .agg #[.int .u64 (lim (a / b) 0), .int .u64 (lim (a / b) 1), .int .u64 (lim (a / b) 2), .int .u64 (lim (a / b) 3), .int .u64 (lim (a / b) 4), .int .u64 (lim (a / b) 5), .int .u64 (lim (a / b) 6), .int .u64 (lim (a / b) 7)]) rfl rfl (by kernel_rfl) (by kernel_rfl) (by kernel_rfl) (fun _ _ _ h => h) (Or.inl ⟨by rfl, fun W hW => ?_⟩) hH ?_
        · clear hW hH
          go_simp
        simp only [Act.put, List.setIfInBounds_toArray, List.set_cons_zero, List.set_cons_succ]
        refine take_d (i := 6) (d := some 13) (v := .agg #[.int .u64 (lim (rmod a b) 0), .int .u64 (lim (rmod a b) 1), .int .u64 (lim (rmod a b) 2), .int .u64 (lim (rmod a b) 3)]) rfl rfl (by kernel_rfl) (by kernel_rfl) (by kernel_rfl) (fun _ _ _ h => h) (Or.inl ⟨by rfl, fun W hW => ?_⟩) hH ?_
        · clear hW hH
          go_simp
        simp only [Act.put, List.setIfInBounds_toArray, List.set_cons_zero, List.set_cons_succ]
        refine wpAnyH_ready (rs := [8]) (by kernel_rfl) (by simp) ?_
        refine (AllReadyH.cons rfl (fun K hK => ?_) AllReadyH.nil)
        · go_simp
          have hbn := below1 Wq24 (.cells #[.int .u64 0, .int .u64 0, .int .u64 0, .int .u64 0] 24)
          refine hK.out _ _ (below_over0 hH hbn) (fun hH => ?_)
          replace R5 := R5.below hbn (by omega)
          have R6 := row4_new Wq24 0 0 0 0
          have hz25 : Wq24.heap.size + 1 ≤ (Wq24.alloc (.cells #[.int .u64 0, .int .u64 0, .int .u64 0, .int .u64 0] 24)).heap.size := by simp
          clear hbn hK K
          generalize Wq24.alloc (.cells #[.int .u64 0, .int .u64 0, .int .u64 0, .int .u64 0] 24) = Wn25 at hH hz25 R5 R6 ⊢
          have hw25 := hH.size
          obtain ⟨e0, e1, e2, e3, e4, e5, e6, e7, ef⟩ := id R5
          have ef0 := ef 0 (by decide); have ef1 := ef 1 (by decide); have ef2 := ef 2 (by decide); have ef3 := ef 3 (by decide); have ef4 := ef 4 (by decide); have ef5 := ef 5 (by decide); have ef6 := ef 6 (by decide); have ef7 := ef 7 (by decide)
          clear ef
          have ho : Only Wn25 ((((((((Wn25.setCell ⟨Wa.heap.size, 0, none⟩ (.int .u64 (lim (a / b) 0))).setCell ⟨Wa.heap.size, 1, none⟩ (.int .u64 (lim (a / b) 1))).setCell ⟨Wa.heap.size, 2, none⟩ (.int .u64 (lim (a / b) 2))).setCell ⟨Wa.heap.size, 3, none⟩ (.int .u64 (lim (a / b) 3))).setCell ⟨Wa.heap.size, 4, none⟩ (.int .u64 (lim (a / b) 4))).setCell ⟨Wa.heap.size, 5, none⟩ (.int .u64 (lim (a / b) 5))).setCell ⟨Wa.heap.size, 6, none⟩ (.int .u64 (lim (a / b) 6))).setCell ⟨Wa.heap.size, 7, none⟩ (.int .u64 (lim (a / b) 7))) (Wa.heap.size) 0 8 := ((((((((Only.refl _ _ _ _).setCell _ _ (by omega) (by omega)).setCell _ _ (by omega) (by omega)).setCell _ _ (by omega) (by omega)).setCell _ _ (by omega) (by omega)).setCell _ _ (by omega) (by omega)).setCell _ _ (by omega) (by omega)).setCell _ _ (by omega) (by omega)).setCell _ _ (by omega) (by omega)
          replace R5 := ((((((((R5.put0 (lim (a / b) 0)).put1 (lim (a / b) 1)).put2 (lim (a / b) 2)).put3 (lim (a / b) 3)).put4 (lim (a / b) 4)).put5 (lim (a / b) 5)).put6 (lim (a / b) 6)).put7 (lim (a / b) 7))
          replace R6 := R6.only ho (by omega)
          have hB9 := hH.trans (ho.below (by omega))
          have hz9 := Nat.le_of_eq ho.size.symm
          clear ho
          refine wpAnyH_ready (rs := [9]) (by kernel_rfl) (by simp) ?_
          refine AllReadyH.cons rfl (fun K hK => ?_) AllReadyH.nil
          go_simp
          refine hK.out _ _ hB9 (fun hH => ?_)
          clear hK K e0 e1 e2 e3 e4 e5 e6 e7 ef0 ef1 ef2 ef3 ef4 ef5 ef6 ef7 hB9
          generalize ((((((((Wn25.setCell ⟨Wa.heap.size, 0, none⟩ (.int .u64 (lim (a / b) 0))).setCell ⟨Wa.heap.size, 1, none⟩ (.int .u64 (lim (a / b) 1))).setCell ⟨Wa.heap.size, 2, none⟩ (.int .u64 (lim (a / b) 2))).setCell ⟨Wa.heap.size, 3, none⟩ (.int .u64 (lim (a / b) 3))).setCell ⟨Wa.heap.size, 4, none⟩ (.int .u64 (lim (a / b) 4))).setCell ⟨Wa.heap.size, 5, none⟩ (.int .u64 (lim (a / b) 5))).setCell ⟨Wa.heap.size, 6, none⟩ (.int .u64 (lim (a / b) 6))).setCell ⟨Wa.heap.size, 7, none⟩ (.int .u64 (lim (a / b) 7))) = Wx26 at hH R5 R6 hz9 ⊢
          obtain ⟨e0, e1, e2, e3, ef⟩ := id R6
          have ef0 := ef 0 (by decide); have ef1 := ef 1 (by decide); have ef2 := ef 2 (by decide); have ef3 := ef 3 (by decide)
          clear ef
          have ho : Only Wx26 ((((Wx26.setCell ⟨Wq24.heap.size, 0, none⟩ (.int .u64 (lim (rmod a b) 0))).setCell ⟨Wq24.heap.size, 1, none⟩ (.int .u64 (lim (rmod a b) 1))).setCell ⟨Wq24.heap.size, 2, none⟩ (.int .u64 (lim (rmod a b) 2))).setCell ⟨Wq24.heap.size, 3, none⟩ (.int .u64 (lim (rmod a b) 3))) (Wq24.heap.size) 0 4 := ((((Only.refl _ _ _ _).setCell _ _ (by omega) (by omega)).setCell _ _ (by omega) (by omega)).setCell _ _ (by omega) (by omega)).setCell _ _ (by omega) (by omega)
          replace R5 := R5.only ho (by omega)
          replace R6 : Row4 ((((Wx26.setCell ⟨Wq24.heap.size, 0, none⟩ (.int .u64 (lim (rmod a b) 0))).setCell ⟨Wq24.heap.size, 1, none⟩ (.int .u64 (lim (rmod a b) 1))).setCell ⟨Wq24.heap.size, 2, none⟩ (.int .u64 (lim (rmod a b) 2))).setCell ⟨Wq24.heap.size, 3, none⟩ (.int .u64 (lim (rmod a b) 3))) (Wq24.heap.size) (lim (rmod a b) 0) (lim (rmod a b) 1) (lim (rmod a b) 2) (lim (rmod a b) 3) := ⟨by simp [go_sem, e0], by simp [go_sem, e1], by simp [go_sem, e2], by simp [go_sem, e3], fun j hj => (ho.frozen j).trans (R6.fz j hj)⟩
          have hB9 := hH.trans (ho.below (by omega))
          clear ho hz9
          refine wpAnyH_ready (rs := [10]) (by kernel_rfl) (by simp) ?_
          refine AllReadyH.cons rfl (fun K hK => ?_) AllReadyH.nil
          go_simp
          refine hK.out _ _ hB9 (fun hH => ?_)
          clear hK K e0 e1 e2 e3 ef0 ef1 ef2 ef3 hB9
          generalize ((((Wx26.setCell ⟨Wq24.heap.size, 0, none⟩ (.int .u64 (lim (rmod a b) 0))).setCell ⟨Wq24.heap.size, 1, none⟩ (.int .u64 (lim (rmod a b) 1))).setCell ⟨Wq24.heap.size, 2, none⟩ (.int .u64 (lim (rmod a b) 2))).setCell ⟨Wq24.heap.size, 3, none⟩ (.int .u64 (lim (rmod a b) 3))) = Wy26 at hH R5 R6 ⊢
          refine wpAnyH_done (by kernel_rfl) ?_ _
          obtain ⟨e0, e1, e2, e3, -⟩ := R6
          obtain ⟨x0, x1, x2, x3, x4, x5, x6, x7⟩ := C2.below hH z3
          clear R5
          go_wp2
          simp [bodyPost, results, Try.results31, go_sem, x0, x1, x2, x3]
          exact set4_below (hB.trans (hH.mono hB.size)) (by omega) _
      · go_simp
        have hbn := below1 Wq23 (.cells #[.int .u64 0, .int .u64 0, .int .u64 0, .int .u64 0] 24)
        refine hK.out _ _ (below_over0 hH hbn) (fun hH => ?_)
        replace R5 := R5.below hbn (by omega)
        have R6 := row4_new Wq23 0 0 0 0
        have hz27 : Wq23.heap.size + 1 ≤ (Wq23.alloc (.cells #[.int .u64 0, .int .u64 0, .int .u64 0, .int .u64 0] 24)).heap.size := by simp
        clear hbn hK K
        generalize Wq23.alloc (.cells #[.int .u64 0, .int .u64 0, .int .u64 0, .int .u64 0] 24) = Wn27 at hH hz27 R5 R6 ⊢
        have hw27 := hH.size
        refine wpAnyH_ready (rs := [3]) (by kernel_rfl) (by simp) ?_
        refine (AllReadyH.cons rfl (fun K hK => ?_) AllReadyH.nil)
        · go_simp
          refine (HDV.out _).mono ?_
          rintro e Wq28 ⟨rfl, hbn⟩
          go_wp2_with fail
          refine hK.out _ _ (below_over0 hH hbn) (fun hH => ?_)
          replace R5 := R5.below hbn (by omega)
          replace R6 := R6.below hbn (by omega)
          have hz28 := hbn.size
          clear hbn hK K
          refine take_d (i := 4) (d := some 7) (v := .tuple #[.agg #[.int .u64 (lim (a / b) 0), .int .u64 (lim (a / b) 1), .int .u64 (lim (a / b) 2), .int .u64 (lim (a / b) 3), .int .u64 (lim (a / b) 4), .int .u64 (lim (a / b) 5), .int .u64 (lim (a / b) 6), .int .u64 (lim (a / b) 7)], .agg #[.int .u64 (lim (rmod a b) 0), .int .u64 (lim (rmod a b) 1), .int .u64 (lim (rmod a b) 2), .int .u64 (lim (rmod a b) 3)]]) rfl rfl (by kernel_rfl) (by kernel_rfl) (by kernel_rfl) (fun _ _ _ h => h) (Or.inl ⟨by rfl, fun W hW => ?_⟩) hH ?_
          · clear hW hH
            go_simp
          simp only [Act.put, List.setIfInBounds_toArray, List.set_cons_zero, List.set_cons_succ]
          refine take_d (i := 5) (d := some 12) (v := .agg #[.int .u64 (lim (a / b) 0), .int .u64 (lim (a / b) 1), .int .u64 (lim (a / b) 2), .int .u64 (lim (a / b) 3), .int .u64 (lim (a / b) 4), .int .u64 (lim (a / b) 5), .int .u64 (lim (a / b) 6), .int .u64 (lim (a / b) 7)]) rfl rfl (by kernel_rfl) (by kernel_rfl) (by kernel_rfl) (fun _ _ _ h => h) (Or.inl ⟨by rfl, fun W hW => ?_⟩) hH ?_
          · clear hW hH
            go_simp
          simp only [Act.put, List.setIfInBounds_toArray, List.set_cons_zero, List.set_cons_succ]
          refine take_d (i := 6) (d := some 13) (v := .agg #[.int .u64 (lim (rmod a b) 0), .int .u64 (lim (rmod a b) 1), .int .u64 (lim (rmod a b) 2), .int .u64 (lim (rmod a b) 3)]) rfl rfl (by kernel_rfl) (by kernel_rfl) (by kernel_rfl) (fun _ _ _ h => h) (Or.inl ⟨by rfl, fun W hW => ?_⟩) hH ?_
          · clear hW hH
            go_simp
          simp only [Act.put, List.setIfInBounds_toArray, List.set_cons_zero, List.set_cons_succ]
          obtain ⟨e0, e1, e2, e3, e4, e5, e6, e7, ef⟩ := id R5
          have ef0 := ef 0 (by decide); have ef1 := ef 1 (by decide); have ef2 := ef 2 (by decide); have ef3 := ef 3 (by decide); have ef4 := ef 4 (by decide); have ef5 := ef 5 (by decide); have ef6 := ef 6 (by decide); have ef7 := ef 7 (by decide)
          clear ef
          have ho : Only Wq28 ((((((((Wq28.setCell ⟨Wa.heap.size, 0, none⟩ (.int .u64 (lim (a / b) 0))).setCell ⟨Wa.heap.size, 1, none⟩ (.int .u64 (lim (a / b) 1))).setCell ⟨Wa.heap.size, 2, none⟩ (.int .u64 (lim (a / b) 2))).setCell ⟨Wa.heap.size, 3, none⟩ (.int .u64 (lim (a / b) 3))).setCell ⟨Wa.heap.size, 4, none⟩ (.int .u64 (lim (a / b) 4))).setCell ⟨Wa.heap.size, 5, none⟩ (.int .u64 (lim (a / b) 5))).setCell ⟨Wa.heap.size, 6, none⟩ (.int .u64 (lim (a / b) 6))).setCell ⟨Wa.heap.size, 7, none⟩ (.int .u64 (lim (a / b) 7))) (Wa.heap.size) 0 8 := ((((((((Only.refl _ _ _ _).setCell _ _ (by omega) (by omega)).setCell _ _ (by omega) (by omega)).setCell _ _ (by omega) (by omega)).setCell _ _ (by omega) (by omega)).setCell _ _ (by omega) (by omega)).setCell _ _ (by omega) (by omega)).setCell _ _ (by omega) (by omega)).setCell _ _ (by omega) (by omega)
          replace R5 := ((((((((R5.put0 (lim (a / b) 0)).put1 (lim (a / b) 1)).put2 (lim (a / b) 2)).put3 (lim (a / b) 3)).put4 (lim (a / b) 4)).put5 (lim (a / b) 5)).put6 (lim (a / b) 6)).put7 (lim (a / b) 7))
          replace R6 := R6.only ho (by omega)
          have hB9 := hH.trans (ho.below (by omega))
          have hz9 := Nat.le_of_eq ho.size.symm
          clear ho
          refine wpAnyH_ready (rs := [9]) (by kernel_rfl) (by simp) ?_
          refine AllReadyH.cons rfl (fun K hK => ?_) AllReadyH.nil
          go_simp
          refine hK.out _ _ hB9 (fun hH => ?_)
          clear hK K e0 e1 e2 e3 e4 e5 e6 e7 ef0 ef1 ef2 ef3 ef4 ef5 ef6 ef7 hB9
          generalize ((((((((Wq28.setCell ⟨Wa.heap.size, 0, none⟩ (.int .u64 (lim (a / b) 0))).setCell ⟨Wa.heap.size, 1, none⟩ (.int .u64 (lim (a / b) 1))).setCell ⟨Wa.heap.size, 2, none⟩ (.int .u64 (lim (a / b) 2))).setCell ⟨Wa.heap.size, 3, none⟩ (.int .u64 (lim (a / b) 3))).setCell ⟨Wa.heap.size, 4, none⟩ (.int .u64 (lim (a / b) 4))).setCell ⟨Wa.heap.size, 5, none⟩ (.int .u64 (lim (a / b) 5))).setCell ⟨Wa.heap.size, 6, none⟩ (.int .u64 (lim (a / b) 6))).setCell ⟨Wa.heap.size, 7, none⟩ (.int .u64 (lim (a / b) 7))) = Wx29 at hH R5 R6 hz9 ⊢
          obtain ⟨e0, e1, e2, e3, ef⟩ := id R6
          have ef0 := ef 0 (by decide); have ef1 := ef 1 (by decide); have ef2 := ef 2 (by decide); have ef3 := ef 3 (by decide)
          clear ef
          have ho : Only Wx29 ((((Wx29.setCell ⟨Wq23.heap.size, 0, none⟩ (.int .u64 (lim (rmod a b) 0))).setCell ⟨Wq23.heap.size, 1, none⟩ (.int .u64 (lim (rmod a b) 1))).setCell ⟨Wq23.heap.size, 2, none⟩ (.int .u64 (lim (rmod a b) 2))).setCell ⟨Wq23.heap.size, 3, none⟩ (.int .u64 (lim (rmod a b) 3))) (Wq23.heap.size) 0 4 := ((((Only.refl _ _ _ _).setCell _ _ (by omega) (by omega)).setCell _ _ (by omega) (by omega)).setCell _ _ (by omega) (by omega)).setCell _ _ (by omega) (by omega)
          replace R5 := R5.only ho (by omega)
          replace R6 : Row4 ((((Wx29.setCell ⟨Wq23.heap.size, 0, none⟩ (.int .u64 (lim (rmod a b) 0))).setCell ⟨Wq23.heap.size, 1, none⟩ (.int .u64 (lim (rmod a b) 1))).setCell ⟨Wq23.heap.size, 2, none⟩ (.int .u64 (lim (rmod a b) 2))).setCell ⟨Wq23.heap.size, 3, none⟩ (.int .u64 (lim (rmod a b) 3))) (Wq23.heap.size) (lim (rmod a b) 0) (lim (rmod a b) 1) (lim (rmod a b) 2) (lim (rmod a b) 3) := ⟨by simp [go_sem, e0], by simp [go_sem, e1], by simp [go_sem, e2], by simp [go_sem, e3], fun j hj => (ho.frozen j).trans (R6.fz j hj)⟩
          have hB9 := hH.trans (ho.below (by omega))
          clear ho hz9
          refine wpAnyH_ready (rs := [10]) (by kernel_rfl) (by simp) ?_
          refine AllReadyH.cons rfl (fun K hK => ?_) AllReadyH.nil
          go_simp
          refine hK.out _ _ hB9 (fun hH => ?_)
          clear hK K e0 e1 e2 e3 ef0 ef1 ef2 ef3 hB9
          generalize ((((Wx29.setCell ⟨Wq23.heap.size, 0, none⟩ (.int .u64 (lim (rmod a b) 0))).setCell ⟨Wq23.heap.size, 1, none⟩ (.int .u64 (lim (rmod a b) 1))).setCell ⟨Wq23.heap.size, 2, none⟩ (.int .u64 (lim (rmod a b) 2))).setCell ⟨Wq23.heap.size, 3, none⟩ (.int .u64 (lim (rmod a b) 3))) = Wy29 at hH R5 R6 ⊢
          refine wpAnyH_done (by kernel_rfl) ?_ _
          obtain ⟨e0, e1, e2, e3, -⟩ := R6
          obtain ⟨x0, x1, x2, x3, x4, x5, x6, x7⟩ := C2.below hH z3
          clear R5
          go_wp2
          simp [bodyPost, results, Try.results31, go_sem, x0, x1, x2, x3]
          exact set4_below (hB.trans (hH.mono hB.size)) (by omega) _
    · go_simp
      have hbn := below1 Wn22 (.cells #[.int .u64 0, .int .u64 0, .int .u64 0, .int .u64 0] 24)
      refine hK.out _ _ (below_over0 hH hbn) (fun hH => ?_)
      replace R5 := R5.below hbn (by omega)
      have R6 := row4_new Wn22 0 0 0 0
      have hz30 : Wn22.heap.size + 1 ≤ (Wn22.alloc (.cells #[.int .u64 0, .int .u64 0, .int .u64 0, .int .u64 0] 24)).heap.size := by simp
      clear hbn hK K
      generalize Wn22.alloc (.cells #[.int .u64 0, .int .u64 0, .int .u64 0, .int .u64 0] 24) = Wn30 at hH hz30 R5 R6 ⊢
      have hw30 := hH.size
      refine wpAnyH_ready (rs := [1]) (by kernel_rfl) (by simp) ?_
      refine (AllReadyH.cons rfl (fun K hK => ?_) AllReadyH.nil)
      · go_simp
        refine (HWI.out _).mono ?_
        rintro e Wq31 ⟨rfl, hbn⟩
        go_wp2_with fail
        refine hK.out _ _ (below_over0 hH hbn) (fun hH => ?_)
        replace R5 := R5.below hbn (by omega)
        replace R6 := R6.below hbn (by omega)
        have hz31 := hbn.size
        clear hbn hK K
        refine wpAnyH_ready (rs := [3]) (by kernel_rfl) (by simp) ?_
        refine (AllReadyH.cons rfl (fun K hK => ?_) AllReadyH.nil)
        · go_simp
          refine (HDV.out _).mono ?_
          rintro e Wq32 ⟨rfl, hbn⟩
          go_wp2_with fail
          refine hK.out _ _ (below_over0 hH hbn) (fun hH => ?_)
          replace R5 := R5.below hbn (by omega)
          replace R6 := R6.below hbn (by omega)
          have hz32 := hbn.size
          clear hbn hK K
          refine take_d (i := 4) (d := some 7) (v := .tuple #[.agg #[.int .u64 (lim (a / b) 0), .int .u64 (lim (a / b) 1), .int .u64 (lim (a / b) 2), .int .u64 (lim (a / b) 3), .int .u64 (lim (a / b) 4), .int .u64 (lim (a / b) 5), .int .u64 (lim (a / b) 6), .int .u64 (lim (a / b) 7)], .agg #[.int .u64 (lim (rmod a b) 0), .int .u64 (lim (rmod a b) 1), .int .u64 (lim (rmod a b) 2), .int .u64 (lim (rmod a b) 3)]]) rfl rfl (by kernel_rfl) (by kernel_rfl) (by kernel_rfl) (fun _ _ _ h => h) (Or.inl ⟨by rfl, fun W hW => ?_⟩) hH ?_
          · clear hW hH
            go_simp
          simp only [Act.put, List.setIfInBounds_toArray, List.set_cons_zero, List.set_cons_succ]
          refine take_d (i := 5) (d := some 12) (v := .agg #[.int .u64 (lim (a / b) 0), .int .u64 (lim (a / b) 1), .int .u64 (lim (a / b) 2), .int .u64 (lim (a / b) 3), .int .u64 (lim (a / b) 4), .int .u64 (lim (a / b) 5), .int .u64 (lim (a / b) 6), .int .u64 (lim (a / b) 7)]) rfl rfl (by kernel_rfl) (by kernel_rfl) (by kernel_rfl) (fun _ _ _ h => h) (Or.inl ⟨by rfl, fun W hW => ?_⟩) hH ?_
          · clear hW hH
            go_simp
          simp only [Act.put, List.setIfInBounds_toArray, List.set_cons_zero, List.set_cons_succ]
          refine take_d (i := 6) (d := some 13) (v := .agg #[.int .u64 (lim (rmod a b) 0), .int .u64 (lim (rmod a b) 1), .int .u64 (lim (rmod a b) 2), .int .u64 (lim (rmod a b) 3)]) rfl rfl (by kernel_rfl) (by kernel_rfl) (by kernel_rfl) (fun _ _ _ h => h) (Or.inl ⟨by rfl, fun W hW => ?_⟩) hH ?_
          · clear hW hH
            go_simp
          simp only [Act.put, List.setIfInBounds_toArray, List.set_cons_zero, List.set_cons_succ]
          obtain ⟨e0, e1, e2, e3, e4, e5, e6, e7, ef⟩ := id R5
          have ef0 := ef 0 (by decide); have ef1 := ef 1 (by decide); have ef2 := ef 2 (by decide); have ef3 := ef 3 (by decide); have ef4 := ef 4 (by decide); have ef5 := ef 5 (by decide); have ef6 := ef 6 (by decide); have ef7 := ef 7 (by decide)
          clear ef
          have ho : Only Wq32 ((((((((Wq32.setCell ⟨Wa.heap.size, 0, none⟩ (.int .u64 (lim (a / b) 0))).setCell ⟨Wa.heap.size, 1, none⟩ (.int .u64 (lim (a / b) 1))).setCell ⟨Wa.heap.size, 2, none⟩ (.int .u64 (lim (a / b) 2))).setCell ⟨Wa.heap.size, 3, none⟩ (.int .u64 (lim (a / b) 3))).setCell ⟨Wa.heap.size, 4, none⟩ (.int .u64 (lim (a / b) 4))).setCell ⟨Wa.heap.size, 5, none⟩ (.int .u64 (lim (a / b) 5))).setCell ⟨Wa.heap.size, 6, none⟩ (.int .u64 (lim (a / b) 6))).setCell ⟨Wa.heap.size, 7, none⟩ (.int .u64 (lim (a / b) 7))) (Wa.heap.size) 0 8 := ((((((((Only.refl _ _ _ _).setCell _ _ (by omega) (by omega)).setCell _ _ (by omega) (by omega)).setCell _ _ (by omega) (by omega)).setCell _ _ (by omega) (by omega)).setCell _ _ (by omega) (by omega)).setCell _ _ (by omega) (by omega)).setCell _ _ (by omega) (by omega)).setCell _ _ (by omega) (by omega)
          replace R5 := ((((((((R5.put0 (lim (a / b) 0)).put1 (lim (a / b) 1)).put2 (lim (a / b) 2)).put3 (lim (a / b) 3)).put4 (lim (a / b) 4)).put5 (lim (a / b) 5)).put6 (lim (a / b) 6)).put7 (lim (a / b) 7))
          replace R6 := R6.only ho (by omega)
          have hB9 := hH.trans (ho.below (by omega))
          have hz9 := Nat.le_of_eq ho.size.symm
          clear ho
          refine wpAnyH_ready (rs := [9]) (by kernel_rfl) (by simp) ?_
          refine AllReadyH.cons rfl (fun K hK => ?_) AllReadyH.nil
          go_simp
          refine hK.out _ _ hB9 (fun hH => ?_)
          clear hK K e0 e1 e2 e3 e4 e5 e6 e7 ef0 ef1 ef2 ef3 ef4 ef5 ef6 ef7 hB9
          generalize ((((((((Wq32.setCell ⟨Wa.heap.size, 0, none⟩ (.int .u64 (lim (a / b) 0))).setCell ⟨Wa.heap.size, 1, none⟩ (.int .u64 (lim (a / b) 1))).setCell ⟨Wa.heap.size, 2, none⟩ (.int .u64 (lim (a / b) 2))).setCell ⟨Wa.heap.size, 3, none⟩ (.int .u64 (lim (a / b) 3))).setCell ⟨Wa.heap.size, 4, none⟩ (.int .u64 (lim (a / b) 4))).setCell ⟨Wa.heap.size, 5, none⟩ (.int .u64 (lim (a / b) 5))).setCell ⟨Wa.heap.size, 6, none⟩ (.int .u64 (lim (a / b) 6))).setCell ⟨Wa.heap.size, 7, none⟩ (.int .u64 (lim (a / b) 7))) = Wx33 at hH R5 R6 hz9 ⊢
          obtain ⟨e0, e1, e2, e3, ef⟩ := id R6
          have ef0 := ef 0 (by decide); have ef1 := ef 1 (by decide); have ef2 := ef 2 (by decide); have ef3 := ef 3 (by decide)
          clear ef
          have ho : Only Wx33 ((((Wx33.setCell ⟨Wn22.heap.size, 0, none⟩ (.int .u64 (lim (rmod a b) 0))).setCell ⟨Wn22.heap.size, 1, none⟩ (.int .u64 (lim (rmod a b) 1))).setCell ⟨Wn22.heap.size, 2, none⟩ (.int .u64 (lim (rmod a b) 2))).setCell ⟨Wn22.heap.size, 3, none⟩ (.int .u64 (lim (rmod a b) 3))) (Wn22.heap.size) 0 4 := ((((Only.refl _ _ _ _).setCell _ _ (by omega) (by omega)).setCell _ _ (by omega) (by omega)).setCell _ _ (by omega) (by omega)).setCell _ _ (by omega) (by omega)
          replace R5 := R5.only ho (by omega)
          replace R6 : Row4 ((((Wx33.setCell ⟨Wn22.heap.size, 0, none⟩ (.int .u64 (lim (rmod a b) 0))).setCell ⟨Wn22.heap.size, 1, none⟩ (.int .u64 (lim (rmod a b) 1))).setCell ⟨Wn22.heap.size, 2, none⟩ (.int .u64 (lim (rmod a b) 2))).setCell ⟨Wn22.heap.size, 3, none⟩ (.int .u64 (lim (rmod a b) 3))) (Wn22.heap.size) (lim (rmod a b) 0) (lim (rmod a b) 1) (lim (rmod a b) 2) (lim (rmod a b) 3) := ⟨by simp [go_sem, e0], by simp [go_sem, e1], by simp [go_sem, e2], by simp [go_sem, e3], fun j hj => (ho.frozen j).trans (R6.fz j hj)⟩
          have hB9 := hH.trans (ho.below (by omega))
          clear ho hz9
          refine wpAnyH_ready (rs := [10]) (by kernel_rfl) (by simp) ?_
          refine AllReadyH.cons rfl (fun K hK => ?_) AllReadyH.nil
          go_simp
          refine hK.out _ _ hB9 (fun hH => ?_)
          clear hK K e0 e1 e2 e3 ef0 ef1 ef2 ef3 hB9
          generalize ((((Wx33.setCell ⟨Wn22.heap.size, 0, none⟩ (.int .u64 (lim (rmod a b) 0))).setCell ⟨Wn22.heap.size, 1, none⟩ (.int .u64 (lim (rmod a b) 1))).setCell ⟨Wn22.heap.size, 2, none⟩ (.int .u64 (lim (rmod a b) 2))).setCell ⟨Wn22.heap.size, 3, none⟩ (.int .u64 (lim (rmod a b) 3))) = Wy33 at hH R5 R6 ⊢
          refine wpAnyH_done (by kernel_rfl) ?_ _
          obtain ⟨e0, e1, e2, e3, -⟩ := R6
          obtain ⟨x0, x1, x2, x3, x4, x5, x6, x7⟩ := C2.below hH z3
          clear R5
          go_wp2
          simp [bodyPost, results, Try.results31, go_sem, x0, x1, x2, x3]
          exact set4_below (hB.trans (hH.mono hB.size)) (by omega) _
  · go_simp
    have hbn := below1 Wa (.cells #[.int .u64 0, .int .u64 0, .int .u64 0, .int .u64 0] 24)
    refine hK.out _ _ (below_over0 hH hbn) (fun hH => ?_)
    have R6 := row4_new Wa 0 0 0 0
    have hz34 : Wa.heap.size + 1 ≤ (Wa.alloc (.cells #[.int .u64 0, .int .u64 0, .int .u64 0, .int .u64 0] 24)).heap.size := by simp
    clear hbn hK K
    generalize Wa.alloc (.cells #[.int .u64 0, .int .u64 0, .int .u64 0, .int .u64 0] 24) = Wn34 at hH hz34 R6 ⊢
    have hw34 := hH.size
    refine wpAnyH_ready (rs := [1, 7]) (by kernel_rfl) (by simp) ?_
    refine (AllReadyH.cons rfl (fun K hK => ?_) (AllReadyH.cons rfl (fun K hK => ?_) AllReadyH.nil))
    · go_simp
      refine (HWI.out _).mono ?_
      rintro e Wq35 ⟨rfl, hbn⟩
      go_wp2_with fail
      refine hK.out _ _ (below_over0 hH hbn) (fun hH => ?_)
      replace R6 := R6.below hbn (by omega)
      have hz35 := hbn.size
      clear hbn hK K
      refine wpAnyH_ready (rs := [3, 7]) (by kernel_rfl) (by simp) ?_
      refine (AllReadyH.cons rfl (fun K hK => ?_) (AllReadyH.cons rfl (fun K hK => ?_) AllReadyH.nil))
      · go_simp
        refine (HDV.out _).mono ?_
        rintro e Wq36 ⟨rfl, hbn⟩
        go_wp2_with fail
        refine hK.out _ _ (below_over0 hH hbn) (fun hH => ?_)
        replace R6 := R6.below hbn (by omega)
        have hz36 := hbn.size
        clear hbn hK K
        refine take_d (i := 4) (d := some 7) (v := .tuple #[.agg #[.int .u64 (lim (a / b) 0), .int .u64 (lim (a / b) 1), .int .u64 (lim (a / b) 2), .int .u64 (lim (a / b) 3), .int .u64 (lim (a / b) 4), .int .u64 (lim (a / b) 5), .int .u64 (lim (a / b) 6), .int .u64 (lim (a / b) 7)], .agg #[.int .u64 (lim (rmod a b) 0), .int .u64 (lim (rmod a b) 1), .int .u64 (lim (rmod a b) 2), .int .u64 (lim (rmod a b) 3)]]) rfl rfl (by kernel_rfl) (by kernel_rfl) (by kernel_rfl) (fun _ _ _ h => h) (Or.inl ⟨by rfl, fun W hW => ?_⟩) hH ?_
        · clear hW hH
          go_simp
        simp only [Act.put, List.setIfInBounds_toArray, List.set_cons_zero, List.set_cons_succ]
        refine take_d (i := 5) (d := some 12) (v := .agg #[.int .u64 (lim (a / b) 0), .int .u64 (lim (a / b) 1), .int .u64 (lim (a / b) 2), .int .u64 (lim (a / b) 3), .int .u64 (lim (a / b) 4), .int .u64 (lim (a / b) 5), .int .u64 (lim (a / b) 6), .int .u64 (lim (a / b) 7)]) rfl rfl (by kernel_rfl) (by kernel_rfl) (by kernel_rfl) (fun _ _ _ h => h) (Or.inl ⟨by rfl, fun W hW => ?_⟩) hH ?_
        · clear hW hH
          go_simp
        simp only [Act.put, List.setIfInBounds_toArray, List.set_cons_zero, List.set_cons_succ]
        refine take_d (i := 6) (d := some 13) (v := .agg #[.int .u64 (lim (rmod a b) 0), .int .u64 (lim (rmod a b) 1), .int .u64 (lim (rmod a b) 2), .int .u64 (lim (rmod a b) 3)]) rfl rfl (by kernel_rfl) (by kernel_rfl) (by kernel_rfl) (fun _ _ _ h => h) (Or.inl ⟨by rfl, fun W hW => ?_⟩) hH ?_
        · clear hW hH
          go_simp
        simp only [Act.put, List.setIfInBounds_toArray, List.set_cons_zero, List.set_cons_succ]
        refine wpAnyH_ready (rs := [7]) (by kernel_rfl) (by simp) ?_
        refine (AllReadyH.cons rfl (fun K hK => ?_) AllReadyH.nil)
        · go_simp
          have hbn := below1 Wq36 (.cells #[.int .u64 0, .int .u64 0, .int .u64 0, .int .u64 0, .int .u64 0, .int .u64 0, .int .u64 0, .int .u64 0] 56)
          refine hK.out _ _ (below_over0 hH hbn) (fun hH => ?_)
          replace R6 := R6.below hbn (by omega)
          have R5 := row8_new Wq36 0 0 0 0 0 0 0 0
          have hz37 : Wq36.heap.size + 1 ≤ (Wq36.alloc (.cells #[.int .u64 0, .int .u64 0, .int .u64 0, .int .u64 0, .int .u64 0, .int .u64 0, .int .u64 0, .int .u64 0] 56)).heap.size := by simp
          clear hbn hK K
          generalize Wq36.alloc (.cells #[.int .u64 0, .int .u64 0, .int .u64 0, .int .u64 0, .int .u64 0, .int .u64 0, .int .u64 0, .int .u64 0] 56) = Wn37 at hH hz37 R5 R6 ⊢
          have hw37 := hH.size
          obtain ⟨e0, e1, e2, e3, e4, e5, e6, e7, ef⟩ := id R5
          have ef0 := ef 0 (by decide); have ef1 := ef 1 (by decide); have ef2 := ef 2 (by decide); have ef3 := ef 3 (by decide); have ef4 := ef 4 (by decide); have ef5 := ef 5 (by decide); have ef6 := ef 6 (by decide); have ef7 := ef 7 (by decide)
          clear ef
          have ho : Only Wn37 ((((((((Wn37.setCell ⟨Wq36.heap.size, 0, none⟩ (.int .u64 (lim (a / b) 0))).setCell ⟨Wq36.heap.size, 1, none⟩ (.int .u64 (lim (a / b) 1))).setCell ⟨Wq36.heap.size, 2, none⟩ (.int .u64 (lim (a / b) 2))).setCell ⟨Wq36.heap.size, 3, none⟩ (.int .u64 (lim (a / b) 3))).setCell ⟨Wq36.heap.size, 4, none⟩ (.int .u64 (lim (a / b) 4))).setCell ⟨Wq36.heap.size, 5, none⟩ (.int .u64 (lim (a / b) 5))).setCell ⟨Wq36.heap.size, 6, none⟩ (.int .u64 (lim (a / b) 6))).setCell ⟨Wq36.heap.size, 7, none⟩ (.int .u64 (lim (a / b) 7))) (Wq36.heap.size) 0 8 := ((((((((Only.refl _ _ _ _).setCell _ _ (by omega) (by omega)).setCell _ _ (by omega) (by omega)).setCell _ _ (by omega) (by omega)).setCell _ _ (by omega) (by omega)).setCell _ _ (by omega) (by omega)).setCell _ _ (by omega) (by omega)).setCell _ _ (by omega) (by omega)).setCell _ _ (by omega) (by omega)
          replace R5 := ((((((((R5.put0 (lim (a / b) 0)).put1 (lim (a / b) 1)).put2 (lim (a / b) 2)).put3 (lim (a / b) 3)).put4 (lim (a / b) 4)).put5 (lim (a / b) 5)).put6 (lim (a / b) 6)).put7 (lim (a / b) 7))
          replace R6 := R6.only ho (by omega)
          have hB9 := hH.trans (ho.below (by omega))
          have hz9 := Nat.le_of_eq ho.size.symm
          clear ho
          refine wpAnyH_ready (rs := [9]) (by kernel_rfl) (by simp) ?_
          refine AllReadyH.cons rfl (fun K hK => ?_) AllReadyH.nil
          go_simp
          refine hK.out _ _ hB9 (fun hH => ?_)
          clear hK K e0 e1 e2 e3 e4 e5 e6 e7 ef0 ef1 ef2 ef3 ef4 ef5 ef6 ef7 hB9
          generalize ((((((((Wn37.setCell ⟨Wq36.heap.size, 0, none⟩ (.int .u64 (lim (a / b) 0))).setCell ⟨Wq36.heap.size, 1, none⟩ (.int .u64 (lim (a / b) 1))).setCell ⟨Wq36.heap.size, 2, none⟩ (.int .u64 (lim (a / b) 2))).setCell ⟨Wq36.heap.size, 3, none⟩ (.int .u64 (lim (a / b) 3))).setCell ⟨Wq36.heap.size, 4, none⟩ (.int .u64 (lim (a / b) 4))).setCell ⟨Wq36.heap.size, 5, none⟩ (.int .u64 (lim (a / b) 5))).setCell ⟨Wq36.heap.size, 6, none⟩ (.int .u64 (lim (a / b) 6))).setCell ⟨Wq36.heap.size, 7, none⟩ (.int .u64 (lim (a / b) 7))) = Wx38 at hH R5 R6 hz9 ⊢
          obtain ⟨e0, e1, e2, e3, ef⟩ := id R6
          have ef0 := ef 0 (by decide); have ef1 := ef 1 (by decide); have ef2 := ef 2 (by decide); have ef3 := ef 3 (by decide)
          clear ef
          have ho : Only Wx38 ((((Wx38.setCell ⟨Wa.heap.size, 0, none⟩ (.int .u64 (lim (rmod a b) 0))).setCell ⟨Wa.heap.size, 1, none⟩ (.int .u64 (lim (rmod a b) 1))).setCell ⟨Wa.heap.size, 2, none⟩ (.int .u64 (lim (rmod a b) 2))).setCell ⟨Wa.heap.size, 3, none⟩ (.int .u64 (lim (rmod a b) 3))) (Wa.heap.size) 0 4 := ((((Only.refl _ _ _ _).setCell _ _ (by omega) (by omega)).setCell _ _ (by omega) (by omega)).setCell _ _ (by omega) (by omega)).setCell _ _ (by omega) (by omega)
          replace R5 := R5.only ho (by omega)
          replace R6 : Row4 ((((Wx38.setCell ⟨Wa.heap.size, 0, none⟩ (.int .u64 (lim (rmod a b) 0))).setCell ⟨Wa.heap.size, 1, none⟩ (.int .u64 (lim (rmod a b) 1))).setCell ⟨Wa.heap.size, 2, none⟩ (.int .u64 (lim (rmod a b) 2))).setCell ⟨Wa.heap.size, 3, none⟩ (.int .u64 (lim (rmod a b) 3))) (Wa.heap.size) (lim (rmod a b) 0) (lim (rmod a b) 1) (lim (rmod a b) 2) (lim (rmod a b) 3) := ⟨by simp [go_sem, e0], by simp [go_sem, e1], by simp [go_sem, e2], by simp [go_sem, e3], fun j hj => (ho.frozen j).trans (R6.fz j hj)⟩
          have hB9 := hH.trans (ho.below (by omega))
          clear ho hz9
          refine wpAnyH_ready (rs := [10]) (by kernel_rfl) (by simp) ?_
          refine AllReadyH.cons rfl (fun K hK => ?_) AllReadyH.nil
          go_simp
          refine hK.out _ _ hB9 (fun hH => ?_)
          clear hK K e0 e1 e2 e3 ef0 ef1 ef2 ef3 hB9
          generalize ((((Wx38.setCell ⟨Wa.heap.size, 0, none⟩ (.int .u64 (lim (rmod a b) 0))).setCell ⟨Wa.heap.size, 1, none⟩ (.int .u64 (lim (rmod a b) 1))).setCell ⟨Wa.heap.size, 2, none⟩ (.int .u64 (lim (rmod a b) 2))).setCell ⟨Wa.heap.size, 3, none⟩ (.int .u64 (lim (rmod a b) 3))) = Wy38 at hH R5 R6 ⊢
          refine wpAnyH_done (by kernel_rfl) ?_ _
          obtain ⟨e0, e1, e2, e3, -⟩ := R6
          obtain ⟨x0, x1, x2, x3, x4, x5, x6, x7⟩ := C2.below hH z3
          clear R5
          go_wp2
          simp [bodyPost, results, Try.results31, go_sem, x0, x1, x2, x3]
          exact set4_below (hB.trans (hH.mono hB.size)) (by omega) _
      · go_simp
        have hbn := below1 Wq35 (.cells #[.int .u64 0, .int .u64 0, .int .u64 0, .int .u64 0, .int .u64 0, .int .u64 0, .int .u64 0, .int .u64 0] 56)
        refine hK.out _ _ (below_over0 hH hbn) (fun hH => ?_)
        replace R6 := R6.below hbn (by omega)
        have R5 := row8_new Wq35 0 0 0 0 0 0 0 0
        have hz39 : Wq35.heap.size + 1 ≤ (Wq35.alloc (.cells #[.int .u64 0, .int .u64 0, .int .u64 0, .int .u64 0, .int .u64 0, .int .u64 0, .int .u64 0, .int .u64 0] 56)).heap.size := by simp
        clear hbn hK K
        generalize Wq35.alloc (.cells #[.int .u64 0, .int .u64 0, .int .u64 0, .int .u64 0, .int .u64 0, .int .u64 0, .int .u64 0, .int .u64 0] 56) = Wn39 at hH hz39 R5 R6 ⊢
        have hw39 := hH.size
        refine wpAnyH_ready (rs := [3]) (by kernel_rfl) (by simp) ?_
        refine (AllReadyH.cons rfl (fun K hK => ?_) AllReadyH.nil)
        · go_simp
          refine (HDV.out _).mono ?_
          rintro e Wq40 ⟨rfl, hbn⟩
          go_wp2_with fail
          refine hK.out _ _ (below_over0 hH hbn) (fun hH => ?_)
          replace R5 := R5.below hbn (by omega)
          replace R6 := R6.below hbn (by omega)
          have hz40 := hbn.size
          clear hbn hK K
          refine take_d (i := 4) (d := some 7) (v := .tuple #[.agg #[.int .u64 (lim (a / b) 0), .int .u64 (lim (a / b) 1), .int .u64 (lim (a / b) 2), .int .u64 (lim (a / b) 3), .int .u64 (lim (a / b) 4), .int .u64 (lim (a / b) 5), .int .u64 (lim (a / b) 6), .int .u64 (lim (a / b) 7)], .agg #[.int .u64 (lim (rmod a b) 0), .int .u64 (lim (rmod a b) 1), .int .u64 (lim (rmod a b) 2), .int .u64 (lim (rmod a b) 3)]]) rfl rfl (by kernel_rfl) (by kernel_rfl) (by kernel_rfl) (fun _ _ _ h => h) (Or.inl ⟨by rfl, fun W hW => ?_⟩) hH ?_
          · clear hW hH
            go_simp
          simp only [Act.put, List.setIfInBounds_toArray, List.set_cons_zero, List.set_cons_succ]
          refine take_d (i := 5) (d := some 12) (v := .agg #[.int .u64 (lim (a / b) 0), .int .u64 (lim (a / b) 1), .int .u64 (lim (a / b) 2), .int .u64 (lim (a / b) 3), .int .u64 (lim (a / b) 4), .int .u64 (lim (a / b) 5), .int .u64 (lim (a / b) 6), .int .u64 (lim (a / b) 7)]) rfl rfl (by kernel_rfl) (by kernel_rfl) (by kernel_rfl) (fun _ _ _ h => h) (Or.inl ⟨by rfl, fun W hW => ?_⟩) hH ?_
          · clear hW hH
            go_simp
          simp only [Act.put, List.setIfInBounds_toArray, List.set_cons_zero, List.set_cons_succ]
          refine take_d (i := 6) (d := some 13) (v := .agg #[.int .u64 (lim (rmod a b) 0), .int .u64 (lim (rmod a b) 1), .int .u64 (lim (rmod a b) 2), .int .u64 (lim (rmod a b) 3)]) rfl rfl (by kernel_rfl) (by kernel_rfl) (by kernel_rfl) (fun _ _ _ h => h) (Or.inl ⟨by rfl, fun W hW => ?_⟩) hH ?_
          · clear hW hH
            go_simp
          simp only [Act.put, List.setIfInBounds_toArray, List.set_cons_zero, List.set_cons_succ]
          obtain ⟨e0, e1, e2, e3, e4, e5, e6, e7, ef⟩ := id R5
          have ef0 := ef 0 (by decide); have ef1 := ef 1 (by decide); have ef2 := ef 2 (by decide); have ef3 := ef 3 (by decide); have ef4 := ef 4 (by decide); have ef5 := ef 5 (by decide); have ef6 := ef 6 (by decide); have ef7 := ef 7 (by decide)
          clear ef
          have ho : Only Wq40 ((((((((Wq40.setCell ⟨Wq35.heap.size, 0, none⟩ (.int .u64 (lim (a / b) 0))).setCell ⟨Wq35.heap.size, 1, none⟩ (.int .u64 (lim (a / b) 1))).setCell ⟨Wq35.heap.size, 2, none⟩ (.int .u64 (lim (a / b) 2))).setCell ⟨Wq35.heap.size, 3, none⟩ (.int .u64 (lim (a / b) 3))).setCell ⟨Wq35.heap.size, 4, none⟩ (.int .u64 (lim (a / b) 4))).setCell ⟨Wq35.heap.size, 5, none⟩ (.int .u64 (lim (a / b) 5))).setCell ⟨Wq35.heap.size, 6, none⟩ (.int .u64 (lim (a / b) 6))).setCell ⟨Wq35.heap.size, 7, none⟩ (.int .u64 (lim (a / b) 7))) (Wq35.heap.size) 0 8 := ((((((((Only.refl _ _ _ _).setCell _ _ (by omega) (by omega)).setCell _ _ (by omega) (by omega)).setCell _ _ (by omega) (by omega)).setCell _ _ (by omega) (by omega)).setCell _ _ (by omega) (by omega)).setCell _ _ (by omega) (by omega)).setCell _ _ (by omega) (by omega)).setCell _ _ (by omega) (by omega)
          replace R5 := ((((((((R5.put0 (lim (a / b) 0)).put1 (lim (a / b) 1)).put2 (lim (a / b) 2)).put3 (lim (a / b) 3)).put4 (lim (a / b) 4)).put5 (lim (a / b) 5)).put6 (lim (a / b) 6)).put7 (lim (a / b) 7))
          replace R6 := R6.only ho (by omega)
          have hB9 := hH.trans (ho.below (by omega))
          have hz9 := Nat.le_of_eq ho.size.symm
          clear ho
          refine wpAnyH_ready (rs := [9]) (by kernel_rfl) (by simp) ?_
          refine AllReadyH.cons rfl (fun K hK => ?_) AllReadyH.nil
          go_simp
          refine hK.out _ _ hB9 (fun hH => ?_)
          clear hK K e0 e1 e2 e3 e4 e5 e6 e7 ef0 ef1 ef2 ef3 ef4 ef5 ef6 ef7 hB9
          generalize ((((((((Wq40.setCell ⟨Wq35.heap.size, 0, none⟩ (.int .u64 (lim (a / b) 0))).setCell ⟨Wq35.heap.size, 1, none⟩ (.int .u64 (lim (a / b) 1))).setCell ⟨Wq35.heap.size, 2, none⟩ (.int .u64 (lim (a / b) 2))).setCell ⟨Wq35.heap.size, 3, none⟩ (.int .u64 (lim (a / b) 3))).setCell ⟨Wq35.heap.size, 4, none⟩ (.int .u64 (lim (a / b) 4))).setCell ⟨Wq35.heap.size, 5, none⟩ (.int .u64 (lim (a / b) 5))).setCell ⟨Wq35.heap.size, 6, none⟩ (.int .u64 (lim (a / b) 6))).setCell ⟨Wq35.heap.size, 7, none⟩ (.int .u64 (lim (a / b) 7))) = Wx41 at hH R5 R6 hz9 ⊢
          obtain ⟨e0, e1, e2, e3, ef⟩ := id R6
          have ef0 := ef 0 (by decide); have ef1 := ef 1 (by decide); have ef2 := ef 2 (by decide); have ef3 := ef 3 (by decide)
          clear ef
          have ho : Only Wx41 ((((Wx41.setCell ⟨Wa.heap.size, 0, none⟩ (.int .u64 (lim (rmod a b) 0))).setCell ⟨Wa.heap.size, 1, none⟩ (.int .u64 (lim (rmod a b) 1))).setCell ⟨Wa.heap.size, 2, none⟩ (.int .u64 (lim (rmod a b) 2))).setCell ⟨Wa.heap.size, 3, none⟩ (.int .u64 (lim (rmod a b) 3))) (Wa.heap.size) 0 4 := ((((Only.refl _ _ _ _).setCell _ _ (by omega) (by omega)).setCell _ _ (by omega) (by omega)).setCell _ _ (by omega) (by omega)).setCell _ _ (by omega) (by omega)
          replace R5 := R5.only ho (by omega)
          replace R6 : Row4 ((((Wx41.setCell ⟨Wa.heap.size, 0, none⟩ (.int .u64 (lim (rmod a b) 0))).setCell ⟨Wa.heap.size, 1, none⟩ (.int .u64 (lim (rmod a b) 1))).setCell ⟨Wa.heap.size, 2, none⟩ (.int .u64 (lim (rmod a b) 2))).setCell ⟨Wa.heap.size, 3, none⟩ (.int .u64 (lim (rmod a b) 3))) (Wa.heap.size) (lim (rmod a b) 0) (lim (rmod a b) 1) (lim (rmod a b) 2) (lim (rmod a b) 3) := ⟨by simp [go_sem, e0], by simp [go_sem, e1], by simp [go_sem, e2], by simp [go_sem, e3], fun j hj => (ho.frozen j).trans (R6.fz j hj)⟩
          have hB9 := hH.trans (ho.below (by omega))
          clear ho hz9
          refine wpAnyH_ready (rs := [10]) (by kernel_rfl) (by simp) ?_
          refine AllReadyH.cons rfl (fun K hK => ?_) AllReadyH.nil
          go_simp
          refine hK.out _ _ hB9 (fun hH => ?_)
          clear hK K e0 e1 e2 e3 ef0 ef1 ef2 ef3 hB9
          generalize ((((Wx41.setCell ⟨Wa.heap.size, 0, none⟩ (.int .u64 (lim (rmod a b) 0))).setCell ⟨Wa.heap.size, 1, none⟩ (.int .u64 (lim (rmod a b) 1))).setCell ⟨Wa.heap.size, 2, none⟩ (.int .u64 (lim (rmod a b) 2))).setCell ⟨Wa.heap.size, 3, none⟩ (.int .u64 (lim (rmod a b) 3))) = Wy41 at hH R5 R6 ⊢
          refine wpAnyH_done (by kernel_rfl) ?_ _
          obtain ⟨e0, e1, e2, e3, -⟩ := R6
          obtain ⟨x0, x1, x2, x3, x4, x5, x6, x7⟩ := C2.below hH z3
          clear R5
          go_wp2
          simp [bodyPost, results, Try.results31, go_sem, x0, x1, x2, x3]
          exact set4_below (hB.trans (hH.mono hB.size)) (by omega) _
    · go_simp
      have hbn := below1 Wn34 (.cells #[.int .u64 0, .int .u64 0, .int .u64 0, .int .u64 0, .int .u64 0, .int .u64 0, .int .u64 0, .int .u64 0] 56)
      refine hK.out _ _ (below_over0 hH hbn) (fun hH => ?_)
      replace R6 := R6.below hbn (by omega)
      have R5 := row8_new Wn34 0 0 0 0 0 0 0 0
      have hz42 : Wn34.heap.size + 1 ≤ (Wn34.alloc (.cells #[.int .u64 0, .int .u64 0, .int .u64 0, .int .u64 0, .int .u64 0, .int .u64 0, .int .u64 0, .int .u64 0] 56)).heap.size := by simp
      clear hbn hK K
      generalize Wn34.alloc (.cells #[.int .u64 0, .int .u64 0, .int .u64 0, .int .u64 0, .int .u64 0, .int .u64 0, .int .u64 0, .int .u64 0] 56) = Wn42 at hH hz42 R5 R6 ⊢
      have hw42 := hH.size
      refine wpAnyH_ready (rs := [1]) (by kernel_rfl) (by simp) ?_
      refine (AllReadyH.cons rfl (fun K hK => ?_) AllReadyH.nil)
      · go_simp
        refine (HWI.out _).mono ?_
        rintro e Wq43 ⟨rfl, hbn⟩
        go_wp2_with fail
        refine hK.out _ _ (below_over0 hH hbn) (fun hH => ?_)
        replace R5 := R5.below hbn (by omega)
        replace R6 := R6.below hbn (by omega)
        have hz43 := hbn.size
        clear hbn hK K
        refine wpAnyH_ready (rs := [3]) (by kernel_rfl) (by simp) ?_
        refine (AllReadyH.cons rfl (fun K hK => ?_) AllReadyH.nil)
        · go_simp
          refine (HDV.out _).mono ?_
          rintro e Wq44 ⟨rfl, hbn⟩
          go_wp2_with fail
          refine hK.out _ _ (below_over0 hH hbn) (fun hH => ?_)
          replace R5 := R5.below hbn (by omega)
          replace R6 := R6.below hbn (by omega)
          have hz44 := hbn.size
          clear hbn hK K
          refine take_d (i := 4) (d := some 7) (v := .tuple #[.agg #[.int .u64 (lim (a / b) 0), .int .u64 (lim (a / b) 1), .int .u64 (lim (a / b) 2), .int .u64 (lim (a / b) 3), .int .u64 (lim (a / b) 4), .int .u64 (lim (a / b) 5), .int .u64 (lim (a / b) 6), .int .u64 (lim (a / b) 7)], .agg #[.int .u64 (lim (rmod a b) 0), .int .u64 (lim (rmod a b) 1), .int .u64 (lim (rmod a b) 2), .int .u64 (lim (rmod a b) 3)]]) rfl rfl (by kernel_rfl) (by kernel_rfl) (by kernel_rfl) (fun _ _ _ h => h) (Or.inl ⟨by rfl, fun W hW => ?_⟩) hH ?_
          · clear hW hH
            go_simp
          simp only [Act.put, List.setIfInBounds_toArray, List.set_cons_zero, List.set_cons_succ]
          refine take_d (i := 5) (d := some 12) (v := .agg #[.int .u64 (lim (a / b) 0), .int .u64 (lim (a / b) 1), .int .u64 (lim (a / b) 2), .int .u64 (lim (a / b) 3), .int .u64 (lim (a / b) 4), .int .u64 (lim (a / b) 5), .int .u64 (lim (a / b) 6), .int .u64 (lim (a / b) 7)]) rfl rfl (by kernel_rfl) (by kernel_rfl) (by kernel_rfl) (fun _ _ _ h => h) (Or.inl ⟨by rfl, fun W hW => ?_⟩) hH ?_
          · clear hW hH
            go_simp
          simp only [Act.put, List.setIfInBounds_toArray, List.set_cons_zero, List.set_cons_succ]
          refine take_d (i := 6) (d := some 13) (v := .agg #[.int .u64 (lim (rmod a b) 0), .int .u64 (lim (rmod a b) 1), .int .u64 (lim (rmod a b) 2), .int .u64 (lim (rmod a b) 3)]) rfl rfl (by kernel_rfl) (by kernel_rfl) (by kernel_rfl) (fun _ _ _ h => h) (Or.inl ⟨by rfl, fun W hW => ?_⟩) hH ?_
          · clear hW hH
            go_simp
          simp only [Act.put, List.setIfInBounds_toArray, List.set_cons_zero, List.set_cons_succ]
          obtain ⟨e0, e1, e2, e3, e4, e5, e6, e7, ef⟩ := id R5
          have ef0 := ef 0 (by decide); have ef1 := ef 1 (by decide); have ef2 := ef 2 (by decide); have ef3 := ef 3 (by decide); have ef4 := ef 4 (by decide); have ef5 := ef 5 (by decide); have ef6 := ef 6 (by decide); have ef7 := ef 7 (by decide)
          clear ef
          have ho : Only Wq44 ((((((((Wq44.setCell ⟨Wn34.heap.size, 0, none⟩ (.int .u64 (lim (a / b) 0))).setCell ⟨Wn34.heap.size, 1, none⟩ (.int .u64 (lim (a / b) 1))).setCell ⟨Wn34.heap.size, 2, none⟩ (.int .u64 (lim (a / b) 2))).setCell ⟨Wn34.heap.size, 3, none⟩ (.int .u64 (lim (a / b) 3))).setCell ⟨Wn34.heap.size, 4, none⟩ (.int .u64 (lim (a / b) 4))).setCell ⟨Wn34.heap.size, 5, none⟩ (.int .u64 (lim (a / b) 5))).setCell ⟨Wn34.heap.size, 6, none⟩ (.int .u64 (lim (a / b) 6))).setCell ⟨Wn34.heap.size, 7, none⟩ (.int .u64 (lim (a / b) 7))) (Wn34.heap.size) 0 8 := ((((((((Only.refl _ _ _ _).setCell _ _ (by omega) (by omega)).setCell _ _ (by omega) (by omega)).setCell _ _ (by omega) (by omega)).setCell _ _ (by omega) (by omega)).setCell _ _ (by omega) (by omega)).setCell _ _ (by omega) (by omega)).setCell _ _ (by omega) (by omega)).setCell _ _ (by omega) (by omega)
          replace R5 := ((((((((R5.put0 (lim (a / b) 0)).put1 (lim (a / b) 1)).put2 (lim (a / b) 2)).put3 (lim (a / b) 3)).put4 (lim (a / b) 4)).put5 (lim (a / b) 5)).put6 (lim (a / b) 6)).put7 (lim (a / b) 7))
          replace R6 := R6.only ho (by omega)
          have hB9 := hH.trans (ho.below (by omega))
          have hz9 := Nat.le_of_eq ho.size.symm
          clear ho
          refine wpAnyH_ready (rs := [9]) (by kernel_rfl) (by simp) ?_
          refine AllReadyH.cons rfl (fun K hK => ?_) AllReadyH.nil
          go_simp
          refine hK.out _ _ hB9 (fun hH => ?_)
          clear hK K e0 e1 e2 e3 e4 e5 e6 e7 ef0 ef1 ef2 ef3 ef4 ef5 ef6 ef7 hB9
          generalize ((((((((Wq44.setCell ⟨Wn34.heap.size, 0, none⟩ (.int .u64 (lim (a / b) 0))).setCell ⟨Wn34.heap.size, 1, none⟩ (.int .u64 (lim (a / b) 1))).setCell ⟨Wn34.heap.size, 2, none⟩ (.int .u64 (lim (a / b) 2))).setCell ⟨Wn34.heap.size, 3, none⟩ (.int .u64 (lim (a / b) 3))).setCell ⟨Wn34.heap.size, 4, none⟩ (.int .u64 (lim (a / b) 4))).setCell ⟨Wn34.heap.size, 5, none⟩ (.int .u64 (lim (a / b) 5))).setCell ⟨Wn34.heap.size, 6, none⟩ (.int .u64 (lim (a / b) 6))).setCell ⟨Wn34.heap.size, 7, none⟩ (.int .u64 (lim (a / b) 7))) = Wx45 at hH R5 R6 hz9 ⊢
          obtain ⟨e0, e1, e2, e3, ef⟩ := id R6
          have ef0 := ef 0 (by decide); have ef1 := ef 1 (by decide); have ef2 := ef 2 (by decide); have ef3 := ef 3 (by decide)
          clear ef
          have ho : Only Wx45 ((((Wx45.setCell ⟨Wa.heap.size, 0, none⟩ (.int .u64 (lim (rmod a b) 0))).setCell ⟨Wa.heap.size, 1, none⟩ (.int .u64 (lim (rmod a b) 1))).setCell ⟨Wa.heap.size, 2, none⟩ (.int .u64 (lim (rmod a b) 2))).setCell ⟨Wa.heap.size, 3, none⟩ (.int .u64 (lim (rmod a b) 3))) (Wa.heap.size) 0 4 := ((((Only.refl _ _ _ _).setCell _ _ (by omega) (by omega)).setCell _ _ (by omega) (by omega)).setCell _ _ (by omega) (by omega)).setCell _ _ (by omega) (by omega)
          replace R5 := R5.only ho (by omega)
          replace R6 : Row4 ((((Wx45.setCell ⟨Wa.heap.size, 0, none⟩ (.int .u64 (lim (rmod a b) 0))).setCell ⟨Wa.heap.size, 1, none⟩ (.int .u64 (lim (rmod a b) 1))).setCell ⟨Wa.heap.size, 2, none⟩ (.int .u64 (lim (rmod a b) 2))).setCell ⟨Wa.heap.size, 3, none⟩ (.int .u64 (lim (rmod a b) 3))) (Wa.heap.size) (lim (rmod a b) 0) (lim (rmod a b) 1) (lim (rmod a b) 2) (lim (rmod a b) 3) := ⟨by simp [go_sem, e0], by simp [go_sem, e1], by simp [go_sem, e2], by simp [go_sem, e3], fun j hj => (ho.frozen j).trans (R6.fz j hj)⟩
          have hB9 := hH.trans (ho.below (by omega))
          clear ho hz9
          refine wpAnyH_ready (rs := [10]) (by kernel_rfl) (by simp) ?_
          refine AllReadyH.cons rfl (fun K hK => ?_) AllReadyH.nil
          go_simp
          refine hK.out _ _ hB9 (fun hH => ?_)
          clear hK K e0 e1 e2 e3 ef0 ef1 ef2 ef3 hB9
          generalize ((((Wx45.setCell ⟨Wa.heap.size, 0, none⟩ (.int .u64 (lim (rmod a b) 0))).setCell ⟨Wa.heap.size, 1, none⟩ (.int .u64 (lim (rmod a b) 1))).setCell ⟨Wa.heap.size, 2, none⟩ (.int .u64 (lim (rmod a b) 2))).setCell ⟨Wa.heap.size, 3, none⟩ (.int .u64 (lim (rmod a b) 3))) = Wy45 at hH R5 R6 ⊢
          refine wpAnyH_done (by kernel_rfl) ?_ _
          obtain ⟨e0, e1, e2, e3, -⟩ := R6
          obtain ⟨x0, x1, x2, x3, x4, x5, x6, x7⟩ := C2.below hH z3
          clear R5
          go_wp2
          simp [bodyPost, results, Try.results31, go_sem, x0, x1, x2, x3]
          exact set4_below (hB.trans (hH.mono hB.size)) (by omega) _

end Go.Proofs.Ytmkfjmidlllnlaa
