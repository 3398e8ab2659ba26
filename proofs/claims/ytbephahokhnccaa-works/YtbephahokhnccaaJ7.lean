/-
  number.SDiv at this program: what it returns.
  number.SMod at this program: what it returns.
-/
import Derived.Test.YtbephahokhnccaaJ6
import Derived.Test.YtbephahokhnccaaJ15
namespace Go.Proofs.Ytbephahokhnccaa
open Go.RowKit Go.Shelf
attribute [local go_sem] wd dbl

theorem div_lt (x y : Nat) (h : x < M) : x / y < M := Nat.lt_of_le_of_lt (Nat.div_le_self x y) h

set_option maxHeartbeats 8000000 in
theorem sdiv_tt (a b : Nat) (ha : a < M) (hb : b < M) (hna : neg a = true) (hnb : neg b = true) (w : World) :
    Calls Try.prog 32 #[wd a, wd b] w fun e w' => e = .returned (wd (siz a / siz b)) ∧ Below w.heap.size w w' := by
  have HSA := Hid.mk' (size a ha)
  have HSB := Hid.mk' (size b hb)
  have HIN := Hid.mk' (div (siz a) (siz b) (siz_lt a ha) (siz_lt b hb))
  have HNA := Hid.mk' (negative a ha)
  have HNB := Hid.mk' (negative b hb)
  rw [hnb] at HNB
  clear hnb
  rw [hna] at HNA
  have HNQ := Hid.mk' (negate (siz a / siz b) (div_lt _ _ (siz_lt a ha)))
  clear hna
  obtain ⟨h1, h2, h3, ⟨z1, z2, z3⟩, hB⟩ := held_start w a b 0
  have e0 : put4 (put4 (put4 w a) b) 0 = ((w.alloc (.cells #[.int .u64 (lim a 0), .int .u64 (lim a 1), .int .u64 (lim a 2), .int .u64 (lim a 3)] 24)).alloc (.cells #[.int .u64 (lim b 0), .int .u64 (lim b 1), .int .u64 (lim b 2), .int .u64 (lim b 3)] 24)).alloc (.cells #[.int .u64 0, .int .u64 0, .int .u64 0, .int .u64 0] 24) := by
    unfold put4; simp [lim_z]
  have C2 : Cells4 (put4 (put4 (put4 w a) b) 0) (w.heap.size + 1 + 1) 0 := ⟨h3.1, h3.2.1, h3.2.2.1, h3.2.2.2, by simp [go_sem], by simp [go_sem], by simp [go_sem], by simp [go_sem]⟩
  clear h3
  rw [e0] at h1 h2 z1 z2 z3 hB C2
  clear e0
  go_enter Try.func32, Try.ntmps32
  go_wp2
  generalize ((w.alloc (.cells #[.int .u64 (lim a 0), .int .u64 (lim a 1), .int .u64 (lim a 2), .int .u64 (lim a 3)] 24)).alloc (.cells #[.int .u64 (lim b 0), .int .u64 (lim b 1), .int .u64 (lim b 2), .int .u64 (lim b 3)] 24)).alloc (.cells #[.int .u64 0, .int .u64 0, .int .u64 0, .int .u64 0] 24) = W0 at *
  refine wp_region_held_drew (S := fun W => Below W0.heap.size W0 W) (by kernel_rfl) (Below.refl _ _).drew (fun hH => ?_)
  refine take_d (i := 0) (d := some 6) (v := .agg #[.int .u64 (lim a 0), .int .u64 (lim a 1), .int .u64 (lim a 2), .int .u64 (lim a 3)]) rfl rfl (by kernel_rfl) (by kernel_rfl) (by kernel_rfl) (fun _ _ _ h => h) (Or.inl ⟨by rfl, fun W hW => ?_⟩) hH ?_
  · obtain ⟨k0, k1, k2, k3⟩ := Eq4.keep h1 hW z1
    clear hW hH
    go_simp
  simp only [Act.put, List.setIfInBounds_toArray, List.set_cons_zero, List.set_cons_succ]
  refine take_d (i := 2) (d := some 8) (v := .agg #[.int .u64 (lim b 0), .int .u64 (lim b 1), .int .u64 (lim b 2), .int .u64 (lim b 3)]) rfl rfl (by kernel_rfl) (by kernel_rfl) (by kernel_rfl) (fun _ _ _ h => h) (Or.inl ⟨by rfl, fun W hW => ?_⟩) hH ?_
  · obtain ⟨k0, k1, k2, k3⟩ := Eq4.keep h2 hW z2
    clear hW hH
    go_simp
  simp only [Act.put, List.setIfInBounds_toArray, List.set_cons_zero, List.set_cons_succ]
  refine Nd1.start (f := 4) (ZA := fun W p => Row4 W p 0 0 0 0) (iA := 5) (dA := 5) (oA := .cells #[.int .u64 0, .int .u64 0, .int .u64 0, .int .u64 0] 24) (L := fun x => #[true, false, true, false, false, x, false])
    ⟨fun _ _ _ h => by refine wpOp_step rfl (fun K' hK => ?_); go_simp; exact hK _ _ h, fun W => row4_new W 0 0 0 0, fun _ _ _ hp hb h => h.below hb hp⟩ rfl undef rfl hH (fun R => ?_)
  refine Nd1.step (c := 1) (d := 7) (v := .agg #[.int .u64 (lim (siz a) 0), .int .u64 (lim (siz a) 1), .int .u64 (lim (siz a) 2), .int .u64 (lim (siz a) 3)]) (l := []) (f' := 3) (L' := fun x => #[true, true, true, false, false, x, false]) R rfl rfl (by intro a; cases a <;> kernel_rfl) (by intros; kernel_rfl) rfl (fun X W1 K hH hK => ?_) (fun _ _ _ _ h => h) ?_
  · simp only [Act.put, List.setIfInBounds_toArray, List.set_cons_zero, List.set_cons_succ]
    clear R hH
    go_simp
    refine (HSA.out _).mono ?_
    rintro e Wq ⟨rfl, hbn⟩
    go_wp2_with fail
    exact hK.out _ hbn
  refine Nd1.step (c := 3) (d := 9) (v := .agg #[.int .u64 (lim (siz b) 0), .int .u64 (lim (siz b) 1), .int .u64 (lim (siz b) 2), .int .u64 (lim (siz b) 3)]) (l := []) (f' := 2) (L' := fun x => #[true, true, true, true, false, x, false]) R rfl rfl (by intro a; cases a <;> kernel_rfl) (by intros; kernel_rfl) rfl (fun X W1 K hH hK => ?_) (fun _ _ _ _ h => h) ?_
  · simp only [puts, Act.put, List.setIfInBounds_toArray, List.set_cons_zero, List.set_cons_succ]
    clear R hH
    go_simp
    refine (HSB.out _).mono ?_
    rintro e Wq ⟨rfl, hbn⟩
    go_wp2_with fail
    exact hK.out _ hbn
  refine Nd1.step (c := 4) (d := 10) (v := .agg #[.int .u64 (lim (siz a / siz b) 0), .int .u64 (lim (siz a / siz b) 1), .int .u64 (lim (siz a / siz b) 2), .int .u64 (lim (siz a / siz b) 3)]) (l := []) (f' := 1) (L' := fun x => #[true, true, true, true, true, x, false]) R rfl rfl (by intro a; cases a <;> kernel_rfl) (by intros; kernel_rfl) rfl (fun X W1 K hH hK => ?_) (fun _ _ _ _ h => h) ?_
  · simp only [puts, Act.put, List.setIfInBounds_toArray, List.set_cons_zero, List.set_cons_succ]
    clear R hH
    go_simp
    refine (HIN.out _).mono ?_
    rintro e Wq ⟨rfl, hbn⟩
    go_wp2_with fail
    exact hK.out _ hbn
  refine Nd1.last (f := 1) R (by kernel_rfl) (by intros; kernel_rfl) rfl (fun p W1 hH hp hp' R5 => ?_)
  simp only [puts, ptr, Act.put, List.setIfInBounds_toArray, List.set_cons_zero, List.set_cons_succ]
  clear R
  obtain ⟨e0, e1, e2, e3, ef⟩ := id R5
  have ef0 := ef 0 (by decide); have ef1 := ef 1 (by decide); have ef2 := ef 2 (by decide); have ef3 := ef 3 (by decide)
  clear ef
  have ho : Only W1 ((((W1.setCell ⟨p, 0, none⟩ (.int .u64 (lim (siz a / siz b) 0))).setCell ⟨p, 1, none⟩ (.int .u64 (lim (siz a / siz b) 1))).setCell ⟨p, 2, none⟩ (.int .u64 (lim (siz a / siz b) 2))).setCell ⟨p, 3, none⟩ (.int .u64 (lim (siz a / siz b) 3))) p 0 4 := ((((Only.refl _ _ _ _).setCell _ _ (by omega) (by omega)).setCell _ _ (by omega) (by omega)).setCell _ _ (by omega) (by omega)).setCell _ _ (by omega) (by omega)
  replace R5 : Row4 ((((W1.setCell ⟨p, 0, none⟩ (.int .u64 (lim (siz a / siz b) 0))).setCell ⟨p, 1, none⟩ (.int .u64 (lim (siz a / siz b) 1))).setCell ⟨p, 2, none⟩ (.int .u64 (lim (siz a / siz b) 2))).setCell ⟨p, 3, none⟩ (.int .u64 (lim (siz a / siz b) 3))) p (lim (siz a / siz b) 0) (lim (siz a / siz b) 1) (lim (siz a / siz b) 2) (lim (siz a / siz b) 3) := ⟨by simp [go_sem, e0], by simp [go_sem, e1], by simp [go_sem, e2], by simp [go_sem, e3], fun j hj => (ho.frozen j).trans (R5.fz j hj)⟩
  have hB9 := hH.trans (ho.below (by omega))
  have hz := Nat.le_of_eq ho.size.symm
  clear ho
  refine wpAnyH_ready (rs := [6]) (by kernel_rfl) (by simp) ?_
  refine AllReadyH.cons rfl (fun K hK => ?_) AllReadyH.nil
  go_simp
  refine hK.out _ _ hB9 (fun hH => ?_)
  clear hK K e0 e1 e2 e3 ef0 ef1 ef2 ef3 hB9
  generalize ((((W1.setCell ⟨p, 0, none⟩ (.int .u64 (lim (siz a / siz b) 0))).setCell ⟨p, 1, none⟩ (.int .u64 (lim (siz a / siz b) 1))).setCell ⟨p, 2, none⟩ (.int .u64 (lim (siz a / siz b) 2))).setCell ⟨p, 3, none⟩ (.int .u64 (lim (siz a / siz b) 3))) = W2 at hH hz R5 ⊢
  refine wpAnyH_done (by kernel_rfl) ?_ _
  have hb5 : p < W2.heap.size := by omega
  go_wp2
  refine wp_region_held_drew (S := fun W => Below W0.heap.size W0 W ∧ Row4 W p (lim (siz a / siz b) 0) (lim (siz a / siz b) 1) (lim (siz a / siz b) 2) (lim (siz a / siz b) 3) ∧ p < W.heap.size) (by kernel_rfl) ⟨hH.drew, R5.drew, hb5⟩ (fun hH => ?_)
  clear R5 hz hb5
  refine take_d (i := 0) (d := some 11) (v := .agg #[.int .u64 (lim a 0), .int .u64 (lim a 1), .int .u64 (lim a 2), .int .u64 (lim a 3)]) rfl rfl (by kernel_rfl) (by kernel_rfl) (by kernel_rfl) (fun _ _ _ h => h) (Or.inl ⟨by rfl, fun W hW => ?_⟩) hH ?_
  · obtain ⟨k0, k1, k2, k3⟩ := Eq4.keep h1 hW.1 z1
    clear hW hH
    go_simp
  simp only [Act.put, List.setIfInBounds_toArray, List.set_cons_zero, List.set_cons_succ]
  refine take_d (i := 2) (d := some 13) (v := .agg #[.int .u64 (lim b 0), .int .u64 (lim b 1), .int .u64 (lim b 2), .int .u64 (lim b 3)]) rfl rfl (by kernel_rfl) (by kernel_rfl) (by kernel_rfl) (fun _ _ _ h => h) (Or.inl ⟨by rfl, fun W hW => ?_⟩) hH ?_
  · obtain ⟨k0, k1, k2, k3⟩ := Eq4.keep h2 hW.1 z2
    clear hW hH
    go_simp
  simp only [Act.put, List.setIfInBounds_toArray, List.set_cons_zero, List.set_cons_succ]
  generalize W2.drew = Wz at hH ⊢
  refine wpAnyH_ready (rs := [1]) (by kernel_rfl) (by simp) ?_
  refine AllReadyH.cons rfl (fun K hK => ?_) AllReadyH.nil
  go_simp
  refine (HNA.out _).mono ?_
  rintro e wp1 ⟨rfl, hbn⟩
  go_wp2_with fail
  refine hK.out _ _ ⟨below_over0 hH.1 hbn, hH.2.1.below hbn hH.2.2, Nat.lt_of_lt_of_le hH.2.2 hbn.size⟩ (fun hH => ?_)
  clear hbn hK K
  refine wpAnyH_ready (rs := [3]) (by kernel_rfl) (by simp) ?_
  refine AllReadyH.cons rfl (fun K hK => ?_) AllReadyH.nil
  go_simp
  refine (HNB.out _).mono ?_
  rintro e wp3 ⟨rfl, hbn⟩
  go_wp2_with fail
  refine hK.out _ _ ⟨below_over0 hH.1 hbn, hH.2.1.below hbn hH.2.2, Nat.lt_of_lt_of_le hH.2.2 hbn.size⟩ (fun hH => ?_)
  clear hbn hK K
  refine take_d (i := 4) (d := some 15) (v := .bool false) rfl rfl (by kernel_rfl) (by kernel_rfl) (by kernel_rfl) (fun _ _ _ h => h) (Or.inl ⟨by rfl, fun W hW => ?_⟩) hH ?_
  · clear hW hH
    go_simp
  simp only [Act.put, List.setIfInBounds_toArray, List.set_cons_zero, List.set_cons_succ]
  refine wpAnyH_done (by kernel_rfl) ?_ _
  obtain ⟨hH, ⟨e0, e1, e2, e3, -⟩, hb5⟩ := hH
  obtain ⟨x0, x1, x2, x3, x4, x5, x6, x7⟩ := C2.below hH z3
  go_wp2
  simp [bodyPost, results, Try.results32, go_sem, x0, x1, x2, x3]
  exact set4_below (hB.trans (hH.mono hB.size)) (by omega) _

set_option maxHeartbeats 8000000 in
theorem sdiv_tf (a b : Nat) (ha : a < M) (hb : b < M) (hna : neg a = true) (hnb : neg b = false) (w : World) :
    Calls Try.prog 32 #[wd a, wd b] w fun e w' => e = .returned (wd (opp (siz a / siz b))) ∧ Below w.heap.size w w' := by
  have HSA := Hid.mk' (size a ha)
  have HSB := Hid.mk' (size b hb)
  have HIN := Hid.mk' (div (siz a) (siz b) (siz_lt a ha) (siz_lt b hb))
  have HNA := Hid.mk' (negative a ha)
  have HNB := Hid.mk' (negative b hb)
  rw [hnb] at HNB
  clear hnb
  rw [hna] at HNA
  have HNQ := Hid.mk' (negate (siz a / siz b) (div_lt _ _ (siz_lt a ha)))
  clear hna
  obtain ⟨h1, h2, h3, ⟨z1, z2, z3⟩, hB⟩ := held_start w a b 0
  have e0 : put4 (put4 (put4 w a) b) 0 = ((w.alloc (.cells #[.int .u64 (lim a 0), .int .u64 (lim a 1), .int .u64 (lim a 2), .int .u64 (lim a 3)] 24)).alloc (.cells #[.int .u64 (lim b 0), .int .u64 (lim b 1), .int .u64 (lim b 2), .int .u64 (lim b 3)] 24)).alloc (.cells #[.int .u64 0, .int .u64 0, .int .u64 0, .int .u64 0] 24) := by
    unfold put4; simp [lim_z]
  have C2 : Cells4 (put4 (put4 (put4 w a) b) 0) (w.heap.size + 1 + 1) 0 := ⟨h3.1, h3.2.1, h3.2.2.1, h3.2.2.2, by simp [go_sem], by simp [go_sem], by simp [go_sem], by simp [go_sem]⟩
  clear h3
  rw [e0] at h1 h2 z1 z2 z3 hB C2
  clear e0
  go_enter Try.func32, Try.ntmps32
  go_wp2
  generalize ((w.alloc (.cells #[.int .u64 (lim a 0), .int .u64 (lim a 1), .int .u64 (lim a 2), .int .u64 (lim a 3)] 24)).alloc (.cells #[.int .u64 (lim b 0), .int .u64 (lim b 1), .int .u64 (lim b 2), .int .u64 (lim b 3)] 24)).alloc (.cells #[.int .u64 0, .int .u64 0, .int .u64 0, .int .u64 0] 24) = W0 at *
  refine wp_region_held_drew (S := fun W => Below W0.heap.size W0 W) (by kernel_rfl) (Below.refl _ _).drew (fun hH => ?_)
  refine take_d (i := 0) (d := some 6) (v := .agg #[.int .u64 (lim a 0), .int .u64 (lim a 1), .int .u64 (lim a 2), .int .u64 (lim a 3)]) rfl rfl (by kernel_rfl) (by kernel_rfl) (by kernel_rfl) (fun _ _ _ h => h) (Or.inl ⟨by rfl, fun W hW => ?_⟩) hH ?_
  · obtain ⟨k0, k1, k2, k3⟩ := Eq4.keep h1 hW z1
    clear hW hH
    go_simp
  simp only [Act.put, List.setIfInBounds_toArray, List.set_cons_zero, List.set_cons_succ]
  refine take_d (i := 2) (d := some 8) (v := .agg #[.int .u64 (lim b 0), .int .u64 (lim b 1), .int .u64 (lim b 2), .int .u64 (lim b 3)]) rfl rfl (by kernel_rfl) (by kernel_rfl) (by kernel_rfl) (fun _ _ _ h => h) (Or.inl ⟨by rfl, fun W hW => ?_⟩) hH ?_
  · obtain ⟨k0, k1, k2, k3⟩ := Eq4.keep h2 hW z2
    clear hW hH
    go_simp
  simp only [Act.put, List.setIfInBounds_toArray, List.set_cons_zero, List.set_cons_succ]
  refine Nd1.start (f := 4) (ZA := fun W p => Row4 W p 0 0 0 0) (iA := 5) (dA := 5) (oA := .cells #[.int .u64 0, .int .u64 0, .int .u64 0, .int .u64 0] 24) (L := fun x => #[true, false, true, false, false, x, false])
    ⟨fun _ _ _ h => by refine wpOp_step rfl (fun K' hK => ?_); go_simp; exact hK _ _ h, fun W => row4_new W 0 0 0 0, fun _ _ _ hp hb h => h.below hb hp⟩ rfl undef rfl hH (fun R => ?_)
  refine Nd1.step (c := 1) (d := 7) (v := .agg #[.int .u64 (lim (siz a) 0), .int .u64 (lim (siz a) 1), .int .u64 (lim (siz a) 2), .int .u64 (lim (siz a) 3)]) (l := []) (f' := 3) (L' := fun x => #[true, true, true, false, false, x, false]) R rfl rfl (by intro a; cases a <;> kernel_rfl) (by intros; kernel_rfl) rfl (fun X W1 K hH hK => ?_) (fun _ _ _ _ h => h) ?_
  · simp only [Act.put, List.setIfInBounds_toArray, List.set_cons_zero, List.set_cons_succ]
    clear R hH
    go_simp
    refine (HSA.out _).mono ?_
    rintro e Wq ⟨rfl, hbn⟩
    go_wp2_with fail
    exact hK.out _ hbn
  refine Nd1.step (c := 3) (d := 9) (v := .agg #[.int .u64 (lim (siz b) 0), .int .u64 (lim (siz b) 1), .int .u64 (lim (siz b) 2), .int .u64 (lim (siz b) 3)]) (l := []) (f' := 2) (L' := fun x => #[true, true, true, true, false, x, false]) R rfl rfl (by intro a; cases a <;> kernel_rfl) (by intros; kernel_rfl) rfl (fun X W1 K hH hK => ?_) (fun _ _ _ _ h => h) ?_
  · simp only [puts, Act.put, List.setIfInBounds_toArray, List.set_cons_zero, List.set_cons_succ]
    clear R hH
    go_simp
    refine (HSB.out _).mono ?_
    rintro e Wq ⟨rfl, hbn⟩
    go_wp2_with fail
    exact hK.out _ hbn
  refine Nd1.step (c := 4) (d := 10) (v := .agg #[.int .u64 (lim (siz a / siz b) 0), .int .u64 (lim (siz a / siz b) 1), .int .u64 (lim (siz a / siz b) 2), .int .u64 (lim (siz a / siz b) 3)]) (l := []) (f' := 1) (L' := fun x => #[true, true, true, true, true, x, false]) R rfl rfl (by intro a; cases a <;> kernel_rfl) (by intros; kernel_rfl) rfl (fun X W1 K hH hK => ?_) (fun _ _ _ _ h => h) ?_
  · simp only [puts, Act.put, List.setIfInBounds_toArray, List.set_cons_zero, List.set_cons_succ]
    clear R hH
    go_simp
    refine (HIN.out _).mono ?_
    rintro e Wq ⟨rfl, hbn⟩
    go_wp2_with fail
    exact hK.out _ hbn
  refine Nd1.last (f := 1) R (by kernel_rfl) (by intros; kernel_rfl) rfl (fun p W1 hH hp hp' R5 => ?_)
  simp only [puts, ptr, Act.put, List.setIfInBounds_toArray, List.set_cons_zero, List.set_cons_succ]
  clear R
  obtain ⟨e0, e1, e2, e3, ef⟩ := id R5
  have ef0 := ef 0 (by decide); have ef1 := ef 1 (by decide); have ef2 := ef 2 (by decide); have ef3 := ef 3 (by decide)
  clear ef
  have ho : Only W1 ((((W1.setCell ⟨p, 0, none⟩ (.int .u64 (lim (siz a / siz b) 0))).setCell ⟨p, 1, none⟩ (.int .u64 (lim (siz a / siz b) 1))).setCell ⟨p, 2, none⟩ (.int .u64 (lim (siz a / siz b) 2))).setCell ⟨p, 3, none⟩ (.int .u64 (lim (siz a / siz b) 3))) p 0 4 := ((((Only.refl _ _ _ _).setCell _ _ (by omega) (by omega)).setCell _ _ (by omega) (by omega)).setCell _ _ (by omega) (by omega)).setCell _ _ (by omega) (by omega)
  replace R5 : Row4 ((((W1.setCell ⟨p, 0, none⟩ (.int .u64 (lim (siz a / siz b) 0))).setCell ⟨p, 1, none⟩ (.int .u64 (lim (siz a / siz b) 1))).setCell ⟨p, 2, none⟩ (.int .u64 (lim (siz a / siz b) 2))).setCell ⟨p, 3, none⟩ (.int .u64 (lim (siz a / siz b) 3))) p (lim (siz a / siz b) 0) (lim (siz a / siz b) 1) (lim (siz a / siz b) 2) (lim (siz a / siz b) 3) := ⟨by simp [go_sem, e0], by simp [go_sem, e1], by simp [go_sem, e2], by simp [go_sem, e3], fun j hj => (ho.frozen j).trans (R5.fz j hj)⟩
  have hB9 := hH.trans (ho.below (by omega))
  have hz := Nat.le_of_eq ho.size.symm
  clear ho
  refine wpAnyH_ready (rs := [6]) (by kernel_rfl) (by simp) ?_
  refine AllReadyH.cons rfl (fun K hK => ?_) AllReadyH.nil
  go_simp
  refine hK.out _ _ hB9 (fun hH => ?_)
  clear hK K e0 e1 e2 e3 ef0 ef1 ef2 ef3 hB9
  generalize ((((W1.setCell ⟨p, 0, none⟩ (.int .u64 (lim (siz a / siz b) 0))).setCell ⟨p, 1, none⟩ (.int .u64 (lim (siz a / siz b) 1))).setCell ⟨p, 2, none⟩ (.int .u64 (lim (siz a / siz b) 2))).setCell ⟨p, 3, none⟩ (.int .u64 (lim (siz a / siz b) 3))) = W2 at hH hz R5 ⊢
  refine wpAnyH_done (by kernel_rfl) ?_ _
  have hb5 : p < W2.heap.size := by omega
  go_wp2
  refine wp_region_held_drew (S := fun W => Below W0.heap.size W0 W ∧ Row4 W p (lim (siz a / siz b) 0) (lim (siz a / siz b) 1) (lim (siz a / siz b) 2) (lim (siz a / siz b) 3) ∧ p < W.heap.size) (by kernel_rfl) ⟨hH.drew, R5.drew, hb5⟩ (fun hH => ?_)
  clear R5 hz hb5
  refine take_d (i := 0) (d := some 11) (v := .agg #[.int .u64 (lim a 0), .int .u64 (lim a 1), .int .u64 (lim a 2), .int .u64 (lim a 3)]) rfl rfl (by kernel_rfl) (by kernel_rfl) (by kernel_rfl) (fun _ _ _ h => h) (Or.inl ⟨by rfl, fun W hW => ?_⟩) hH ?_
  · obtain ⟨k0, k1, k2, k3⟩ := Eq4.keep h1 hW.1 z1
    clear hW hH
    go_simp
  simp only [Act.put, List.setIfInBounds_toArray, List.set_cons_zero, List.set_cons_succ]
  refine take_d (i := 2) (d := some 13) (v := .agg #[.int .u64 (lim b 0), .int .u64 (lim b 1), .int .u64 (lim b 2), .int .u64 (lim b 3)]) rfl rfl (by kernel_rfl) (by kernel_rfl) (by kernel_rfl) (fun _ _ _ h => h) (Or.inl ⟨by rfl, fun W hW => ?_⟩) hH ?_
  · obtain ⟨k0, k1, k2, k3⟩ := Eq4.keep h2 hW.1 z2
    clear hW hH
    go_simp
  simp only [Act.put, List.setIfInBounds_toArray, List.set_cons_zero, List.set_cons_succ]
  generalize W2.drew = Wz at hH ⊢
  refine wpAnyH_ready (rs := [1]) (by kernel_rfl) (by simp) ?_
  refine AllReadyH.cons rfl (fun K hK => ?_) AllReadyH.nil
  go_simp
  refine (HNA.out _).mono ?_
  rintro e wp1 ⟨rfl, hbn⟩
  go_wp2_with fail
  refine hK.out _ _ ⟨below_over0 hH.1 hbn, hH.2.1.below hbn hH.2.2, Nat.lt_of_lt_of_le hH.2.2 hbn.size⟩ (fun hH => ?_)
  clear hbn hK K
  refine wpAnyH_ready (rs := [3]) (by kernel_rfl) (by simp) ?_
  refine AllReadyH.cons rfl (fun K hK => ?_) AllReadyH.nil
  go_simp
  refine (HNB.out _).mono ?_
  rintro e wp3 ⟨rfl, hbn⟩
  go_wp2_with fail
  refine hK.out _ _ ⟨below_over0 hH.1 hbn, hH.2.1.below hbn hH.2.2, Nat.lt_of_lt_of_le hH.2.2 hbn.size⟩ (fun hH => ?_)
  clear hbn hK K
  refine take_d (i := 4) (d := some 15) (v := .bool true) rfl rfl (by kernel_rfl) (by kernel_rfl) (by kernel_rfl) (fun _ _ _ h => h) (Or.inl ⟨by rfl, fun W hW => ?_⟩) hH ?_
  · clear hW hH
    go_simp
  simp only [Act.put, List.setIfInBounds_toArray, List.set_cons_zero, List.set_cons_succ]
  refine wpAnyH_done (by kernel_rfl) ?_ _
  obtain ⟨hH, ⟨e0, e1, e2, e3, -⟩, hb5⟩ := hH
  go_wp2_with fail
  refine (HNQ.out _).mono ?_
  rintro e wl ⟨rfl, hbl⟩
  have hTl := below_over0 hH hbl
  obtain ⟨x0, x1, x2, x3, x4, x5, x6, x7⟩ := C2.below hTl z3
  clear e0 e1 e2 e3 hbl
  go_wp2
  simp [bodyPost, results, Try.results32, go_sem, x0, x1, x2, x3]
  exact set4_below (hB.trans (hTl.mono hB.size)) (by omega) _

set_option maxHeartbeats 8000000 in
theorem sdiv_ft (a b : Nat) (ha : a < M) (hb : b < M) (hna : neg a = false) (hnb : neg b = true) (w : World) :
    Calls Try.prog 32 #[wd a, wd b] w fun e w' => e = .returned (wd (opp (siz a / siz b))) ∧ Below w.heap.size w w' := by
  have HSA := Hid.mk' (size a ha)
  have HSB := Hid.mk' (size b hb)
  have HIN := Hid.mk' (div (siz a) (siz b) (siz_lt a ha) (siz_lt b hb))
  have HNA := Hid.mk' (negative a ha)
  have HNB := Hid.mk' (negative b hb)
  rw [hnb] at HNB
  clear hnb
  rw [hna] at HNA
  have HNQ := Hid.mk' (negate (siz a / siz b) (div_lt _ _ (siz_lt a ha)))
  clear hna
  obtain ⟨h1, h2, h3, ⟨z1, z2, z3⟩, hB⟩ := held_start w a b 0
  have e0 : put4 (put4 (put4 w a) b) 0 = ((w.alloc (.cells #[.int .u64 (lim a 0), .int .u64 (lim a 1), .int .u64 (lim a 2), .int .u64 (lim a 3)] 24)).alloc (.cells #[.int .u64 (lim b 0), .int .u64 (lim b 1), .int .u64 (lim b 2), .int .u64 (lim b 3)] 24)).alloc (.cells #[.int .u64 0, .int .u64 0, .int .u64 0, .int .u64 0] 24) := by
    unfold put4; simp [lim_z]
  have C2 : Cells4 (put4 (put4 (put4 w a) b) 0) (w.heap.size + 1 + 1) 0 := ⟨h3.1, h3.2.1, h3.2.2.1, h3.2.2.2, by simp [go_sem], by simp [go_sem], by simp [go_sem], by simp [go_sem]⟩
  clear h3
  rw [e0] at h1 h2 z1 z2 z3 hB C2
  clear e0
  go_enter Try.func32, Try.ntmps32
  go_wp2
  generalize ((w.alloc (.cells #[.int .u64 (lim a 0), .int .u64 (lim a 1), .int .u64 (lim a 2), .int .u64 (lim a 3)] 24)).alloc (.cells #[.int .u64 (lim b 0), .int .u64 (lim b 1), .int .u64 (lim b 2), .int .u64 (lim b 3)] 24)).alloc (.cells #[.int .u64 0, .int .u64 0, .int .u64 0, .int .u64 0] 24) = W0 at *
  refine wp_region_held_drew (S := fun W => Below W0.heap.size W0 W) (by kernel_rfl) (Below.refl _ _).drew (fun hH => ?_)
  refine take_d (i := 0) (d := some 6) (v := .agg #[.int .u64 (lim a 0), .int .u64 (lim a 1), .int .u64 (lim a 2), .int .u64 (lim a 3)]) rfl rfl (by kernel_rfl) (by kernel_rfl) (by kernel_rfl) (fun _ _ _ h => h) (Or.inl ⟨by rfl, fun W hW => ?_⟩) hH ?_
  · obtain ⟨k0, k1, k2, k3⟩ := Eq4.keep h1 hW z1
    clear hW hH
    go_simp
  simp only [Act.put, List.setIfInBounds_toArray, List.set_cons_zero, List.set_cons_succ]
  refine take_d (i := 2) (d := some 8) (v := .agg #[.int .u64 (lim b 0), .int .u64 (lim b 1), .int .u64 (lim b 2), .int .u64 (lim b 3)]) rfl rfl (by kernel_rfl) (by kernel_rfl) (by kernel_rfl) (fun _ _ _ h => h) (Or.inl ⟨by rfl, fun W hW => ?_⟩) hH ?_
  · obtain ⟨k0, k1, k2, k3⟩ := Eq4.keep h2 hW z2
    clear hW hH
    go_simp
  simp only [Act.put, List.setIfInBounds_toArray, List.set_cons_zero, List.set_cons_succ]
  refine Nd1.start (f := 4) (ZA := fun W p => Row4 W p 0 0 0 0) (iA := 5) (dA := 5) (oA := .cells #[.int .u64 0, .int .u64 0, .int .u64 0, .int .u64 0] 24) (L := fun x => #[true, false, true, false, false, x, false])
    ⟨fun _ _ _ h => by refine wpOp_step rfl (fun K' hK => ?_); go_simp; exact hK _ _ h, fun W => row4_new W 0 0 0 0, fun _ _ _ hp hb h => h.below hb hp⟩ rfl undef rfl hH (fun R => ?_)
  refine Nd1.step (c := 1) (d := 7) (v := .agg #[.int .u64 (lim (siz a) 0), .int .u64 (lim (siz a) 1), .int .u64 (lim (siz a) 2), .int .u64 (lim (siz a) 3)]) (l := []) (f' := 3) (L' := fun x => #[true, true, true, false, false, x, false]) R rfl rfl (by intro a; cases a <;> kernel_rfl) (by intros; kernel_rfl) rfl (fun X W1 K hH hK => ?_) (fun _ _ _ _ h => h) ?_
  · simp only [Act.put, List.setIfInBounds_toArray, List.set_cons_zero, List.set_cons_succ]
    clear R hH
    go_simp
    refine (HSA.out _).mono ?_
    rintro e Wq ⟨rfl, hbn⟩
    go_wp2_with fail
    exact hK.out _ hbn
  refine Nd1.step (c := 3) (d := 9) (v := .agg #[.int .u64 (lim (siz b) 0), .int .u64 (lim (siz b) 1), .int .u64 (lim (siz b) 2), .int .u64 (lim (siz b) 3)]) (l := []) (f' := 2) (L' := fun x => #[true, true, true, true, false, x, false]) R rfl rfl (by intro a; cases a <;> kernel_rfl) (by intros; kernel_rfl) rfl (fun X W1 K hH hK => ?_) (fun _ _ _ _ h => h) ?_
  · simp only [puts, Act.put, List.setIfInBounds_toArray, List.set_cons_zero, List.set_cons_succ]
    clear R hH
    go_simp
    refine (HSB.out _).mono ?_
    rintro e Wq ⟨rfl, hbn⟩
    go_wp2_with fail
    exact hK.out _ hbn
  refine Nd1.step (c := 4) (d := 10) (v := .agg #[.int .u64 (lim (siz a / siz b) 0), .int .u64 (lim (siz a / siz b) 1), .int .u64 (lim (siz a / siz b) 2), .int .u64 (lim (siz a / siz b) 3)]) (l := []) (f' := 1) (L' := fun x => #[true, true, true, true, true, x, false]) R rfl rfl (by intro a; cases a <;> kernel_rfl) (by intros; kernel_rfl) rfl (fun X W1 K hH hK => ?_) (fun _ _ _ _ h => h) ?_
  · simp only [puts, Act.put, List.setIfInBounds_toArray, List.set_cons_zero, List.set_cons_succ]
    clear R hH
    go_simp
    refine (HIN.out _).mono ?_
    rintro e Wq ⟨rfl, hbn⟩
    go_wp2_with fail
    exact hK.out _ hbn
  refine Nd1.last (f := 1) R (by kernel_rfl) (by intros; kernel_rfl) rfl (fun p W1 hH hp hp' R5 => ?_)
  simp only [puts, ptr, Act.put, List.setIfInBounds_toArray, List.set_cons_zero, List.set_cons_succ]
  clear R
  obtain ⟨e0, e1, e2, e3, ef⟩ := id R5
  have ef0 := ef 0 (by decide); have ef1 := ef 1 (by decide); have ef2 := ef 2 (by decide); have ef3 := ef 3 (by decide)
  clear ef
  have ho : Only W1 ((((W1.setCell ⟨p, 0, none⟩ (.int .u64 (lim (siz a / siz b) 0))).setCell ⟨p, 1, none⟩ (.int .u64 (lim (siz a / siz b) 1))).setCell ⟨p, 2, none⟩ (.int .u64 (lim (siz a / siz b) 2))).setCell ⟨p, 3, none⟩ (.int .u64 (lim (siz a / siz b) 3))) p 0 4 := ((((Only.refl _ _ _ _).setCell _ _ (by omega) (by omega)).setCell _ _ (by omega) (by omega)).setCell _ _ (by omega) (by omega)).setCell _ _ (by omega) (by omega)
  replace R5 : Row4 ((((W1.setCell ⟨p, 0, none⟩ (.int .u64 (lim (siz a / siz b) 0))).setCell ⟨p, 1, none⟩ (.int .u64 (lim (siz a / siz b) 1))).setCell ⟨p, 2, none⟩ (.int .u64 (lim (siz a / siz b) 2))).setCell ⟨p, 3, none⟩ (.int .u64 (lim (siz a / siz b) 3))) p (lim (siz a / siz b) 0) (lim (siz a / siz b) 1) (lim (siz a / siz b) 2) (lim (siz a / siz b) 3) := ⟨by simp [go_sem, e0], by simp [go_sem, e1], by simp [go_sem, e2], by simp [go_sem, e3], fun j hj => (ho.frozen j).trans (R5.fz j hj)⟩
  have hB9 := hH.trans (ho.below (by omega))
  have hz := Nat.le_of_eq ho.size.symm
  clear ho
  refine wpAnyH_ready (rs := [6]) (by kernel_rfl) (by simp) ?_
  refine AllReadyH.cons rfl (fun K hK => ?_) AllReadyH.nil
  go_simp
  refine hK.out _ _ hB9 (fun hH => ?_)
  clear hK K e0 e1 e2 e3 ef0 ef1 ef2 ef3 hB9
  generalize ((((W1.setCell ⟨p, 0, none⟩ (.int .u64 (lim (siz a / siz b) 0))).setCell ⟨p, 1, none⟩ (.int .u64 (lim (siz a / siz b) 1))).setCell ⟨p, 2, none⟩ (.int .u64 (lim (siz a / siz b) 2))).setCell ⟨p, 3, none⟩ (.int .u64 (lim (siz a / siz b) 3))) = W2 at hH hz R5 ⊢
  refine wpAnyH_done (by kernel_rfl) ?_ _
  have hb5 : p < W2.heap.size := by omega
  go_wp2
  refine wp_region_held_drew (S := fun W => Below W0.heap.size W0 W ∧ Row4 W p (lim (siz a / siz b) 0) (lim (siz a / siz b) 1) (lim (siz a / siz b) 2) (lim (siz a / siz b) 3) ∧ p < W.heap.size) (by kernel_rfl) ⟨hH.drew, R5.drew, hb5⟩ (fun hH => ?_)
  clear R5 hz hb5
  refine take_d (i := 0) (d := some 11) (v := .agg #[.int .u64 (lim a 0), .int .u64 (lim a 1), .int .u64 (lim a 2), .int .u64 (lim a 3)]) rfl rfl (by kernel_rfl) (by kernel_rfl) (by kernel_rfl) (fun _ _ _ h => h) (Or.inl ⟨by rfl, fun W hW => ?_⟩) hH ?_
  · obtain ⟨k0, k1, k2, k3⟩ := Eq4.keep h1 hW.1 z1
    clear hW hH
    go_simp
  simp only [Act.put, List.setIfInBounds_toArray, List.set_cons_zero, List.set_cons_succ]
  refine take_d (i := 2) (d := some 13) (v := .agg #[.int .u64 (lim b 0), .int .u64 (lim b 1), .int .u64 (lim b 2), .int .u64 (lim b 3)]) rfl rfl (by kernel_rfl) (by kernel_rfl) (by kernel_rfl) (fun _ _ _ h => h) (Or.inl ⟨by rfl, fun W hW => ?_⟩) hH ?_
  · obtain ⟨k0, k1, k2, k3⟩ := Eq4.keep h2 hW.1 z2
    clear hW hH
    go_simp
  simp only [Act.put, List.setIfInBounds_toArray, List.set_cons_zero, List.set_cons_succ]
  generalize W2.drew = Wz at hH ⊢
  refine wpAnyH_ready (rs := [1]) (by kernel_rfl) (by simp) ?_
  refine AllReadyH.cons rfl (fun K hK => ?_) AllReadyH.nil
  go_simp
  refine (HNA.out _).mono ?_
  rintro e wp1 ⟨rfl, hbn⟩
  go_wp2_with fail
  refine hK.out _ _ ⟨below_over0 hH.1 hbn, hH.2.1.below hbn hH.2.2, Nat.lt_of_lt_of_le hH.2.2 hbn.size⟩ (fun hH => ?_)
  clear hbn hK K
  refine wpAnyH_ready (rs := [3]) (by kernel_rfl) (by simp) ?_
  refine AllReadyH.cons rfl (fun K hK => ?_) AllReadyH.nil
  go_simp
  refine (HNB.out _).mono ?_
  rintro e wp3 ⟨rfl, hbn⟩
  go_wp2_with fail
  refine hK.out _ _ ⟨below_over0 hH.1 hbn, hH.2.1.below hbn hH.2.2, Nat.lt_of_lt_of_le hH.2.2 hbn.size⟩ (fun hH => ?_)
  clear hbn hK K
  refine take_d (i := 4) (d := some 15) (v := .bool true) rfl rfl (by kernel_rfl) (by kernel_rfl) (by kernel_rfl) (fun _ _ _ h => h) (Or.inl ⟨by rfl, fun W hW => ?_⟩) hH ?_
  · clear hW hH
    go_simp
  simp only [Act.put, List.setIfInBounds_toArray, List.set_cons_zero, List.set_cons_succ]
  refine wpAnyH_done (by kernel_rfl) ?_ _
  obtain ⟨hH, ⟨e0, e1, e2, e3, -⟩, hb5⟩ := hH
  go_wp2_with fail
  refine (HNQ.out _).mono ?_
  rintro e wl ⟨rfl, hbl⟩
  have hTl := below_over0 hH hbl
  obtain ⟨x0, x1, x2, x3, x4, x5, x6, x7⟩ := C2.below hTl z3
  clear e0 e1 e2 e3 hbl
  go_wp2
  simp [bodyPost, results, Try.results32, go_sem, x0, x1, x2, x3]
  exact set4_below (hB.trans (hTl.mono hB.size)) (by omega) _

set_option maxHeartbeats 8000000 in
theorem sdiv_ff (a b : Nat) (ha : a < M) (hb : b < M) (hna : neg a = false) (hnb : neg b = false) (w : World) :
    Calls Try.prog 32 #[wd a, wd b] w fun e w' => e = .returned (wd (siz a / siz b)) ∧ Below w.heap.size w w' := by
  have HSA := Hid.mk' (size a ha)
  have HSB := Hid.mk' (size b hb)
  have HIN := Hid.mk' (div (siz a) (siz b) (siz_lt a ha) (siz_lt b hb))
  have HNA := Hid.mk' (negative a ha)
  have HNB := Hid.mk' (negative b hb)
  rw [hnb] at HNB
  clear hnb
  rw [hna] at HNA
  have HNQ := Hid.mk' (negate (siz a / siz b) (div_lt _ _ (siz_lt a ha)))
  clear hna
  obtain ⟨h1, h2, h3, ⟨z1, z2, z3⟩, hB⟩ := held_start w a b 0
  have e0 : put4 (put4 (put4 w a) b) 0 = ((w.alloc (.cells #[.int .u64 (lim a 0), .int .u64 (lim a 1), .int .u64 (lim a 2), .int .u64 (lim a 3)] 24)).alloc (.cells #[.int .u64 (lim b 0), .int .u64 (lim b 1), .int .u64 (lim b 2), .int .u64 (lim b 3)] 24)).alloc (.cells #[.int .u64 0, .int .u64 0, .int .u64 0, .int .u64 0] 24) := by
    unfold put4; simp [lim_z]
  have C2 : Cells4 (put4 (put4 (put4 w a) b) 0) (w.heap.size + 1 + 1) 0 := ⟨h3.1, h3.2.1, h3.2.2.1, h3.2.2.2, by simp [go_sem], by simp [go_sem], by simp [go_sem], by simp [go_sem]⟩
  clear h3
  rw [e0] at h1 h2 z1 z2 z3 hB C2
  clear e0
  go_enter Try.func32, Try.ntmps32
  go_wp2
  generalize ((w.alloc (.cells #[.int .u64 (lim a 0), .int .u64 (lim a 1), .int .u64 (lim a 2), .int .u64 (lim a 3)] 24)).alloc (.cells #[.int .u64 (lim b 0), .int .u64 (lim b 1), .int .u64 (lim b 2), .int .u64 (lim b 3)] 24)).alloc (.cells #[.int .u64 0, .int .u64 0, .int .u64 0, .int .u64 0] 24) = W0 at *
  refine wp_region_held_drew (S := fun W => Below W0.heap.size W0 W) (by kernel_rfl) (Below.refl _ _).drew (fun hH => ?_)
  refine take_d (i := 0) (d := some 6) (v := .agg #[.int .u64 (lim a 0), .int .u64 (lim a 1), .int .u64 (lim a 2), .int .u64 (lim a 3)]) rfl rfl (by kernel_rfl) (by kernel_rfl) (by kernel_rfl) (fun _ _ _ h => h) (Or.inl ⟨by rfl, fun W hW => ?_⟩) hH ?_
  · obtain ⟨k0, k1, k2, k3⟩ := Eq4.keep h1 hW z1
    clear hW hH
    go_simp
  simp only [Act.put, List.setIfInBounds_toArray, List.set_cons_zero, List.set_cons_succ]
  refine take_d (i := 2) (d := some 8) (v := .agg #[.int .u64 (lim b 0), .int .u64 (lim b 1), .int .u64 (lim b 2), .int .u64 (lim b 3)]) rfl rfl (by kernel_rfl) (by kernel_rfl) (by kernel_rfl) (fun _ _ _ h => h) (Or.inl ⟨by rfl, fun W hW => ?_⟩) hH ?_
  · obtain ⟨k0, k1, k2, k3⟩ := Eq4.keep h2 hW z2
    clear hW hH
    go_simp
  simp only [Act.put, List.setIfInBounds_toArray, List.set_cons_zero, List.set_cons_succ]
  refine Nd1.start (f := 4) (ZA := fun W p => Row4 W p 0 0 0 0) (iA := 5) (dA := 5) (oA := .cells #[.int .u64 0, .int .u64 0, .int .u64 0, .int .u64 0] 24) (L := fun x => #[true, false, true, false, false, x, false])
    ⟨fun _ _ _ h => by refine wpOp_step rfl (fun K' hK => ?_); go_simp; exact hK _ _ h, fun W => row4_new W 0 0 0 0, fun _ _ _ hp hb h => h.below hb hp⟩ rfl undef rfl hH (fun R => ?_)
  refine Nd1.step (c := 1) (d := 7) (v := .agg #[.int .u64 (lim (siz a) 0), .int .u64 (lim (siz a) 1), .int .u64 (lim (siz a) 2), .int .u64 (lim (siz a) 3)]) (l := []) (f' := 3) (L' := fun x => #[true, true, true, false, false, x, false]) R rfl rfl (by intro a; cases a <;> kernel_rfl) (by intros; kernel_rfl) rfl (fun X W1 K hH hK => ?_) (fun _ _ _ _ h => h) ?_
  · simp only [Act.put, List.setIfInBounds_toArray, List.set_cons_zero, List.set_cons_succ]
    clear R hH
    go_simp
    refine (HSA.out _).mono ?_
    rintro e Wq ⟨rfl, hbn⟩
    go_wp2_with fail
    exact hK.out _ hbn
  refine Nd1.step (c := 3) (d := 9) (v := .agg #[.int .u64 (lim (siz b) 0), .int .u64 (lim (siz b) 1), .int .u64 (lim (siz b) 2), .int .u64 (lim (siz b) 3)]) (l := []) (f' := 2) (L' := fun x => #[true, true, true, true, false, x, false]) R rfl rfl (by intro a; cases a <;> kernel_rfl) (by intros; kernel_rfl) rfl (fun X W1 K hH hK => ?_) (fun _ _ _ _ h => h) ?_
  · simp only [puts, Act.put, List.setIfInBounds_toArray, List.set_cons_zero, List.set_cons_succ]
    clear R hH
    go_simp
    refine (HSB.out _).mono ?_
    rintro e Wq ⟨rfl, hbn⟩
    go_wp2_with fail
    exact hK.out _ hbn
  refine Nd1.step (c := 4) (d := 10) (v := .agg #[.int .u64 (lim (siz a / siz b) 0), .int .u64 (lim (siz a / siz b) 1), .int .u64 (lim (siz a / siz b) 2), .int .u64 (lim (siz a / siz b) 3)]) (l := []) (f' := 1) (L' := fun x => #[true, true, true, true, true, x, false]) R rfl rfl (by intro a; cases a <;> kernel_rfl) (by intros; kernel_rfl) rfl (fun X W1 K hH hK => ?_) (fun _ _ _ _ h => h) ?_
  · simp only [puts, Act.put, List.setIfInBounds_toArray, List.set_cons_zero, List.set_cons_succ]
    clear R hH
    go_simp
    refine (HIN.out _).mono ?_
    rintro e Wq ⟨rfl, hbn⟩
    go_wp2_with fail
    exact hK.out _ hbn
  refine Nd1.last (f := 1) R (by kernel_rfl) (by intros; kernel_rfl) rfl (fun p W1 hH hp hp' R5 => ?_)
  simp only [puts, ptr, Act.put, List.setIfInBounds_toArray, List.set_cons_zero, List.set_cons_succ]
  clear R
  obtain ⟨e0, e1, e2, e3, ef⟩ := id R5
  have ef0 := ef 0 (by decide); have ef1 := ef 1 (by decide); have ef2 := ef 2 (by decide); have ef3 := ef 3 (by decide)
  clear ef
  have ho : Only W1 ((((W1.setCell ⟨p, 0, none⟩ (.int .u64 (lim (siz a / siz b) 0))).setCell ⟨p, 1, none⟩ (.int .u64 (lim (siz a / siz b) 1))).setCell ⟨p, 2, none⟩ (.int .u64 (lim (siz a / siz b) 2))).setCell ⟨p, 3, none⟩ (.int .u64 (lim (siz a / siz b) 3))) p 0 4 := ((((Only.refl _ _ _ _).setCell _ _ (by omega) (by omega)).setCell _ _ (by omega) (by omega)).setCell _ _ (by omega) (by omega)).setCell _ _ (by omega) (by omega)
  replace R5 : Row4 ((((W1.setCell ⟨p, 0, none⟩ (.int .u64 (lim (siz a / siz b) 0))).setCell ⟨p, 1, none⟩ (.int .u64 (lim (siz a / siz b) 1))).setCell ⟨p, 2, none⟩ (.int .u64 (lim (siz a / siz b) 2))).setCell ⟨p, 3, none⟩ (.int .u64 (lim (siz a / siz b) 3))) p (lim (siz a / siz b) 0) (lim (siz a / siz b) 1) (lim (siz a / siz b) 2) (lim (siz a / siz b) 3) := ⟨by simp [go_sem, e0], by simp [go_sem, e1], by simp [go_sem, e2], by simp [go_sem, e3], fun j hj => (ho.frozen j).trans (R5.fz j hj)⟩
  have hB9 := hH.trans (ho.below (by omega))
  have hz := Nat.le_of_eq ho.size.symm
  clear ho
  refine wpAnyH_ready (rs := [6]) (by kernel_rfl) (by simp) ?_
  refine AllReadyH.cons rfl (fun K hK => ?_) AllReadyH.nil
  go_simp
  refine hK.out _ _ hB9 (fun hH => ?_)
  clear hK K e0 e1 e2 e3 ef0 ef1 ef2 ef3 hB9
  generalize ((((W1.setCell ⟨p, 0, none⟩ (.int .u64 (lim (siz a / siz b) 0))).setCell ⟨p, 1, none⟩ (.int .u64 (lim (siz a / siz b) 1))).setCell ⟨p, 2, none⟩ (.int .u64 (lim (siz a / siz b) 2))).setCell ⟨p, 3, none⟩ (.int .u64 (lim (siz a / siz b) 3))) = W2 at hH hz R5 ⊢
  refine wpAnyH_done (by kernel_rfl) ?_ _
  have hb5 : p < W2.heap.size := by omega
  go_wp2
  refine wp_region_held_drew (S := fun W => Below W0.heap.size W0 W ∧ Row4 W p (lim (siz a / siz b) 0) (lim (siz a / siz b) 1) (lim (siz a / siz b) 2) (lim (siz a / siz b) 3) ∧ p < W.heap.size) (by kernel_rfl) ⟨hH.drew, R5.drew, hb5⟩ (fun hH => ?_)
  clear R5 hz hb5
  refine take_d (i := 0) (d := some 11) (v := .agg #[.int .u64 (lim a 0), .int .u64 (lim a 1), .int .u64 (lim a 2), .int .u64 (lim a 3)]) rfl rfl (by kernel_rfl) (by kernel_rfl) (by kernel_rfl) (fun _ _ _ h => h) (Or.inl ⟨by rfl, fun W hW => ?_⟩) hH ?_
  · obtain ⟨k0, k1, k2, k3⟩ := Eq4.keep h1 hW.1 z1
    clear hW hH
    go_simp
  simp only [Act.put, List.setIfInBounds_toArray, List.set_cons_zero, List.set_cons_succ]
  refine take_d (i := 2) (d := some 13) (v := .agg #[.int .u64 (lim b 0), .int .u64 (lim b 1), .int .u64 (lim b 2), .int .u64 (lim b 3)]) rfl rfl (by kernel_rfl) (by kernel_rfl) (by kernel_rfl) (fun _ _ _ h => h) (Or.inl ⟨by rfl, fun W hW => ?_⟩) hH ?_
  · obtain ⟨k0, k1, k2, k3⟩ := Eq4.keep h2 hW.1 z2
    clear hW hH
    go_simp
  simp only [Act.put, List.setIfInBounds_toArray, List.set_cons_zero, List.set_cons_succ]
  generalize W2.drew = Wz at hH ⊢
  refine wpAnyH_ready (rs := [1]) (by kernel_rfl) (by simp) ?_
  refine AllReadyH.cons rfl (fun K hK => ?_) AllReadyH.nil
  go_simp
  refine (HNA.out _).mono ?_
  rintro e wp1 ⟨rfl, hbn⟩
  go_wp2_with fail
  refine hK.out _ _ ⟨below_over0 hH.1 hbn, hH.2.1.below hbn hH.2.2, Nat.lt_of_lt_of_le hH.2.2 hbn.size⟩ (fun hH => ?_)
  clear hbn hK K
  refine wpAnyH_ready (rs := [3]) (by kernel_rfl) (by simp) ?_
  refine AllReadyH.cons rfl (fun K hK => ?_) AllReadyH.nil
  go_simp
  refine (HNB.out _).mono ?_
  rintro e wp3 ⟨rfl, hbn⟩
  go_wp2_with fail
  refine hK.out _ _ ⟨below_over0 hH.1 hbn, hH.2.1.below hbn hH.2.2, Nat.lt_of_lt_of_le hH.2.2 hbn.size⟩ (fun hH => ?_)
  clear hbn hK K
  refine take_d (i := 4) (d := some 15) (v := .bool false) rfl rfl (by kernel_rfl) (by kernel_rfl) (by kernel_rfl) (fun _ _ _ h => h) (Or.inl ⟨by rfl, fun W hW => ?_⟩) hH ?_
  · clear hW hH
    go_simp
  simp only [Act.put, List.setIfInBounds_toArray, List.set_cons_zero, List.set_cons_succ]
  refine wpAnyH_done (by kernel_rfl) ?_ _
  obtain ⟨hH, ⟨e0, e1, e2, e3, -⟩, hb5⟩ := hH
  obtain ⟨x0, x1, x2, x3, x4, x5, x6, x7⟩ := C2.below hH z3
  go_wp2
  simp [bodyPost, results, Try.results32, go_sem, x0, x1, x2, x3]
  exact set4_below (hB.trans (hH.mono hB.size)) (by omega) _

/-- The signed quotient. -/
def sdv (a b : Nat) : Nat := if neg a != neg b then opp (siz a / siz b) else siz a / siz b
theorem sdiv (a b : Nat) (ha : a < M) (hb : b < M) (w : World) : Calls Try.prog 32 #[wd a, wd b] w fun e w' => e = .returned (wd (sdv a b)) ∧ Below w.heap.size w w' := by
  unfold sdv
  cases hna : neg a <;> cases hnb : neg b
  · exact sdiv_ff a b ha hb hna hnb w
  · exact sdiv_ft a b ha hb hna hnb w
  · exact sdiv_tf a b ha hb hna hnb w
  · exact sdiv_tt a b ha hb hna hnb w

end Go.Proofs.Ytbephahokhnccaa

namespace Go.Proofs.Ytbephahokhnccaa
open Go.RowKit Go.Shelf
attribute [local go_sem] wd dbl

set_option maxHeartbeats 8000000 in
theorem smod_t (a b : Nat) (ha : a < M) (hb : b < M) (hna : neg a = true) (w : World) :
    Calls Try.prog 33 #[wd a, wd b] w fun e w' => e = .returned (wd (opp (rmod (siz a) (siz b)))) ∧ Below w.heap.size w w' := by
  have HSA := Hid.mk' (size a ha)
  have HSB := Hid.mk' (size b hb)
  have HIN := Hid.mk' (mod (siz a) (siz b) (siz_lt a ha) (siz_lt b hb))
  have HNA := Hid.mk' (negative a ha)
  rw [hna] at HNA
  have HNQ := Hid.mk' (negate (rmod (siz a) (siz b)) (rmod_lt _ _ (siz_lt b hb)))
  clear hna
  obtain ⟨h1, h2, h3, ⟨z1, z2, z3⟩, hB⟩ := held_start w a b 0
  have e0 : put4 (put4 (put4 w a) b) 0 = ((w.alloc (.cells #[.int .u64 (lim a 0), .int .u64 (lim a 1), .int .u64 (lim a 2), .int .u64 (lim a 3)] 24)).alloc (.cells #[.int .u64 (lim b 0), .int .u64 (lim b 1), .int .u64 (lim b 2), .int .u64 (lim b 3)] 24)).alloc (.cells #[.int .u64 0, .int .u64 0, .int .u64 0, .int .u64 0] 24) := by
    unfold put4; simp [lim_z]
  have C2 : Cells4 (put4 (put4 (put4 w a) b) 0) (w.heap.size + 1 + 1) 0 := ⟨h3.1, h3.2.1, h3.2.2.1, h3.2.2.2, by simp [go_sem], by simp [go_sem], by simp [go_sem], by simp [go_sem]⟩
  clear h3
  rw [e0] at h1 h2 z1 z2 z3 hB C2
  clear e0
  go_enter Try.func33, Try.ntmps33
  go_wp2
  generalize ((w.alloc (.cells #[.int .u64 (lim a 0), .int .u64 (lim a 1), .int .u64 (lim a 2), .int .u64 (lim a 3)] 24)).alloc (.cells #[.int .u64 (lim b 0), .int .u64 (lim b 1), .int .u64 (lim b 2), .int .u64 (lim b 3)] 24)).alloc (.cells #[.int .u64 0, .int .u64 0, .int .u64 0, .int .u64 0] 24) = W0 at *
  refine wp_region_held_drew (S := fun W => Below W0.heap.size W0 W) (by kernel_rfl) (Below.refl _ _).drew (fun hH => ?_)
  refine take_d (i := 0) (d := some 6) (v := .agg #[.int .u64 (lim a 0), .int .u64 (lim a 1), .int .u64 (lim a 2), .int .u64 (lim a 3)]) rfl rfl (by kernel_rfl) (by kernel_rfl) (by kernel_rfl) (fun _ _ _ h => h) (Or.inl ⟨by rfl, fun W hW => ?_⟩) hH ?_
  · obtain ⟨k0, k1, k2, k3⟩ := Eq4.keep h1 hW z1
    clear hW hH
    go_simp
  simp only [Act.put, List.setIfInBounds_toArray, List.set_cons_zero, List.set_cons_succ]
  refine take_d (i := 2) (d := some 8) (v := .agg #[.int .u64 (lim b 0), .int .u64 (lim b 1), .int .u64 (lim b 2), .int .u64 (lim b 3)]) rfl rfl (by kernel_rfl) (by kernel_rfl) (by kernel_rfl) (fun _ _ _ h => h) (Or.inl ⟨by rfl, fun W hW => ?_⟩) hH ?_
  · obtain ⟨k0, k1, k2, k3⟩ := Eq4.keep h2 hW z2
    clear hW hH
    go_simp
  simp only [Act.put, List.setIfInBounds_toArray, List.set_cons_zero, List.set_cons_succ]
  refine Nd1.start (f := 4) (ZA := fun W p => Row4 W p 0 0 0 0) (iA := 5) (dA := 5) (oA := .cells #[.int .u64 0, .int .u64 0, .int .u64 0, .int .u64 0] 24) (L := fun x => #[true, false, true, false, false, x, false])
    ⟨fun _ _ _ h => by refine wpOp_step rfl (fun K' hK => ?_); go_simp; exact hK _ _ h, fun W => row4_new W 0 0 0 0, fun _ _ _ hp hb h => h.below hb hp⟩ rfl undef rfl hH (fun R => ?_)
  refine Nd1.step (c := 1) (d := 7) (v := .agg #[.int .u64 (lim (siz a) 0), .int .u64 (lim (siz a) 1), .int .u64 (lim (siz a) 2), .int .u64 (lim (siz a) 3)]) (l := []) (f' := 3) (L' := fun x => #[true, true, true, false, false, x, false]) R rfl rfl (by intro a; cases a <;> kernel_rfl) (by intros; kernel_rfl) rfl (fun X W1 K hH hK => ?_) (fun _ _ _ _ h => h) ?_
  · simp only [Act.put, List.setIfInBounds_toArray, List.set_cons_zero, List.set_cons_succ]
    clear R hH
    go_simp
    refine (HSA.out _).mono ?_
    rintro e Wq ⟨rfl, hbn⟩
    go_wp2_with fail
    exact hK.out _ hbn
  refine Nd1.step (c := 3) (d := 9) (v := .agg #[.int .u64 (lim (siz b) 0), .int .u64 (lim (siz b) 1), .int .u64 (lim (siz b) 2), .int .u64 (lim (siz b) 3)]) (l := []) (f' := 2) (L' := fun x => #[true, true, true, true, false, x, false]) R rfl rfl (by intro a; cases a <;> kernel_rfl) (by intros; kernel_rfl) rfl (fun X W1 K hH hK => ?_) (fun _ _ _ _ h => h) ?_
  · simp only [puts, Act.put, List.setIfInBounds_toArray, List.set_cons_zero, List.set_cons_succ]
    clear R hH
    go_simp
    refine (HSB.out _).mono ?_
    rintro e Wq ⟨rfl, hbn⟩
    go_wp2_with fail
    exact hK.out _ hbn
  refine Nd1.step (c := 4) (d := 10) (v := .agg #[.int .u64 (lim (rmod (siz a) (siz b)) 0), .int .u64 (lim (rmod (siz a) (siz b)) 1), .int .u64 (lim (rmod (siz a) (siz b)) 2), .int .u64 (lim (rmod (siz a) (siz b)) 3)]) (l := []) (f' := 1) (L' := fun x => #[true, true, true, true, true, x, false]) R rfl rfl (by intro a; cases a <;> kernel_rfl) (by intros; kernel_rfl) rfl (fun X W1 K hH hK => ?_) (fun _ _ _ _ h => h) ?_
  · simp only [puts, Act.put, List.setIfInBounds_toArray, List.set_cons_zero, List.set_cons_succ]
    clear R hH
    go_simp
    refine (HIN.out _).mono ?_
    rintro e Wq ⟨rfl, hbn⟩
    go_wp2_with fail
    exact hK.out _ hbn
  refine Nd1.last (f := 1) R (by kernel_rfl) (by intros; kernel_rfl) rfl (fun p W1 hH hp hp' R5 => ?_)
  simp only [puts, ptr, Act.put, List.setIfInBounds_toArray, List.set_cons_zero, List.set_cons_succ]
  clear R
  obtain ⟨e0, e1, e2, e3, ef⟩ := id R5
  have ef0 := ef 0 (by decide); have ef1 := ef 1 (by decide); have ef2 := ef 2 (by decide); have ef3 := ef 3 (by decide)
  clear ef
  have ho : Only W1 ((((W1.setCell ⟨p, 0, none⟩ (.int .u64 (lim (rmod (siz a) (siz b)) 0))).setCell ⟨p, 1, none⟩ (.int .u64 (lim (rmod (siz a) (siz b)) 1))).setCell ⟨p, 2, none⟩ (.int .u64 (lim (rmod (siz a) (siz b)) 2))).setCell ⟨p, 3, none⟩ (.int .u64 (lim (rmod (siz a) (siz b)) 3))) p 0 4 := ((((Only.refl _ _ _ _).setCell _ _ (by omega) (by omega)).setCell _ _ (by omega) (by omega)).setCell _ _ (by omega) (by omega)).setCell _ _ (by omega) (by omega)
  replace R5 : Row4 ((((W1.setCell ⟨p, 0, none⟩ (.int .u64 (lim (rmod (siz a) (siz b)) 0))).setCell ⟨p, 1, none⟩ (.int .u64 (lim (rmod (siz a) (siz b)) 1))).setCell ⟨p, 2, none⟩ (.int .u64 (lim (rmod (siz a) (siz b)) 2))).setCell ⟨p, 3, none⟩ (.int .u64 (lim (rmod (siz a) (siz b)) 3))) p (lim (rmod (siz a) (siz b)) 0) (lim (rmod (siz a) (siz b)) 1) (lim (rmod (siz a) (siz b)) 2) (lim (rmod (siz a) (siz b)) 3) := ⟨by simp [go_sem, e0], by simp [go_sem, e1], by simp [go_sem, e2], by simp [go_sem, e3], fun j hj => (ho.frozen j).trans (R5.fz j hj)⟩
  have hB9 := hH.trans (ho.below (by omega))
  have hz := Nat.le_of_eq ho.size.symm
  clear ho
  refine wpAnyH_ready (rs := [6]) (by kernel_rfl) (by simp) ?_
  refine AllReadyH.cons rfl (fun K hK => ?_) AllReadyH.nil
  go_simp
  refine hK.out _ _ hB9 (fun hH => ?_)
  clear hK K e0 e1 e2 e3 ef0 ef1 ef2 ef3 hB9
  generalize ((((W1.setCell ⟨p, 0, none⟩ (.int .u64 (lim (rmod (siz a) (siz b)) 0))).setCell ⟨p, 1, none⟩ (.int .u64 (lim (rmod (siz a) (siz b)) 1))).setCell ⟨p, 2, none⟩ (.int .u64 (lim (rmod (siz a) (siz b)) 2))).setCell ⟨p, 3, none⟩ (.int .u64 (lim (rmod (siz a) (siz b)) 3))) = W2 at hH hz R5 ⊢
  refine wpAnyH_done (by kernel_rfl) ?_ _
  have hb5 : p < W2.heap.size := by omega
  obtain ⟨k0, k1, k2, k3⟩ := Eq4.keep h1 hH z1
  go_wp2_with fail
  refine (HNA.out _).mono ?_
  rintro e wp ⟨rfl, hbn⟩
  replace R5 := R5.below hbn hb5
  replace hH := below_over0 hH hbn
  clear k0 k1 k2 k3 hbn
  obtain ⟨e0, e1, e2, e3, -⟩ := R5
  go_wp2_with fail
  refine (HNQ.out _).mono ?_
  rintro e wl ⟨rfl, hbl⟩
  have hTl := below_over0 hH hbl
  obtain ⟨x0, x1, x2, x3, x4, x5, x6, x7⟩ := C2.below hTl z3
  clear e0 e1 e2 e3 hbl
  go_wp2
  simp [bodyPost, results, Try.results33, go_sem, x0, x1, x2, x3]
  exact set4_below (hB.trans (hTl.mono hB.size)) (by omega) _

set_option maxHeartbeats 8000000 in
theorem smod_f (a b : Nat) (ha : a < M) (hb : b < M) (hna : neg a = false) (w : World) :
    Calls Try.prog 33 #[wd a, wd b] w fun e w' => e = .returned (wd (rmod (siz a) (siz b))) ∧ Below w.heap.size w w' := by
  have HSA := Hid.mk' (size a ha)
  have HSB := Hid.mk' (size b hb)
  have HIN := Hid.mk' (mod (siz a) (siz b) (siz_lt a ha) (siz_lt b hb))
  have HNA := Hid.mk' (negative a ha)
  rw [hna] at HNA
  have HNQ := Hid.mk' (negate (rmod (siz a) (siz b)) (rmod_lt _ _ (siz_lt b hb)))
  clear hna
  obtain ⟨h1, h2, h3, ⟨z1, z2, z3⟩, hB⟩ := held_start w a b 0
  have e0 : put4 (put4 (put4 w a) b) 0 = ((w.alloc (.cells #[.int .u64 (lim a 0), .int .u64 (lim a 1), .int .u64 (lim a 2), .int .u64 (lim a 3)] 24)).alloc (.cells #[.int .u64 (lim b 0), .int .u64 (lim b 1), .int .u64 (lim b 2), .int .u64 (lim b 3)] 24)).alloc (.cells #[.int .u64 0, .int .u64 0, .int .u64 0, .int .u64 0] 24) := by
    unfold put4; simp [lim_z]
  have C2 : Cells4 (put4 (put4 (put4 w a) b) 0) (w.heap.size + 1 + 1) 0 := ⟨h3.1, h3.2.1, h3.2.2.1, h3.2.2.2, by simp [go_sem], by simp [go_sem], by simp [go_sem], by simp [go_sem]⟩
  clear h3
  rw [e0] at h1 h2 z1 z2 z3 hB C2
  clear e0
  go_enter Try.func33, Try.ntmps33
  go_wp2
  generalize ((w.alloc (.cells #[.int .u64 (lim a 0), .int .u64 (lim a 1), .int .u64 (lim a 2), .int .u64 (lim a 3)] 24)).alloc (.cells #[.int .u64 (lim b 0), .int .u64 (lim b 1), .int .u64 (lim b 2), .int .u64 (lim b 3)] 24)).alloc (.cells #[.int .u64 0, .int .u64 0, .int .u64 0, .int .u64 0] 24) = W0 at *
  refine wp_region_held_drew (S := fun W => Below W0.heap.size W0 W) (by kernel_rfl) (Below.refl _ _).drew (fun hH => ?_)
  refine take_d (i := 0) (d := some 6) (v := .agg #[.int .u64 (lim a 0), .int .u64 (lim a 1), .int .u64 (lim a 2), .int .u64 (lim a 3)]) rfl rfl (by kernel_rfl) (by kernel_rfl) (by kernel_rfl) (fun _ _ _ h => h) (Or.inl ⟨by rfl, fun W hW => ?_⟩) hH ?_
  · obtain ⟨k0, k1, k2, k3⟩ := Eq4.keep h1 hW z1
    clear hW hH
    go_simp
  simp only [Act.put, List.setIfInBounds_toArray, List.set_cons_zero, List.set_cons_succ]
  refine take_d (i := 2) (d := some 8) (v := .agg #[.int .u64 (lim b 0), .int .u64 (lim b 1), .int .u64 (lim b 2), .int .u64 (lim b 3)]) rfl rfl (by kernel_rfl) (by kernel_rfl) (by kernel_rfl) (fun _ _ _ h => h) (Or.inl ⟨by rfl, fun W hW => ?_⟩) hH ?_
  · obtain ⟨k0, k1, k2, k3⟩ := Eq4.keep h2 hW z2
    clear hW hH
    go_simp
  simp only [Act.put, List.setIfInBounds_toArray, List.set_cons_zero, List.set_cons_succ]
  refine Nd1.start (f := 4) (ZA := fun W p => Row4 W p 0 0 0 0) (iA := 5) (dA := 5) (oA := .cells #[.int .u64 0, .int .u64 0, .int .u64 0, .int .u64 0] 24) (L := fun x => #[true, false, true, false, false, x, false])
    ⟨fun _ _ _ h => by refine wpOp_step rfl (fun K' hK => ?_); go_simp; exact hK _ _ h, fun W => row4_new W 0 0 0 0, fun _ _ _ hp hb h => h.below hb hp⟩ rfl undef rfl hH (fun R => ?_)
  refine Nd1.step (c := 1) (d := 7) (v := .agg #[.int .u64 (lim (siz a) 0), .int .u64 (lim (siz a) 1), .int .u64 (lim (siz a) 2), .int .u64 (lim (siz a) 3)]) (l := []) (f' := 3) (L' := fun x => #[true, true, true, false, false, x, false]) R rfl rfl (by intro a; cases a <;> kernel_rfl) (by intros; kernel_rfl) rfl (fun X W1 K hH hK => ?_) (fun _ _ _ _ h => h) ?_
  · simp only [Act.put, List.setIfInBounds_toArray, List.set_cons_zero, List.set_cons_succ]
    clear R hH
    go_simp
    refine (HSA.out _).mono ?_
    rintro e Wq ⟨rfl, hbn⟩
    go_wp2_with fail
    exact hK.out _ hbn
  refine Nd1.step (c := 3) (d := 9) (v := .agg #[.int .u64 (lim (siz b) 0), .int .u64 (lim (siz b) 1), .int .u64 (lim (siz b) 2), .int .u64 (lim (siz b) 3)]) (l := []) (f' := 2) (L' := fun x => #[true, true, true, true, false, x, false]) R rfl rfl (by intro a; cases a <;> kernel_rfl) (by intros; kernel_rfl) rfl (fun X W1 K hH hK => ?_) (fun _ _ _ _ h => h) ?_
  · simp only [puts, Act.put, List.setIfInBounds_toArray, List.set_cons_zero, List.set_cons_succ]
    clear R hH
    go_simp
    refine (HSB.out _).mono ?_
    rintro e Wq ⟨rfl, hbn⟩
    go_wp2_with fail
    exact hK.out _ hbn
  refine Nd1.step (c := 4) (d := 10) (v := .agg #[.int .u64 (lim (rmod (siz a) (siz b)) 0), .int .u64 (lim (rmod (siz a) (siz b)) 1), .int .u64 (lim (rmod (siz a) (siz b)) 2), .int .u64 (lim (rmod (siz a) (siz b)) 3)]) (l := []) (f' := 1) (L' := fun x => #[true, true, true, true, true, x, false]) R rfl rfl (by intro a; cases a <;> kernel_rfl) (by intros; kernel_rfl) rfl (fun X W1 K hH hK => ?_) (fun _ _ _ _ h => h) ?_
  · simp only [puts, Act.put, List.setIfInBounds_toArray, List.set_cons_zero, List.set_cons_succ]
    clear R hH
    go_simp
    refine (HIN.out _).mono ?_
    rintro e Wq ⟨rfl, hbn⟩
    go_wp2_with fail
    exact hK.out _ hbn
  refine Nd1.last (f := 1) R (by kernel_rfl) (by intros; kernel_rfl) rfl (fun p W1 hH hp hp' R5 => ?_)
  simp only [puts, ptr, Act.put, List.setIfInBounds_toArray, List.set_cons_zero, List.set_cons_succ]
  clear R
  obtain ⟨e0, e1, e2, e3, ef⟩ := id R5
  have ef0 := ef 0 (by decide); have ef1 := ef 1 (by decide); have ef2 := ef 2 (by decide); have ef3 := ef 3 (by decide)
  clear ef
  have ho : Only W1 ((((W1.setCell ⟨p, 0, none⟩ (.int .u64 (lim (rmod (siz a) (siz b)) 0))).setCell ⟨p, 1, none⟩ (.int .u64 (lim (rmod (siz a) (siz b)) 1))).setCell ⟨p, 2, none⟩ (.int .u64 (lim (rmod (siz a) (siz b)) 2))).setCell ⟨p, 3, none⟩ (.int .u64 (lim (rmod (siz a) (siz b)) 3))) p 0 4 := ((((Only.refl _ _ _ _).setCell _ _ (by omega) (by omega)).setCell _ _ (by omega) (by omega)).setCell _ _ (by omega) (by omega)).setCell _ _ (by omega) (by omega)
  replace R5 : Row4 ((((W1.setCell ⟨p, 0, none⟩ (.int .u64 (lim (rmod (siz a) (siz b)) 0))).setCell ⟨p, 1, none⟩ (.int .u64 (lim (rmod (siz a) (siz b)) 1))).setCell ⟨p, 2, none⟩ (.int .u64 (lim (rmod (siz a) (siz b)) 2))).setCell ⟨p, 3, none⟩ (.int .u64 (lim (rmod (siz a) (siz b)) 3))) p (lim (rmod (siz a) (siz b)) 0) (lim (rmod (siz a) (siz b)) 1) (lim (rmod (siz a) (siz b)) 2) (lim (rmod (siz a) (siz b)) 3) := ⟨by simp [go_sem, e0], by simp [go_sem, e1], by simp [go_sem, e2], by simp [go_sem, e3], fun j hj => (ho.frozen j).trans (R5.fz j hj)⟩
  have hB9 := hH.trans (ho.below (by omega))
  have hz := Nat.le_of_eq ho.size.symm
  clear ho
  refine wpAnyH_ready (rs := [6]) (by kernel_rfl) (by simp) ?_
  refine AllReadyH.cons rfl (fun K hK => ?_) AllReadyH.nil
  go_simp
  refine hK.out _ _ hB9 (fun hH => ?_)
  clear hK K e0 e1 e2 e3 ef0 ef1 ef2 ef3 hB9
  generalize ((((W1.setCell ⟨p, 0, none⟩ (.int .u64 (lim (rmod (siz a) (siz b)) 0))).setCell ⟨p, 1, none⟩ (.int .u64 (lim (rmod (siz a) (siz b)) 1))).setCell ⟨p, 2, none⟩ (.int .u64 (lim (rmod (siz a) (siz b)) 2))).setCell ⟨p, 3, none⟩ (.int .u64 (lim (rmod (siz a) (siz b)) 3))) = W2 at hH hz R5 ⊢
  refine wpAnyH_done (by kernel_rfl) ?_ _
  have hb5 : p < W2.heap.size := by omega
  obtain ⟨k0, k1, k2, k3⟩ := Eq4.keep h1 hH z1
  go_wp2_with fail
  refine (HNA.out _).mono ?_
  rintro e wp ⟨rfl, hbn⟩
  replace R5 := R5.below hbn hb5
  replace hH := below_over0 hH hbn
  clear k0 k1 k2 k3 hbn
  obtain ⟨e0, e1, e2, e3, -⟩ := R5
  obtain ⟨x0, x1, x2, x3, x4, x5, x6, x7⟩ := C2.below hH z3
  go_wp2
  simp [bodyPost, results, Try.results33, go_sem, x0, x1, x2, x3]
  exact set4_below (hB.trans (hH.mono hB.size)) (by omega) _

/-- The signed rest. -/
def smd (a b : Nat) : Nat := if neg a then opp (rmod (siz a) (siz b)) else rmod (siz a) (siz b)
theorem smod (a b : Nat) (ha : a < M) (hb : b < M) (w : World) : Calls Try.prog 33 #[wd a, wd b] w fun e w' => e = .returned (wd (smd a b)) ∧ Below w.heap.size w w' := by
  unfold smd
  cases hna : neg a
  · exact smod_f a b ha hb hna w
  · exact smod_t a b ha hb hna w

end Go.Proofs.Ytbephahokhnccaa

