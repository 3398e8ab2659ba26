/-
  number.Div at this program: what it returns.
  number.Mod at this program: what it returns.
  number.AddMod at this program: what it returns.
  number.MulMod at this program: what it returns.
-/
import Derived.Test.YtbephahokhnccaaDv
import Derived.Test.YtbephahokhnccaaHeld
import Derived.Test.YtbephahokhnccaaExp
import Derived.Test.YtbephahokhnccaaCh
namespace Go.Proofs.Ytbephahokhnccaa
open Go.RowKit Go.Shelf
attribute [local go_sem] wd dbl

theorem below_over0 {W0 W w' : World} (h : Below W0.heap.size W0 W) (hb : Below W.heap.size W w') : Below W0.heap.size W0 w' := h.trans (hb.mono h.size)
theorem Hid.mk' {p : Prop} (h : p) : Hid p := h

set_option maxHeartbeats 8000000 in
theorem div (a b : Nat) (ha : a < M) (hb : b < M) (w : World) :
    Calls Try.prog 30 #[wd a, wd b] w fun e w' => e = .returned (wd (a / b)) ∧ Below w.heap.size w w' := by
  have hlt : a < M * M := Nat.lt_of_lt_of_le ha (Nat.le_mul_of_pos_left M M_pos)
  have hwi := widen a 0 ha (by decide)
  have hdv := divide a b hlt hb
  simp only [Nat.zero_mul, Nat.add_zero, Int.cast_ofNat_Int] at hwi
  have HWI := Hid.mk' hwi
  have HDV := Hid.mk' hdv
  clear hwi hdv
  obtain ⟨h1, h2, h3, ⟨z1, z2, z3⟩, hB⟩ := held_start w a b 0
  have e0 : put4 (put4 (put4 w a) b) 0 = ((w.alloc (.cells #[.int .u64 (lim a 0), .int .u64 (lim a 1), .int .u64 (lim a 2), .int .u64 (lim a 3)] 24)).alloc (.cells #[.int .u64 (lim b 0), .int .u64 (lim b 1), .int .u64 (lim b 2), .int .u64 (lim b 3)] 24)).alloc (.cells #[.int .u64 0, .int .u64 0, .int .u64 0, .int .u64 0] 24) := by
    unfold put4; simp [lim_z]
  have C2 : Cells4 (put4 (put4 (put4 w a) b) 0) (w.heap.size + 1 + 1) 0 := ⟨h3.1, h3.2.1, h3.2.2.1, h3.2.2.2, by simp [go_sem], by simp [go_sem], by simp [go_sem], by simp [go_sem]⟩
  clear h3
  rw [e0] at h1 h2 z1 z2 z3 hB C2
  clear e0
  go_enter Try.func30, Try.ntmps30
  go_wp2
  generalize ((w.alloc (.cells #[.int .u64 (lim a 0), .int .u64 (lim a 1), .int .u64 (lim a 2), .int .u64 (lim a 3)] 24)).alloc (.cells #[.int .u64 (lim b 0), .int .u64 (lim b 1), .int .u64 (lim b 2), .int .u64 (lim b 3)] 24)).alloc (.cells #[.int .u64 0, .int .u64 0, .int .u64 0, .int .u64 0] 24) = W0 at *
  refine wp_region_held_drew (S := fun W => Below W0.heap.size W0 W) (by kernel_rfl) (Below.refl _ _).drew (fun hH => ?_)
  refine take_d (i := 0) (d := some 8) (v := .agg #[.int .u64 (lim a 0), .int .u64 (lim a 1), .int .u64 (lim a 2), .int .u64 (lim a 3)]) rfl rfl (by kernel_rfl) (by kernel_rfl) (by kernel_rfl) (fun _ _ _ h => h) (Or.inl ⟨by rfl, fun W hW => ?_⟩) hH ?_
  · obtain ⟨k0, k1, k2, k3⟩ := Eq4.keep h1 hW z1
    clear hW hH
    go_simp
  simp only [Act.put, List.setIfInBounds_toArray, List.set_cons_zero, List.set_cons_succ]
  refine take_d (i := 2) (d := some 10) (v := .agg #[.int .u64 (lim b 0), .int .u64 (lim b 1), .int .u64 (lim b 2), .int .u64 (lim b 3)]) rfl rfl (by kernel_rfl) (by kernel_rfl) (by kernel_rfl) (fun _ _ _ h => h) (Or.inl ⟨by rfl, fun W hW => ?_⟩) hH ?_
  · obtain ⟨k0, k1, k2, k3⟩ := Eq4.keep h2 hW z2
    clear hW hH
    go_simp
  simp only [Act.put, List.setIfInBounds_toArray, List.set_cons_zero, List.set_cons_succ]
  refine Nd.start (f := 7) (ZA := fun W p => Row8 W p 0 0 0 0 0 0 0 0) (ZB := fun W p => Row4 W p 0 0 0 0) (iA := 7) (iB := 8) (dA := 5) (dB := 6) (oA := .cells #[.int .u64 0, .int .u64 0, .int .u64 0, .int .u64 0, .int .u64 0, .int .u64 0, .int .u64 0, .int .u64 0] 56) (oB := .cells #[.int .u64 0, .int .u64 0, .int .u64 0, .int .u64 0] 24) (L := fun x y => #[true, false, true, false, false, false, false, x, y, false, false])
    ⟨fun _ _ _ h => by refine wpOp_step rfl (fun K' hK => ?_); go_simp; exact hK _ _ h, fun _ _ _ h => by refine wpOp_step rfl (fun K' hK => ?_); go_simp; exact hK _ _ h, fun W => row8_new W 0 0 0 0 0 0 0 0, fun W => row4_new W 0 0 0 0, fun _ _ _ hp hb h => h.below hb hp, fun _ _ _ hp hb h => h.below hb hp⟩ rfl undef undef rfl hH (fun R => ?_)
  refine Nd.step (c := 1) (d := 9) (v := .agg #[.int .u64 (lim a 0), .int .u64 (lim a 1), .int .u64 (lim a 2), .int .u64 (lim a 3), .int .u64 (lim a 4), .int .u64 (lim a 5), .int .u64 (lim a 6), .int .u64 (lim a 7)]) (l := []) (f' := 6) (L' := fun x y => #[true, true, true, false, false, false, false, x, y, false, false]) R rfl rfl (by intro a b; cases a <;> cases b <;> kernel_rfl) (by intros; kernel_rfl) (by intros; kernel_rfl) (fun _ => rfl) (fun _ => rfl) (fun X Y W1 K hH hK => ?_) (fun _ _ _ _ _ _ h => h) ?_
  · simp only [Act.put, List.setIfInBounds_toArray, List.set_cons_zero, List.set_cons_succ]
    clear R hH
    go_simp
    refine (HWI.out _).mono ?_
    rintro e Wq ⟨rfl, hbn⟩
    go_wp2_with fail
    exact hK.out _ hbn
  refine Nd.step (c := 3) (d := 11) (v := .tuple #[.agg #[.int .u64 (lim (a / b) 0), .int .u64 (lim (a / b) 1), .int .u64 (lim (a / b) 2), .int .u64 (lim (a / b) 3), .int .u64 (lim (a / b) 4), .int .u64 (lim (a / b) 5), .int .u64 (lim (a / b) 6), .int .u64 (lim (a / b) 7)], .agg #[.int .u64 (lim (rmod a b) 0), .int .u64 (lim (rmod a b) 1), .int .u64 (lim (rmod a b) 2), .int .u64 (lim (rmod a b) 3)]]) (l := [(7, .tuple #[.agg #[.int .u64 (lim (a / b) 0), .int .u64 (lim (a / b) 1), .int .u64 (lim (a / b) 2), .int .u64 (lim (a / b) 3), .int .u64 (lim (a / b) 4), .int .u64 (lim (a / b) 5), .int .u64 (lim (a / b) 6), .int .u64 (lim (a / b) 7)], .agg #[.int .u64 (lim (rmod a b) 0), .int .u64 (lim (rmod a b) 1), .int .u64 (lim (rmod a b) 2), .int .u64 (lim (rmod a b) 3)]]), (12, .agg #[.int .u64 (lim (a / b) 0), .int .u64 (lim (a / b) 1), .int .u64 (lim (a / b) 2), .int .u64 (lim (a / b) 3), .int .u64 (lim (a / b) 4), .int .u64 (lim (a / b) 5), .int .u64 (lim (a / b) 6), .int .u64 (lim (a / b) 7)]), (13, .agg #[.int .u64 (lim (rmod a b) 0), .int .u64 (lim (rmod a b) 1), .int .u64 (lim (rmod a b) 2), .int .u64 (lim (rmod a b) 3)])]) (f' := 2) (L' := fun x y => #[true, true, true, true, true, true, true, x, y, false, false]) R rfl rfl (by intro a b; cases a <;> cases b <;> kernel_rfl) (by intros; kernel_rfl) (by intros; kernel_rfl) (fun _ => rfl) (fun _ => rfl) (fun X Y W1 K hH hK => ?_) (fun x y X Y W1 hH hK => ?_) ?_
  · simp only [puts, Act.put, List.setIfInBounds_toArray, List.set_cons_zero, List.set_cons_succ]
    clear R hH
    go_simp
    refine (HDV.out _).mono ?_
    rintro e Wq ⟨rfl, hbn⟩
    go_wp2_with fail
    exact hK.out _ hbn
  · simp only [puts, Act.put, List.setIfInBounds_toArray, List.set_cons_zero, List.set_cons_succ]
    clear R
    refine take_d (i := 4) (d := some 7) (v := .tuple #[.agg #[.int .u64 (lim (a / b) 0), .int .u64 (lim (a / b) 1), .int .u64 (lim (a / b) 2), .int .u64 (lim (a / b) 3), .int .u64 (lim (a / b) 4), .int .u64 (lim (a / b) 5), .int .u64 (lim (a / b) 6), .int .u64 (lim (a / b) 7)], .agg #[.int .u64 (lim (rmod a b) 0), .int .u64 (lim (rmod a b) 1), .int .u64 (lim (rmod a b) 2), .int .u64 (lim (rmod a b) 3)]]) rfl rfl (by kernel_rfl) (by cases x <;> cases y <;> kernel_rfl) (by cases x <;> cases y <;> kernel_rfl) (fun _ _ _ h => h) (Or.inl ⟨by rfl, fun W hW => ?_⟩) hH ?_
    · clear hW hH hK
      go_simp
    simp only [Act.put, List.setIfInBounds_toArray, List.set_cons_zero, List.set_cons_succ]
    refine take_d (i := 5) (d := some 12) (v := .agg #[.int .u64 (lim (a / b) 0), .int .u64 (lim (a / b) 1), .int .u64 (lim (a / b) 2), .int .u64 (lim (a / b) 3), .int .u64 (lim (a / b) 4), .int .u64 (lim (a / b) 5), .int .u64 (lim (a / b) 6), .int .u64 (lim (a / b) 7)]) rfl rfl (by kernel_rfl) (by cases x <;> cases y <;> kernel_rfl) (by cases x <;> cases y <;> kernel_rfl) (fun _ _ _ h => h) (Or.inl ⟨by rfl, fun W hW => ?_⟩) hH ?_
    · clear hW hH hK
      go_simp
    simp only [Act.put, List.setIfInBounds_toArray, List.set_cons_zero, List.set_cons_succ]
    refine take_d (i := 6) (d := some 13) (v := .agg #[.int .u64 (lim (rmod a b) 0), .int .u64 (lim (rmod a b) 1), .int .u64 (lim (rmod a b) 2), .int .u64 (lim (rmod a b) 3)]) rfl rfl (by kernel_rfl) (by cases x <;> cases y <;> kernel_rfl) (by cases x <;> cases y <;> kernel_rfl) (fun _ _ _ h => h) (Or.inl ⟨by rfl, fun W hW => ?_⟩) hH ?_
    · clear hW hH hK
      go_simp
    simp only [Act.put, List.setIfInBounds_toArray, List.set_cons_zero, List.set_cons_succ]
    exact hK.out
  refine Nd.last (f := 1) R (by kernel_rfl) (by kernel_rfl) (by kernel_rfl) (by intros; kernel_rfl) (by intros; kernel_rfl) (fun _ => rfl) (fun _ => rfl) (fun p Q W1 hH hp hp' hq hq' hpq R5 R6 => ?_)
  simp only [puts, ptr, Act.put, List.setIfInBounds_toArray, List.set_cons_zero, List.set_cons_succ]
  clear R
  obtain ⟨e0, e1, e2, e3, e4, e5, e6, e7, ef⟩ := id R5
  have ef0 := ef 0 (by decide); have ef1 := ef 1 (by decide); have ef2 := ef 2 (by decide); have ef3 := ef 3 (by decide); have ef4 := ef 4 (by decide); have ef5 := ef 5 (by decide); have ef6 := ef 6 (by decide); have ef7 := ef 7 (by decide)
  clear ef
  have ho : Only W1 ((((((((W1.setCell ⟨p, 0, none⟩ (.int .u64 (lim (a / b) 0))).setCell ⟨p, 1, none⟩ (.int .u64 (lim (a / b) 1))).setCell ⟨p, 2, none⟩ (.int .u64 (lim (a / b) 2))).setCell ⟨p, 3, none⟩ (.int .u64 (lim (a / b) 3))).setCell ⟨p, 4, none⟩ (.int .u64 (lim (a / b) 4))).setCell ⟨p, 5, none⟩ (.int .u64 (lim (a / b) 5))).setCell ⟨p, 6, none⟩ (.int .u64 (lim (a / b) 6))).setCell ⟨p, 7, none⟩ (.int .u64 (lim (a / b) 7))) p 0 8 := ((((((((Only.refl _ _ _ _).setCell _ _ (by omega) (by omega)).setCell _ _ (by omega) (by omega)).setCell _ _ (by omega) (by omega)).setCell _ _ (by omega) (by omega)).setCell _ _ (by omega) (by omega)).setCell _ _ (by omega) (by omega)).setCell _ _ (by omega) (by omega)).setCell _ _ (by omega) (by omega)
  replace R6 := R6.only ho (by omega)
  replace R5 := ((((((((R5.put0 (lim (a / b) 0)).put1 (lim (a / b) 1)).put2 (lim (a / b) 2)).put3 (lim (a / b) 3)).put4 (lim (a / b) 4)).put5 (lim (a / b) 5)).put6 (lim (a / b) 6)).put7 (lim (a / b) 7))
  have hB9 := hH.trans (ho.below (by omega))
  have hz := Nat.le_of_eq ho.size.symm
  clear ho
  refine wpAnyH_ready (rs := [9]) (by kernel_rfl) (by simp) ?_
  refine AllReadyH.cons rfl (fun K hK => ?_) AllReadyH.nil
  go_simp
  refine hK.out _ _ hB9 (fun hH => ?_)
  clear hK K e0 e1 e2 e3 e4 e5 e6 e7 ef0 ef1 ef2 ef3 ef4 ef5 ef6 ef7 hB9
  generalize ((((((((W1.setCell ⟨p, 0, none⟩ (.int .u64 (lim (a / b) 0))).setCell ⟨p, 1, none⟩ (.int .u64 (lim (a / b) 1))).setCell ⟨p, 2, none⟩ (.int .u64 (lim (a / b) 2))).setCell ⟨p, 3, none⟩ (.int .u64 (lim (a / b) 3))).setCell ⟨p, 4, none⟩ (.int .u64 (lim (a / b) 4))).setCell ⟨p, 5, none⟩ (.int .u64 (lim (a / b) 5))).setCell ⟨p, 6, none⟩ (.int .u64 (lim (a / b) 6))).setCell ⟨p, 7, none⟩ (.int .u64 (lim (a / b) 7))) = W2 at hH hz R6 R5 ⊢
  obtain ⟨e0, e1, e2, e3, ef⟩ := id R6
  have ef0 := ef 0 (by decide); have ef1 := ef 1 (by decide); have ef2 := ef 2 (by decide); have ef3 := ef 3 (by decide)
  clear ef
  have ho : Only W2 ((((W2.setCell ⟨Q, 0, none⟩ (.int .u64 (lim (rmod a b) 0))).setCell ⟨Q, 1, none⟩ (.int .u64 (lim (rmod a b) 1))).setCell ⟨Q, 2, none⟩ (.int .u64 (lim (rmod a b) 2))).setCell ⟨Q, 3, none⟩ (.int .u64 (lim (rmod a b) 3))) Q 0 4 := ((((Only.refl _ _ _ _).setCell _ _ (by omega) (by omega)).setCell _ _ (by omega) (by omega)).setCell _ _ (by omega) (by omega)).setCell _ _ (by omega) (by omega)
  replace R5 := R5.only ho (by omega)
  have hB9 := hH.trans (ho.below (by omega))
  have hz := Nat.le_of_eq ho.size.symm
  clear ho
  refine wpAnyH_ready (rs := [10]) (by kernel_rfl) (by simp) ?_
  refine AllReadyH.cons rfl (fun K hK => ?_) AllReadyH.nil
  go_simp
  refine hK.out _ _ hB9 (fun hH => ?_)
  clear hK K e0 e1 e2 e3 ef0 ef1 ef2 ef3 hB9 R6
  generalize ((((W2.setCell ⟨Q, 0, none⟩ (.int .u64 (lim (rmod a b) 0))).setCell ⟨Q, 1, none⟩ (.int .u64 (lim (rmod a b) 1))).setCell ⟨Q, 2, none⟩ (.int .u64 (lim (rmod a b) 2))).setCell ⟨Q, 3, none⟩ (.int .u64 (lim (rmod a b) 3))) = W3 at hH hz R5 ⊢
  refine wpAnyH_done (by kernel_rfl) ?_ _
  obtain ⟨e0, e1, e2, e3, e4, e5, e6, e7, -⟩ := R5
  go_wp2_with fail
  refine (low (a / b) _).mono ?_
  rintro e wl ⟨rfl, hbl⟩
  have hTl := below_over0 hH hbl
  obtain ⟨x0, x1, x2, x3, x4, x5, x6, x7⟩ := C2.below hTl z3
  clear e0 e1 e2 e3 e4 e5 e6 e7 hbl
  go_wp2
  simp [bodyPost, results, Try.results30, go_sem, x0, x1, x2, x3]
  exact set4_below (hB.trans (hTl.mono hB.size)) (by omega) _

end Go.Proofs.Ytbephahokhnccaa

namespace Go.Proofs.Ytbephahokhnccaa
open Go.RowKit Go.Shelf
attribute [local go_sem] wd dbl

set_option maxHeartbeats 8000000 in
theorem mod (a b : Nat) (ha : a < M) (hb : b < M) (w : World) :
    Calls Try.prog 31 #[wd a, wd b] w fun e w' => e = .returned (wd (rmod a b)) ∧ Below w.heap.size w w' := by
  have hlt : a < M * M := Nat.lt_of_lt_of_le ha (Nat.le_mul_of_pos_left M M_pos)
  have hwi := widen a 0 ha (by decide)
  have hdv := divide a b hlt hb
  simp only [Nat.zero_mul, Nat.add_zero, Int.cast_ofNat_Int] at hwi
  have HWI := Hid.mk' hwi
  have HDV := Hid.mk' hdv
  clear hwi hdv
  obtain ⟨h1, h2, h3, ⟨z1, z2, z3⟩, hB⟩ := held_start w a b 0
  have e0 : put4 (put4 (put4 w a) b) 0 = ((w.alloc (.cells #[.int .u64 (lim a 0), .int .u64 (lim a 1), .int .u64 (lim a 2), .int .u64 (lim a 3)] 24)).alloc (.cells #[.int .u64 (lim b 0), .int .u64 (lim b 1), .int .u64 (lim b 2), .int .u64 (lim b 3)] 24)).alloc (.cells #[.int .u64 0, .int .u64 0, .int .u64 0, .int .u64 0] 24) := by
    unfold put4; simp [lim_z]
  have C2 : Cells4 (put4 (put4 (put4 w a) b) 0) (w.heap.size + 1 + 1) 0 := ⟨h3.1, h3.2.1, h3.2.2.1, h3.2.2.2, by simp [go_sem], by simp [go_sem], by simp [go_sem], by simp [go_sem]⟩
  clear h3
  rw [e0] at h1 h2 z1 z2 z3 hB C2
  clear e0
  go_enter Try.func31, Try.ntmps31
  go_wp2
  generalize ((w.alloc (.cells #[.int .u64 (lim a 0), .int .u64 (lim a 1), .int .u64 (lim a 2), .int .u64 (lim a 3)] 24)).alloc (.cells #[.int .u64 (lim b 0), .int .u64 (lim b 1), .int .u64 (lim b 2), .int .u64 (lim b 3)] 24)).alloc (.cells #[.int .u64 0, .int .u64 0, .int .u64 0, .int .u64 0] 24) = W0 at *
  refine wp_region_held_drew (S := fun W => Below W0.heap.size W0 W) (by kernel_rfl) (Below.refl _ _).drew (fun hH => ?_)
  refine take_d (i := 0) (d := some 8) (v := .agg #[.int .u64 (lim a 0), .int .u64 (lim a 1), .int .u64 (lim a 2), .int .u64 (lim a 3)]) rfl rfl (by kernel_rfl) (by kernel_rfl) (by kernel_rfl) (fun _ _ _ h => h) (Or.inl ⟨by rfl, fun W hW => ?_⟩) hH ?_
  · obtain ⟨k0, k1, k2, k3⟩ := Eq4.keep h1 hW z1
    clear hW hH
    go_simp
  simp only [Act.put, List.setIfInBounds_toArray, List.set_cons_zero, List.set_cons_succ]
  refine take_d (i := 2) (d := some 10) (v := .agg #[.int .u64 (lim b 0), .int .u64 (lim b 1), .int .u64 (lim b 2), .int .u64 (lim b 3)]) rfl rfl (by kernel_rfl) (by kernel_rfl) (by kernel_rfl) (fun _ _ _ h => h) (Or.inl ⟨by rfl, fun W hW => ?_⟩) hH ?_
  · obtain ⟨k0, k1, k2, k3⟩ := Eq4.keep h2 hW z2
    clear hW hH
    go_simp
  simp only [Act.put, List.setIfInBounds_toArray, List.set_cons_zero, List.set_cons_succ]
  refine Nd.start (f := 7) (ZA := fun W p => Row8 W p 0 0 0 0 0 0 0 0) (ZB := fun W p => Row4 W p 0 0 0 0) (iA := 7) (iB := 8) (dA := 5) (dB := 6) (oA := .cells #[.int .u64 0, .int .u64 0, .int .u64 0, .int .u64 0, .int .u64 0, .int .u64 0, .int .u64 0, .int .u64 0] 56) (oB := .cells #[.int .u64 0, .int .u64 0, .int .u64 0, .int .u64 0] 24) (L := fun x y => #[true, false, true, false, false, false, false, x, y, false, false])
    ⟨fun _ _ _ h => by refine wpOp_step rfl (fun K' hK => ?_); go_simp; exact hK _ _ h, fun _ _ _ h => by refine wpOp_step rfl (fun K' hK => ?_); go_simp; exact hK _ _ h, fun W => row8_new W 0 0 0 0 0 0 0 0, fun W => row4_new W 0 0 0 0, fun _ _ _ hp hb h => h.below hb hp, fun _ _ _ hp hb h => h.below hb hp⟩ rfl undef undef rfl hH (fun R => ?_)
  refine Nd.step (c := 1) (d := 9) (v := .agg #[.int .u64 (lim a 0), .int .u64 (lim a 1), .int .u64 (lim a 2), .int .u64 (lim a 3), .int .u64 (lim a 4), .int .u64 (lim a 5), .int .u64 (lim a 6), .int .u64 (lim a 7)]) (l := []) (f' := 6) (L' := fun x y => #[true, true, true, false, false, false, false, x, y, false, false]) R rfl rfl (by intro a b; cases a <;> cases b <;> kernel_rfl) (by intros; kernel_rfl) (by intros; kernel_rfl) (fun _ => rfl) (fun _ => rfl) (fun X Y W1 K hH hK => ?_) (fun _ _ _ _ _ _ h => h) ?_
  · simp only [Act.put, List.setIfInBounds_toArray, List.set_cons_zero, List.set_cons_succ]
    clear R hH
    go_simp
    refine (HWI.out _).mono ?_
    rintro e Wq ⟨rfl, hbn⟩
    go_wp2_with fail
    exact hK.out _ hbn
  refine Nd.step (c := 3) (d := 11) (v := .tuple #[.agg #[.int .u64 (lim (a / b) 0), .int .u64 (lim (a / b) 1), .int .u64 (lim (a / b) 2), .int .u64 (lim (a / b) 3), .int .u64 (lim (a / b) 4), .int .u64 (lim (a / b) 5), .int .u64 (lim (a / b) 6), .int .u64 (lim (a / b) 7)], .agg #[.int .u64 (lim (rmod a b) 0), .int .u64 (lim (rmod a b) 1), .int .u64 (lim (rmod a b) 2), .int .u64 (lim (rmod a b) 3)]]) (l := [(7, .tuple #[.agg #[.int .u64 (lim (a / b) 0), .int .u64 (lim (a / b) 1), .int .u64 (lim (a / b) 2), .int .u64 (lim (a / b) 3), .int .u64 (lim (a / b) 4), .int .u64 (lim (a / b) 5), .int .u64 (lim (a / b) 6), .int .u64 (lim (a / b) 7)], .agg #[.int .u64 (lim (rmod a b) 0), .int .u64 (lim (rmod a b) 1), .int .u64 (lim (rmod a b) 2), .int .u64 (lim (rmod a b) 3)]]), (12, .agg #[.int .u64 (lim (a / b) 0), .int .u64 (lim (a / b) 1), .int .u64 (lim (a / b) 2), .int .u64 (lim (a / b) 3), .int .u64 (lim (a / b) 4), .int .u64 (lim (a / b) 5), .int .u64 (lim (a / b) 6), .int .u64 (lim (a / b) 7)]), (13, .agg #[.int .u64 (lim (rmod a b) 0), .int .u64 (lim (rmod a b) 1), .int .u64 (lim (rmod a b) 2), .int .u64 (lim (rmod a b) 3)])]) (f' := 2) (L' := fun x y => #[true, true, true, true, true, true, true, x, y, false, false]) R rfl rfl (by intro a b; cases a <;> cases b <;> kernel_rfl) (by intros; kernel_rfl) (by intros; kernel_rfl) (fun _ => rfl) (fun _ => rfl) (fun X Y W1 K hH hK => ?_) (fun x y X Y W1 hH hK => ?_) ?_
  · simp only [puts, Act.put, List.setIfInBounds_toArray, List.set_cons_zero, List.set_cons_succ]
    clear R hH
    go_simp
    refine (HDV.out _).mono ?_
    rintro e Wq ⟨rfl, hbn⟩
    go_wp2_with fail
    exact hK.out _ hbn
  · simp only [puts, Act.put, List.setIfInBounds_toArray, List.set_cons_zero, List.set_cons_succ]
    clear R
    refine take_d (i := 4) (d := some 7) (v := .tuple #[.agg #[.int .u64 (lim (a / b) 0), .int .u64 (lim (a / b) 1), .int .u64 (lim (a / b) 2), .int .u64 (lim (a / b) 3), .int .u64 (lim (a / b) 4), .int .u64 (lim (a / b) 5), .int .u64 (lim (a / b) 6), .int .u64 (lim (a / b) 7)], .agg #[.int .u64 (lim (rmod a b) 0), .int .u64 (lim (rmod a b) 1), .int .u64 (lim (rmod a b) 2), .int .u64 (lim (rmod a b) 3)]]) rfl rfl (by kernel_rfl) (by cases x <;> cases y <;> kernel_rfl) (by cases x <;> cases y <;> kernel_rfl) (fun _ _ _ h => h) (Or.inl ⟨by rfl, fun W hW => ?_⟩) hH ?_
    · clear hW hH hK
      go_simp
    simp only [Act.put, List.setIfInBounds_toArray, List.set_cons_zero, List.set_cons_succ]
    refine take_d (i := 5) (d := some 12) (v := .agg #[.int .u64 (lim (a / b) 0), .int .u64 (lim (a / b) 1), .int .u64 (lim (a / b) 2), .int .u64 (lim (a / b) 3), .int .u64 (lim (a / b) 4), .int .u64 (lim (a / b) 5), .int .u64 (lim (a / b) 6), .int .u64 (lim (a / b) 7)]) rfl rfl (by kernel_rfl) (by cases x <;> cases y <;> kernel_rfl) (by cases x <;> cases y <;> kernel_rfl) (fun _ _ _ h => h) (Or.inl ⟨by rfl, fun W hW => ?_⟩) hH ?_
    · clear hW hH hK
      go_simp
    simp only [Act.put, List.setIfInBounds_toArray, List.set_cons_zero, List.set_cons_succ]
    refine take_d (i := 6) (d := some 13) (v := .agg #[.int .u64 (lim (rmod a b) 0), .int .u64 (lim (rmod a b) 1), .int .u64 (lim (rmod a b) 2), .int .u64 (lim (rmod a b) 3)]) rfl rfl (by kernel_rfl) (by cases x <;> cases y <;> kernel_rfl) (by cases x <;> cases y <;> kernel_rfl) (fun _ _ _ h => h) (Or.inl ⟨by rfl, fun W hW => ?_⟩) hH ?_
    · clear hW hH hK
      go_simp
    simp only [Act.put, List.setIfInBounds_toArray, List.set_cons_zero, List.set_cons_succ]
    exact hK.out
  refine Nd.last (f := 1) R (by kernel_rfl) (by kernel_rfl) (by kernel_rfl) (by intros; kernel_rfl) (by intros; kernel_rfl) (fun _ => rfl) (fun _ => rfl) (fun p Q W1 hH hp hp' hq hq' hpq R5 R6 => ?_)
  simp only [puts, ptr, Act.put, List.setIfInBounds_toArray, List.set_cons_zero, List.set_cons_succ]
  clear R
  obtain ⟨e0, e1, e2, e3, e4, e5, e6, e7, ef⟩ := id R5
  have ef0 := ef 0 (by decide); have ef1 := ef 1 (by decide); have ef2 := ef 2 (by decide); have ef3 := ef 3 (by decide); have ef4 := ef 4 (by decide); have ef5 := ef 5 (by decide); have ef6 := ef 6 (by decide); have ef7 := ef 7 (by decide)
  clear ef
  have ho : Only W1 ((((((((W1.setCell ⟨p, 0, none⟩ (.int .u64 (lim (a / b) 0))).setCell ⟨p, 1, none⟩ (.int .u64 (lim (a / b) 1))).setCell ⟨p, 2, none⟩ (.int .u64 (lim (a / b) 2))).setCell ⟨p, 3, none⟩ (.int .u64 (lim (a / b) 3))).setCell ⟨p, 4, none⟩ (.int .u64 (lim (a / b) 4))).setCell ⟨p, 5, none⟩ (.int .u64 (lim (a / b) 5))).setCell ⟨p, 6, none⟩ (.int .u64 (lim (a / b) 6))).setCell ⟨p, 7, none⟩ (.int .u64 (lim (a / b) 7))) p 0 8 := ((((((((Only.refl _ _ _ _).setCell _ _ (by omega) (by omega)).setCell _ _ (by omega) (by omega)).setCell _ _ (by omega) (by omega)).setCell _ _ (by omega) (by omega)).setCell _ _ (by omega) (by omega)).setCell _ _ (by omega) (by omega)).setCell _ _ (by omega) (by omega)).setCell _ _ (by omega) (by omega)
  replace R6 := R6.only ho (by omega)
  have hB9 := hH.trans (ho.below (by omega))
  have hz := Nat.le_of_eq ho.size.symm
  clear ho
  refine wpAnyH_ready (rs := [9]) (by kernel_rfl) (by simp) ?_
  refine AllReadyH.cons rfl (fun K hK => ?_) AllReadyH.nil
  go_simp
  refine hK.out _ _ hB9 (fun hH => ?_)
  clear hK K e0 e1 e2 e3 e4 e5 e6 e7 ef0 ef1 ef2 ef3 ef4 ef5 ef6 ef7 hB9 R5
  generalize ((((((((W1.setCell ⟨p, 0, none⟩ (.int .u64 (lim (a / b) 0))).setCell ⟨p, 1, none⟩ (.int .u64 (lim (a / b) 1))).setCell ⟨p, 2, none⟩ (.int .u64 (lim (a / b) 2))).setCell ⟨p, 3, none⟩ (.int .u64 (lim (a / b) 3))).setCell ⟨p, 4, none⟩ (.int .u64 (lim (a / b) 4))).setCell ⟨p, 5, none⟩ (.int .u64 (lim (a / b) 5))).setCell ⟨p, 6, none⟩ (.int .u64 (lim (a / b) 6))).setCell ⟨p, 7, none⟩ (.int .u64 (lim (a / b) 7))) = W2 at hH hz R6 ⊢
  obtain ⟨e0, e1, e2, e3, ef⟩ := id R6
  have ef0 := ef 0 (by decide); have ef1 := ef 1 (by decide); have ef2 := ef 2 (by decide); have ef3 := ef 3 (by decide)
  clear ef
  have ho : Only W2 ((((W2.setCell ⟨Q, 0, none⟩ (.int .u64 (lim (rmod a b) 0))).setCell ⟨Q, 1, none⟩ (.int .u64 (lim (rmod a b) 1))).setCell ⟨Q, 2, none⟩ (.int .u64 (lim (rmod a b) 2))).setCell ⟨Q, 3, none⟩ (.int .u64 (lim (rmod a b) 3))) Q 0 4 := ((((Only.refl _ _ _ _).setCell _ _ (by omega) (by omega)).setCell _ _ (by omega) (by omega)).setCell _ _ (by omega) (by omega)).setCell _ _ (by omega) (by omega)
  replace R6 : Row4 ((((W2.setCell ⟨Q, 0, none⟩ (.int .u64 (lim (rmod a b) 0))).setCell ⟨Q, 1, none⟩ (.int .u64 (lim (rmod a b) 1))).setCell ⟨Q, 2, none⟩ (.int .u64 (lim (rmod a b) 2))).setCell ⟨Q, 3, none⟩ (.int .u64 (lim (rmod a b) 3))) Q (lim (rmod a b) 0) (lim (rmod a b) 1) (lim (rmod a b) 2) (lim (rmod a b) 3) := ⟨by simp [go_sem, e0], by simp [go_sem, e1], by simp [go_sem, e2], by simp [go_sem, e3], fun j hj => (ho.frozen j).trans (R6.fz j hj)⟩
  have hB9 := hH.trans (ho.below (by omega))
  have hz := Nat.le_of_eq ho.size.symm
  clear ho
  refine wpAnyH_ready (rs := [10]) (by kernel_rfl) (by simp) ?_
  refine AllReadyH.cons rfl (fun K hK => ?_) AllReadyH.nil
  go_simp
  refine hK.out _ _ hB9 (fun hH => ?_)
  clear hK K e0 e1 e2 e3 ef0 ef1 ef2 ef3 hB9
  generalize ((((W2.setCell ⟨Q, 0, none⟩ (.int .u64 (lim (rmod a b) 0))).setCell ⟨Q, 1, none⟩ (.int .u64 (lim (rmod a b) 1))).setCell ⟨Q, 2, none⟩ (.int .u64 (lim (rmod a b) 2))).setCell ⟨Q, 3, none⟩ (.int .u64 (lim (rmod a b) 3))) = W3 at hH hz R6 ⊢
  refine wpAnyH_done (by kernel_rfl) ?_ _
  obtain ⟨e0, e1, e2, e3, -⟩ := R6
  obtain ⟨x0, x1, x2, x3, x4, x5, x6, x7⟩ := C2.below hH z3
  go_wp2
  simp [bodyPost, results, Try.results31, go_sem, x0, x1, x2, x3]
  exact set4_below (hB.trans (hH.mono hB.size)) (by omega) _

end Go.Proofs.Ytbephahokhnccaa

namespace Go.Proofs.Ytbephahokhnccaa
open Go.RowKit Go.Shelf
attribute [local go_sem] wd dbl

set_option maxHeartbeats 16000000 in
theorem addMod (a b c : Nat) (ha : a < M) (hb : b < M) (hc : c < M) (w : World) :
    Calls Try.prog 34 #[wd a, wd b, wd c] w fun e w' => e = .returned (wd (rmod (a + b) c)) ∧ Below w.heap.size w w' := by
  have hcy : (a + b) / M ≤ 1 := by unfold M at *; omega
  have hsm : (a + b) % M < M := Nat.mod_lt _ M_pos
  have eab : (a + b) % M + (a + b) / M * M = a + b := Nat.mod_add_div' (a + b) M
  have hlt : a + b < M * M := by unfold M at *; omega
  have hwi := widen ((a + b) % M) ((a + b) / M) hsm hcy
  rw [eab] at hwi
  have HSU := Hid.mk' (sum a b ha hb)
  have HWI := Hid.mk' hwi
  have HDV := Hid.mk' (divide (a + b) c hlt hc)
  clear hwi eab hcy hsm
  obtain ⟨h1, h2, h3, h4, ⟨z1, z2, z3, z4⟩, hB⟩ := (held_start w a b c).put 0
  have e0 : put4 (put4 (put4 (put4 w a) b) c) 0 = (((w.alloc (.cells #[.int .u64 (lim a 0), .int .u64 (lim a 1), .int .u64 (lim a 2), .int .u64 (lim a 3)] 24)).alloc (.cells #[.int .u64 (lim b 0), .int .u64 (lim b 1), .int .u64 (lim b 2), .int .u64 (lim b 3)] 24)).alloc (.cells #[.int .u64 (lim c 0), .int .u64 (lim c 1), .int .u64 (lim c 2), .int .u64 (lim c 3)] 24)).alloc (.cells #[.int .u64 0, .int .u64 0, .int .u64 0, .int .u64 0] 24) := by
    unfold put4; simp [lim_z]
  have es : (put4 (put4 (put4 w a) b) c).heap.size = w.heap.size + 1 + 1 + 1 := by simp
  rw [es] at h4 z4
  have C2 : Cells4 (put4 (put4 (put4 (put4 w a) b) c) 0) (w.heap.size + 1 + 1 + 1) 0 := ⟨h4.1, h4.2.1, h4.2.2.1, h4.2.2.2, by simp [go_sem], by simp [go_sem], by simp [go_sem], by simp [go_sem]⟩
  clear h4 es
  rw [e0] at h1 h2 h3 z1 z2 z3 z4 hB C2
  clear e0
  go_enter Try.func34, Try.ntmps34
  go_wp2
  generalize (((w.alloc (.cells #[.int .u64 (lim a 0), .int .u64 (lim a 1), .int .u64 (lim a 2), .int .u64 (lim a 3)] 24)).alloc (.cells #[.int .u64 (lim b 0), .int .u64 (lim b 1), .int .u64 (lim b 2), .int .u64 (lim b 3)] 24)).alloc (.cells #[.int .u64 (lim c 0), .int .u64 (lim c 1), .int .u64 (lim c 2), .int .u64 (lim c 3)] 24)).alloc (.cells #[.int .u64 0, .int .u64 0, .int .u64 0, .int .u64 0] 24) = W0 at *
  refine wp_region_held_drew (S := fun W => Below W0.heap.size W0 W) (by kernel_rfl) (Below.refl _ _).drew (fun hH => ?_)
  refine take_d (i := 0) (d := some 10) (v := .agg #[.int .u64 (lim a 0), .int .u64 (lim a 1), .int .u64 (lim a 2), .int .u64 (lim a 3)]) rfl rfl (by kernel_rfl) (by kernel_rfl) (by kernel_rfl) (fun _ _ _ h => h) (Or.inl ⟨by rfl, fun W hW => ?_⟩) hH ?_
  · obtain ⟨k0, k1, k2, k3⟩ := Eq4.keep h1 hW z1
    clear hW hH
    go_simp
  simp only [Act.put, List.setIfInBounds_toArray, List.set_cons_zero, List.set_cons_succ]
  refine take_d (i := 1) (d := some 11) (v := .agg #[.int .u64 (lim b 0), .int .u64 (lim b 1), .int .u64 (lim b 2), .int .u64 (lim b 3)]) rfl rfl (by kernel_rfl) (by kernel_rfl) (by kernel_rfl) (fun _ _ _ h => h) (Or.inl ⟨by rfl, fun W hW => ?_⟩) hH ?_
  · obtain ⟨k0, k1, k2, k3⟩ := Eq4.keep h2 hW z2
    clear hW hH
    go_simp
  simp only [Act.put, List.setIfInBounds_toArray, List.set_cons_zero, List.set_cons_succ]
  refine take_d (i := 6) (d := some 16) (v := .agg #[.int .u64 (lim c 0), .int .u64 (lim c 1), .int .u64 (lim c 2), .int .u64 (lim c 3)]) rfl rfl (by kernel_rfl) (by kernel_rfl) (by kernel_rfl) (fun _ _ _ h => h) (Or.inl ⟨by rfl, fun W hW => ?_⟩) hH ?_
  · obtain ⟨k0, k1, k2, k3⟩ := Eq4.keep h3 hW z3
    clear hW hH
    go_simp
  simp only [Act.put, List.setIfInBounds_toArray, List.set_cons_zero, List.set_cons_succ]
  refine Nd.start (f := 10) (ZA := fun W p => Row8 W p 0 0 0 0 0 0 0 0) (ZB := fun W p => Row4 W p 0 0 0 0) (iA := 11) (iB := 12) (dA := 7) (dB := 8) (oA := .cells #[.int .u64 0, .int .u64 0, .int .u64 0, .int .u64 0, .int .u64 0, .int .u64 0, .int .u64 0, .int .u64 0] 56) (oB := .cells #[.int .u64 0, .int .u64 0, .int .u64 0, .int .u64 0] 24) (L := fun x y => #[true, true, false, false, false, false, true, false, false, false, false, x, y, false, false])
    ⟨fun _ _ _ h => by refine wpOp_step rfl (fun K' hK => ?_); go_simp; exact hK _ _ h, fun _ _ _ h => by refine wpOp_step rfl (fun K' hK => ?_); go_simp; exact hK _ _ h, fun W => row8_new W 0 0 0 0 0 0 0 0, fun W => row4_new W 0 0 0 0, fun _ _ _ hp hb h => h.below hb hp, fun _ _ _ hp hb h => h.below hb hp⟩ rfl undef undef rfl hH (fun R => ?_)
  refine Nd.step (c := 2) (d := 12) (v := .tuple #[.agg #[.int .u64 (lim ((a + b) % M) 0), .int .u64 (lim ((a + b) % M) 1), .int .u64 (lim ((a + b) % M) 2), .int .u64 (lim ((a + b) % M) 3)], .int .u64 (((a + b) / M : Nat) : Int)]) (l := [(13, .agg #[.int .u64 (lim ((a + b) % M) 0), .int .u64 (lim ((a + b) % M) 1), .int .u64 (lim ((a + b) % M) 2), .int .u64 (lim ((a + b) % M) 3)]), (14, .int .u64 (((a + b) / M : Nat) : Int))]) (f' := 7) (L' := fun x y => #[true, true, true, true, true, false, true, false, false, false, false, x, y, false, false]) R rfl rfl (by intro a b; cases a <;> cases b <;> kernel_rfl) (by intros; kernel_rfl) (by intros; kernel_rfl) (fun _ => rfl) (fun _ => rfl) (fun X Y W1 K hH hK => ?_) (fun x y X Y W1 hH hK => ?_) ?_
  · simp only [Act.put, List.setIfInBounds_toArray, List.set_cons_zero, List.set_cons_succ] at hK ⊢
    clear R hH
    go_simp
    refine (HSU.out _).mono ?_
    rintro e Wq ⟨rfl, hbn⟩
    go_wp2_with fail
    exact hK.out _ hbn
  · simp only [Act.put, List.setIfInBounds_toArray, List.set_cons_zero, List.set_cons_succ] at hK ⊢
    clear R
    refine take_d (i := 3) (d := some 13) (v := .agg #[.int .u64 (lim ((a + b) % M) 0), .int .u64 (lim ((a + b) % M) 1), .int .u64 (lim ((a + b) % M) 2), .int .u64 (lim ((a + b) % M) 3)]) rfl rfl (by kernel_rfl) (by cases x <;> cases y <;> kernel_rfl) (by cases x <;> cases y <;> kernel_rfl) (fun _ _ _ h => h) (Or.inl ⟨by rfl, fun W hW => ?_⟩) hH ?_
    · clear hW hH hK
      go_simp
    simp only [Act.put, List.setIfInBounds_toArray, List.set_cons_zero, List.set_cons_succ]
    refine take_d (i := 4) (d := some 14) (v := .int .u64 (((a + b) / M : Nat) : Int)) rfl rfl (by kernel_rfl) (by cases x <;> cases y <;> kernel_rfl) (by cases x <;> cases y <;> kernel_rfl) (fun _ _ _ h => h) (Or.inl ⟨by rfl, fun W hW => ?_⟩) hH ?_
    · clear hW hH hK
      go_simp
    simp only [Act.put, List.setIfInBounds_toArray, List.set_cons_zero, List.set_cons_succ]
    exact hK.out
  refine Nd.step (c := 5) (d := 15) (v := .agg #[.int .u64 (lim (a + b) 0), .int .u64 (lim (a + b) 1), .int .u64 (lim (a + b) 2), .int .u64 (lim (a + b) 3), .int .u64 (lim (a + b) 4), .int .u64 (lim (a + b) 5), .int .u64 (lim (a + b) 6), .int .u64 (lim (a + b) 7)]) (l := []) (f' := 6) (L' := fun x y => #[true, true, true, true, true, true, true, false, false, false, false, x, y, false, false]) R rfl rfl (by intro a b; cases a <;> cases b <;> kernel_rfl) (by intros; kernel_rfl) (by intros; kernel_rfl) (fun _ => rfl) (fun _ => rfl) (fun X Y W1 K hH hK => ?_) (fun _ _ _ _ _ _ h => h) ?_
  · simp only [puts, Act.put, List.setIfInBounds_toArray, List.set_cons_zero, List.set_cons_succ] at hK ⊢
    clear R hH
    go_simp
    refine (HWI.out _).mono ?_
    rintro e Wq ⟨rfl, hbn⟩
    go_wp2_with fail
    exact hK.out _ hbn
  refine Nd.step (c := 7) (d := 17) (v := .tuple #[.agg #[.int .u64 (lim ((a + b) / c) 0), .int .u64 (lim ((a + b) / c) 1), .int .u64 (lim ((a + b) / c) 2), .int .u64 (lim ((a + b) / c) 3), .int .u64 (lim ((a + b) / c) 4), .int .u64 (lim ((a + b) / c) 5), .int .u64 (lim ((a + b) / c) 6), .int .u64 (lim ((a + b) / c) 7)], .agg #[.int .u64 (lim (rmod (a + b) c) 0), .int .u64 (lim (rmod (a + b) c) 1), .int .u64 (lim (rmod (a + b) c) 2), .int .u64 (lim (rmod (a + b) c) 3)]]) (l := [(9, .tuple #[.agg #[.int .u64 (lim ((a + b) / c) 0), .int .u64 (lim ((a + b) / c) 1), .int .u64 (lim ((a + b) / c) 2), .int .u64 (lim ((a + b) / c) 3), .int .u64 (lim ((a + b) / c) 4), .int .u64 (lim ((a + b) / c) 5), .int .u64 (lim ((a + b) / c) 6), .int .u64 (lim ((a + b) / c) 7)], .agg #[.int .u64 (lim (rmod (a + b) c) 0), .int .u64 (lim (rmod (a + b) c) 1), .int .u64 (lim (rmod (a + b) c) 2), .int .u64 (lim (rmod (a + b) c) 3)]]), (18, .agg #[.int .u64 (lim ((a + b) / c) 0), .int .u64 (lim ((a + b) / c) 1), .int .u64 (lim ((a + b) / c) 2), .int .u64 (lim ((a + b) / c) 3), .int .u64 (lim ((a + b) / c) 4), .int .u64 (lim ((a + b) / c) 5), .int .u64 (lim ((a + b) / c) 6), .int .u64 (lim ((a + b) / c) 7)]), (19, .agg #[.int .u64 (lim (rmod (a + b) c) 0), .int .u64 (lim (rmod (a + b) c) 1), .int .u64 (lim (rmod (a + b) c) 2), .int .u64 (lim (rmod (a + b) c) 3)])]) (f' := 2) (L' := fun x y => #[true, true, true, true, true, true, true, true, true, true, true, x, y, false, false]) R rfl rfl (by intro a b; cases a <;> cases b <;> kernel_rfl) (by intros; kernel_rfl) (by intros; kernel_rfl) (fun _ => rfl) (fun _ => rfl) (fun X Y W1 K hH hK => ?_) (fun x y X Y W1 hH hK => ?_) ?_
  · simp only [puts, Act.put, List.setIfInBounds_toArray, List.set_cons_zero, List.set_cons_succ] at hK ⊢
    clear R hH
    go_simp
    refine (HDV.out _).mono ?_
    rintro e Wq ⟨rfl, hbn⟩
    go_wp2_with fail
    exact hK.out _ hbn
  · simp only [puts, Act.put, List.setIfInBounds_toArray, List.set_cons_zero, List.set_cons_succ] at hK ⊢
    clear R
    refine take_d (i := 8) (d := some 9) (v := .tuple #[.agg #[.int .u64 (lim ((a + b) / c) 0), .int .u64 (lim ((a + b) / c) 1), .int .u64 (lim ((a + b) / c) 2), .int .u64 (lim ((a + b) / c) 3), .int .u64 (lim ((a + b) / c) 4), .int .u64 (lim ((a + b) / c) 5), .int .u64 (lim ((a + b) / c) 6), .int .u64 (lim ((a + b) / c) 7)], .agg #[.int .u64 (lim (rmod (a + b) c) 0), .int .u64 (lim (rmod (a + b) c) 1), .int .u64 (lim (rmod (a + b) c) 2), .int .u64 (lim (rmod (a + b) c) 3)]]) rfl rfl (by kernel_rfl) (by cases x <;> cases y <;> kernel_rfl) (by cases x <;> cases y <;> kernel_rfl) (fun _ _ _ h => h) (Or.inl ⟨by rfl, fun W hW => ?_⟩) hH ?_
    · clear hW hH hK
      go_simp
    simp only [Act.put, List.setIfInBounds_toArray, List.set_cons_zero, List.set_cons_succ]
    refine take_d (i := 9) (d := some 18) (v := .agg #[.int .u64 (lim ((a + b) / c) 0), .int .u64 (lim ((a + b) / c) 1), .int .u64 (lim ((a + b) / c) 2), .int .u64 (lim ((a + b) / c) 3), .int .u64 (lim ((a + b) / c) 4), .int .u64 (lim ((a + b) / c) 5), .int .u64 (lim ((a + b) / c) 6), .int .u64 (lim ((a + b) / c) 7)]) rfl rfl (by kernel_rfl) (by cases x <;> cases y <;> kernel_rfl) (by cases x <;> cases y <;> kernel_rfl) (fun _ _ _ h => h) (Or.inl ⟨by rfl, fun W hW => ?_⟩) hH ?_
    · clear hW hH hK
      go_simp
    simp only [Act.put, List.setIfInBounds_toArray, List.set_cons_zero, List.set_cons_succ]
    refine take_d (i := 10) (d := some 19) (v := .agg #[.int .u64 (lim (rmod (a + b) c) 0), .int .u64 (lim (rmod (a + b) c) 1), .int .u64 (lim (rmod (a + b) c) 2), .int .u64 (lim (rmod (a + b) c) 3)]) rfl rfl (by kernel_rfl) (by cases x <;> cases y <;> kernel_rfl) (by cases x <;> cases y <;> kernel_rfl) (fun _ _ _ h => h) (Or.inl ⟨by rfl, fun W hW => ?_⟩) hH ?_
    · clear hW hH hK
      go_simp
    simp only [Act.put, List.setIfInBounds_toArray, List.set_cons_zero, List.set_cons_succ]
    exact hK.out
  refine Nd.last (f := 1) R (by kernel_rfl) (by kernel_rfl) (by kernel_rfl) (by intros; kernel_rfl) (by intros; kernel_rfl) (fun _ => rfl) (fun _ => rfl) (fun p Q W1 hH hp hp' hq hq' hpq R5 R6 => ?_)
  simp only [puts, ptr, Act.put, List.setIfInBounds_toArray, List.set_cons_zero, List.set_cons_succ]
  clear R
  obtain ⟨e0, e1, e2, e3, e4, e5, e6, e7, ef⟩ := id R5
  have ef0 := ef 0 (by decide); have ef1 := ef 1 (by decide); have ef2 := ef 2 (by decide); have ef3 := ef 3 (by decide); have ef4 := ef 4 (by decide); have ef5 := ef 5 (by decide); have ef6 := ef 6 (by decide); have ef7 := ef 7 (by decide)
  clear ef
  have ho : Only W1 ((((((((W1.setCell ⟨p, 0, none⟩ (.int .u64 (lim ((a + b) / c) 0))).setCell ⟨p, 1, none⟩ (.int .u64 (lim ((a + b) / c) 1))).setCell ⟨p, 2, none⟩ (.int .u64 (lim ((a + b) / c) 2))).setCell ⟨p, 3, none⟩ (.int .u64 (lim ((a + b) / c) 3))).setCell ⟨p, 4, none⟩ (.int .u64 (lim ((a + b) / c) 4))).setCell ⟨p, 5, none⟩ (.int .u64 (lim ((a + b) / c) 5))).setCell ⟨p, 6, none⟩ (.int .u64 (lim ((a + b) / c) 6))).setCell ⟨p, 7, none⟩ (.int .u64 (lim ((a + b) / c) 7))) p 0 8 := ((((((((Only.refl _ _ _ _).setCell _ _ (by omega) (by omega)).setCell _ _ (by omega) (by omega)).setCell _ _ (by omega) (by omega)).setCell _ _ (by omega) (by omega)).setCell _ _ (by omega) (by omega)).setCell _ _ (by omega) (by omega)).setCell _ _ (by omega) (by omega)).setCell _ _ (by omega) (by omega)
  replace R6 := R6.only ho (by omega)
  have hB9 := hH.trans (ho.below (by omega))
  have hz := Nat.le_of_eq ho.size.symm
  clear ho
  refine wpAnyH_ready (rs := [13]) (by kernel_rfl) (by simp) ?_
  refine AllReadyH.cons rfl (fun K hK => ?_) AllReadyH.nil
  go_simp
  refine hK.out _ _ hB9 (fun hH => ?_)
  clear hK K e0 e1 e2 e3 e4 e5 e6 e7 ef0 ef1 ef2 ef3 ef4 ef5 ef6 ef7 hB9 R5
  generalize ((((((((W1.setCell ⟨p, 0, none⟩ (.int .u64 (lim ((a + b) / c) 0))).setCell ⟨p, 1, none⟩ (.int .u64 (lim ((a + b) / c) 1))).setCell ⟨p, 2, none⟩ (.int .u64 (lim ((a + b) / c) 2))).setCell ⟨p, 3, none⟩ (.int .u64 (lim ((a + b) / c) 3))).setCell ⟨p, 4, none⟩ (.int .u64 (lim ((a + b) / c) 4))).setCell ⟨p, 5, none⟩ (.int .u64 (lim ((a + b) / c) 5))).setCell ⟨p, 6, none⟩ (.int .u64 (lim ((a + b) / c) 6))).setCell ⟨p, 7, none⟩ (.int .u64 (lim ((a + b) / c) 7))) = W2 at hH hz R6 ⊢
  obtain ⟨e0, e1, e2, e3, ef⟩ := id R6
  have ef0 := ef 0 (by decide); have ef1 := ef 1 (by decide); have ef2 := ef 2 (by decide); have ef3 := ef 3 (by decide)
  clear ef
  have ho : Only W2 ((((W2.setCell ⟨Q, 0, none⟩ (.int .u64 (lim (rmod (a + b) c) 0))).setCell ⟨Q, 1, none⟩ (.int .u64 (lim (rmod (a + b) c) 1))).setCell ⟨Q, 2, none⟩ (.int .u64 (lim (rmod (a + b) c) 2))).setCell ⟨Q, 3, none⟩ (.int .u64 (lim (rmod (a + b) c) 3))) Q 0 4 := ((((Only.refl _ _ _ _).setCell _ _ (by omega) (by omega)).setCell _ _ (by omega) (by omega)).setCell _ _ (by omega) (by omega)).setCell _ _ (by omega) (by omega)
  replace R6 : Row4 ((((W2.setCell ⟨Q, 0, none⟩ (.int .u64 (lim (rmod (a + b) c) 0))).setCell ⟨Q, 1, none⟩ (.int .u64 (lim (rmod (a + b) c) 1))).setCell ⟨Q, 2, none⟩ (.int .u64 (lim (rmod (a + b) c) 2))).setCell ⟨Q, 3, none⟩ (.int .u64 (lim (rmod (a + b) c) 3))) Q (lim (rmod (a + b) c) 0) (lim (rmod (a + b) c) 1) (lim (rmod (a + b) c) 2) (lim (rmod (a + b) c) 3) := ⟨by simp [go_sem, e0], by simp [go_sem, e1], by simp [go_sem, e2], by simp [go_sem, e3], fun j hj => (ho.frozen j).trans (R6.fz j hj)⟩
  have hB9 := hH.trans (ho.below (by omega))
  have hz := Nat.le_of_eq ho.size.symm
  clear ho
  refine wpAnyH_ready (rs := [14]) (by kernel_rfl) (by simp) ?_
  refine AllReadyH.cons rfl (fun K hK => ?_) AllReadyH.nil
  go_simp
  refine hK.out _ _ hB9 (fun hH => ?_)
  clear hK K e0 e1 e2 e3 ef0 ef1 ef2 ef3 hB9
  generalize ((((W2.setCell ⟨Q, 0, none⟩ (.int .u64 (lim (rmod (a + b) c) 0))).setCell ⟨Q, 1, none⟩ (.int .u64 (lim (rmod (a + b) c) 1))).setCell ⟨Q, 2, none⟩ (.int .u64 (lim (rmod (a + b) c) 2))).setCell ⟨Q, 3, none⟩ (.int .u64 (lim (rmod (a + b) c) 3))) = W3 at hH hz R6 ⊢
  refine wpAnyH_done (by kernel_rfl) ?_ _
  obtain ⟨e0, e1, e2, e3, -⟩ := R6
  obtain ⟨x0, x1, x2, x3, x4, x5, x6, x7⟩ := C2.below hH z4
  go_wp2
  simp [bodyPost, results, Try.results34, go_sem, x0, x1, x2, x3]
  exact set4_below (hB.trans (hH.mono hB.size)) (by omega) _

end Go.Proofs.Ytbephahokhnccaa

namespace Go.Proofs.Ytbephahokhnccaa
open Go.RowKit Go.Shelf
attribute [local go_sem] wd dbl

set_option maxHeartbeats 16000000 in
theorem mulMod (a b c : Nat) (ha : a < M) (hb : b < M) (hc : c < M) (w : World) :
    Calls Try.prog 35 #[wd a, wd b, wd c] w fun e w' => e = .returned (wd (rmod (a * b) c)) ∧ Below w.heap.size w w' := by
  have HP := Hid.mk' (product a b ha hb)
  have HDV := Hid.mk' (divide (a * b) c (Nat.mul_lt_mul'' ha hb) hc)
  obtain ⟨h1, h2, h3, h4, ⟨z1, z2, z3, z4⟩, hB⟩ := (held_start w a b c).put 0
  have e0 : put4 (put4 (put4 (put4 w a) b) c) 0 = (((w.alloc (.cells #[.int .u64 (lim a 0), .int .u64 (lim a 1), .int .u64 (lim a 2), .int .u64 (lim a 3)] 24)).alloc (.cells #[.int .u64 (lim b 0), .int .u64 (lim b 1), .int .u64 (lim b 2), .int .u64 (lim b 3)] 24)).alloc (.cells #[.int .u64 (lim c 0), .int .u64 (lim c 1), .int .u64 (lim c 2), .int .u64 (lim c 3)] 24)).alloc (.cells #[.int .u64 0, .int .u64 0, .int .u64 0, .int .u64 0] 24) := by
    unfold put4; simp [lim_z]
  have es : (put4 (put4 (put4 w a) b) c).heap.size = w.heap.size + 1 + 1 + 1 := by simp
  rw [es] at h4 z4
  have C2 : Cells4 (put4 (put4 (put4 (put4 w a) b) c) 0) (w.heap.size + 1 + 1 + 1) 0 := ⟨h4.1, h4.2.1, h4.2.2.1, h4.2.2.2, by simp [go_sem], by simp [go_sem], by simp [go_sem], by simp [go_sem]⟩
  clear h4 es
  rw [e0] at h1 h2 h3 z1 z2 z3 z4 hB C2
  clear e0
  go_enter Try.func35, Try.ntmps35
  go_wp2
  generalize (((w.alloc (.cells #[.int .u64 (lim a 0), .int .u64 (lim a 1), .int .u64 (lim a 2), .int .u64 (lim a 3)] 24)).alloc (.cells #[.int .u64 (lim b 0), .int .u64 (lim b 1), .int .u64 (lim b 2), .int .u64 (lim b 3)] 24)).alloc (.cells #[.int .u64 (lim c 0), .int .u64 (lim c 1), .int .u64 (lim c 2), .int .u64 (lim c 3)] 24)).alloc (.cells #[.int .u64 0, .int .u64 0, .int .u64 0, .int .u64 0] 24) = W0 at *
  refine wp_region_held_drew (S := fun W => Below W0.heap.size W0 W) (by kernel_rfl) (Below.refl _ _).drew (fun hH => ?_)
  refine take_d (i := 0) (d := some 10) (v := .agg #[.int .u64 (lim a 0), .int .u64 (lim a 1), .int .u64 (lim a 2), .int .u64 (lim a 3)]) rfl rfl (by kernel_rfl) (by kernel_rfl) (by kernel_rfl) (fun _ _ _ h => h) (Or.inl ⟨by rfl, fun W hW => ?_⟩) hH ?_
  · obtain ⟨k0, k1, k2, k3⟩ := Eq4.keep h1 hW z1
    clear hW hH
    go_simp
  simp only [Act.put, List.setIfInBounds_toArray, List.set_cons_zero, List.set_cons_succ]
  refine take_d (i := 1) (d := some 11) (v := .agg #[.int .u64 (lim b 0), .int .u64 (lim b 1), .int .u64 (lim b 2), .int .u64 (lim b 3)]) rfl rfl (by kernel_rfl) (by kernel_rfl) (by kernel_rfl) (fun _ _ _ h => h) (Or.inl ⟨by rfl, fun W hW => ?_⟩) hH ?_
  · obtain ⟨k0, k1, k2, k3⟩ := Eq4.keep h2 hW z2
    clear hW hH
    go_simp
  simp only [Act.put, List.setIfInBounds_toArray, List.set_cons_zero, List.set_cons_succ]
  refine take_d (i := 3) (d := some 13) (v := .agg #[.int .u64 (lim c 0), .int .u64 (lim c 1), .int .u64 (lim c 2), .int .u64 (lim c 3)]) rfl rfl (by kernel_rfl) (by kernel_rfl) (by kernel_rfl) (fun _ _ _ h => h) (Or.inl ⟨by rfl, fun W hW => ?_⟩) hH ?_
  · obtain ⟨k0, k1, k2, k3⟩ := Eq4.keep h3 hW z3
    clear hW hH
    go_simp
  simp only [Act.put, List.setIfInBounds_toArray, List.set_cons_zero, List.set_cons_succ]
  refine Nd.start (f := 7) (ZA := fun W p => Row8 W p 0 0 0 0 0 0 0 0) (ZB := fun W p => Row4 W p 0 0 0 0) (iA := 8) (iB := 9) (dA := 7) (dB := 8) (oA := .cells #[.int .u64 0, .int .u64 0, .int .u64 0, .int .u64 0, .int .u64 0, .int .u64 0, .int .u64 0, .int .u64 0] 56) (oB := .cells #[.int .u64 0, .int .u64 0, .int .u64 0, .int .u64 0] 24) (L := fun x y => #[true, true, false, true, false, false, false, false, x, y, false, false])
    ⟨fun _ _ _ h => by refine wpOp_step rfl (fun K' hK => ?_); go_simp; exact hK _ _ h, fun _ _ _ h => by refine wpOp_step rfl (fun K' hK => ?_); go_simp; exact hK _ _ h, fun W => row8_new W 0 0 0 0 0 0 0 0, fun W => row4_new W 0 0 0 0, fun _ _ _ hp hb h => h.below hb hp, fun _ _ _ hp hb h => h.below hb hp⟩ rfl undef undef rfl hH (fun R => ?_)
  refine Nd.step (c := 2) (d := 12) (v := .agg #[.int .u64 (lim (a * b) 0), .int .u64 (lim (a * b) 1), .int .u64 (lim (a * b) 2), .int .u64 (lim (a * b) 3), .int .u64 (lim (a * b) 4), .int .u64 (lim (a * b) 5), .int .u64 (lim (a * b) 6), .int .u64 (lim (a * b) 7)]) (l := []) (f' := 6) (L' := fun x y => #[true, true, true, true, false, false, false, false, x, y, false, false]) R rfl rfl (by intro a b; cases a <;> cases b <;> kernel_rfl) (by intros; kernel_rfl) (by intros; kernel_rfl) (fun _ => rfl) (fun _ => rfl) (fun X Y W1 K hH hK => ?_) (fun _ _ _ _ _ _ h => h) ?_
  · simp only [Act.put, List.setIfInBounds_toArray, List.set_cons_zero, List.set_cons_succ]
    clear R hH
    go_simp
    refine (HP.out _).mono ?_
    rintro e Wq ⟨rfl, hbn⟩
    go_wp2_with fail
    exact hK.out _ hbn
  refine Nd.step (c := 4) (d := 14) (v := .tuple #[.agg #[.int .u64 (lim (a * b / c) 0), .int .u64 (lim (a * b / c) 1), .int .u64 (lim (a * b / c) 2), .int .u64 (lim (a * b / c) 3), .int .u64 (lim (a * b / c) 4), .int .u64 (lim (a * b / c) 5), .int .u64 (lim (a * b / c) 6), .int .u64 (lim (a * b / c) 7)], .agg #[.int .u64 (lim (rmod (a * b) c) 0), .int .u64 (lim (rmod (a * b) c) 1), .int .u64 (lim (rmod (a * b) c) 2), .int .u64 (lim (rmod (a * b) c) 3)]]) (l := [(9, .tuple #[.agg #[.int .u64 (lim (a * b / c) 0), .int .u64 (lim (a * b / c) 1), .int .u64 (lim (a * b / c) 2), .int .u64 (lim (a * b / c) 3), .int .u64 (lim (a * b / c) 4), .int .u64 (lim (a * b / c) 5), .int .u64 (lim (a * b / c) 6), .int .u64 (lim (a * b / c) 7)], .agg #[.int .u64 (lim (rmod (a * b) c) 0), .int .u64 (lim (rmod (a * b) c) 1), .int .u64 (lim (rmod (a * b) c) 2), .int .u64 (lim (rmod (a * b) c) 3)]]), (15, .agg #[.int .u64 (lim (a * b / c) 0), .int .u64 (lim (a * b / c) 1), .int .u64 (lim (a * b / c) 2), .int .u64 (lim (a * b / c) 3), .int .u64 (lim (a * b / c) 4), .int .u64 (lim (a * b / c) 5), .int .u64 (lim (a * b / c) 6), .int .u64 (lim (a * b / c) 7)]), (16, .agg #[.int .u64 (lim (rmod (a * b) c) 0), .int .u64 (lim (rmod (a * b) c) 1), .int .u64 (lim (rmod (a * b) c) 2), .int .u64 (lim (rmod (a * b) c) 3)])]) (f' := 2) (L' := fun x y => #[true, true, true, true, true, true, true, true, x, y, false, false]) R rfl rfl (by intro a b; cases a <;> cases b <;> kernel_rfl) (by intros; kernel_rfl) (by intros; kernel_rfl) (fun _ => rfl) (fun _ => rfl) (fun X Y W1 K hH hK => ?_) (fun x y X Y W1 hH hK => ?_) ?_
  · simp only [puts, Act.put, List.setIfInBounds_toArray, List.set_cons_zero, List.set_cons_succ]
    clear R hH
    go_simp
    refine (HDV.out _).mono ?_
    rintro e Wq ⟨rfl, hbn⟩
    go_wp2_with fail
    exact hK.out _ hbn
  · simp only [puts, Act.put, List.setIfInBounds_toArray, List.set_cons_zero, List.set_cons_succ]
    clear R
    refine take_d (i := 5) (d := some 9) (v := .tuple #[.agg #[.int .u64 (lim (a * b / c) 0), .int .u64 (lim (a * b / c) 1), .int .u64 (lim (a * b / c) 2), .int .u64 (lim (a * b / c) 3), .int .u64 (lim (a * b / c) 4), .int .u64 (lim (a * b / c) 5), .int .u64 (lim (a * b / c) 6), .int .u64 (lim (a * b / c) 7)], .agg #[.int .u64 (lim (rmod (a * b) c) 0), .int .u64 (lim (rmod (a * b) c) 1), .int .u64 (lim (rmod (a * b) c) 2), .int .u64 (lim (rmod (a * b) c) 3)]]) rfl rfl (by kernel_rfl) (by cases x <;> cases y <;> kernel_rfl) (by cases x <;> cases y <;> kernel_rfl) (fun _ _ _ h => h) (Or.inl ⟨by rfl, fun W hW => ?_⟩) hH ?_
    · clear hW hH hK
      go_simp
    simp only [Act.put, List.setIfInBounds_toArray, List.set_cons_zero, List.set_cons_succ]
    refine take_d (i := 6) (d := some 15) (v := .agg #[.int .u64 (lim (a * b / c) 0), .int .u64 (lim (a * b / c) 1), .int .u64 (lim (a * b / c) 2), .int .u64 (lim (a * b / c) 3), .int .u64 (lim (a * b / c) 4), .int .u64 (lim (a * b / c) 5), .int .u64 (lim (a * b / c) 6), .int .u64 (lim (a * b / c) 7)]) rfl rfl (by kernel_rfl) (by cases x <;> cases y <;> kernel_rfl) (by cases x <;> cases y <;> kernel_rfl) (fun _ _ _ h => h) (Or.inl ⟨by rfl, fun W hW => ?_⟩) hH ?_
    · clear hW hH hK
      go_simp
    simp only [Act.put, List.setIfInBounds_toArray, List.set_cons_zero, List.set_cons_succ]
    refine take_d (i := 7) (d := some 16) (v := .agg #[.int .u64 (lim (rmod (a * b) c) 0), .int .u64 (lim (rmod (a * b) c) 1), .int .u64 (lim (rmod (a * b) c) 2), .int .u64 (lim (rmod (a * b) c) 3)]) rfl rfl (by kernel_rfl) (by cases x <;> cases y <;> kernel_rfl) (by cases x <;> cases y <;> kernel_rfl) (fun _ _ _ h => h) (Or.inl ⟨by rfl, fun W hW => ?_⟩) hH ?_
    · clear hW hH hK
      go_simp
    simp only [Act.put, List.setIfInBounds_toArray, List.set_cons_zero, List.set_cons_succ]
    exact hK.out
  refine Nd.last (f := 1) R (by kernel_rfl) (by kernel_rfl) (by kernel_rfl) (by intros; kernel_rfl) (by intros; kernel_rfl) (fun _ => rfl) (fun _ => rfl) (fun p Q W1 hH hp hp' hq hq' hpq R5 R6 => ?_)
  simp only [puts, ptr, Act.put, List.setIfInBounds_toArray, List.set_cons_zero, List.set_cons_succ]
  clear R
  obtain ⟨e0, e1, e2, e3, e4, e5, e6, e7, ef⟩ := id R5
  have ef0 := ef 0 (by decide); have ef1 := ef 1 (by decide); have ef2 := ef 2 (by decide); have ef3 := ef 3 (by decide); have ef4 := ef 4 (by decide); have ef5 := ef 5 (by decide); have ef6 := ef 6 (by decide); have ef7 := ef 7 (by decide)
  clear ef
  have ho : Only W1 ((((((((W1.setCell ⟨p, 0, none⟩ (.int .u64 (lim (a * b / c) 0))).setCell ⟨p, 1, none⟩ (.int .u64 (lim (a * b / c) 1))).setCell ⟨p, 2, none⟩ (.int .u64 (lim (a * b / c) 2))).setCell ⟨p, 3, none⟩ (.int .u64 (lim (a * b / c) 3))).setCell ⟨p, 4, none⟩ (.int .u64 (lim (a * b / c) 4))).setCell ⟨p, 5, none⟩ (.int .u64 (lim (a * b / c) 5))).setCell ⟨p, 6, none⟩ (.int .u64 (lim (a * b / c) 6))).setCell ⟨p, 7, none⟩ (.int .u64 (lim (a * b / c) 7))) p 0 8 := ((((((((Only.refl _ _ _ _).setCell _ _ (by omega) (by omega)).setCell _ _ (by omega) (by omega)).setCell _ _ (by omega) (by omega)).setCell _ _ (by omega) (by omega)).setCell _ _ (by omega) (by omega)).setCell _ _ (by omega) (by omega)).setCell _ _ (by omega) (by omega)).setCell _ _ (by omega) (by omega)
  replace R6 := R6.only ho (by omega)
  have hB9 := hH.trans (ho.below (by omega))
  have hz := Nat.le_of_eq ho.size.symm
  clear ho
  refine wpAnyH_ready (rs := [10]) (by kernel_rfl) (by simp) ?_
  refine AllReadyH.cons rfl (fun K hK => ?_) AllReadyH.nil
  go_simp
  refine hK.out _ _ hB9 (fun hH => ?_)
  clear hK K e0 e1 e2 e3 e4 e5 e6 e7 ef0 ef1 ef2 ef3 ef4 ef5 ef6 ef7 hB9 R5
  generalize ((((((((W1.setCell ⟨p, 0, none⟩ (.int .u64 (lim (a * b / c) 0))).setCell ⟨p, 1, none⟩ (.int .u64 (lim (a * b / c) 1))).setCell ⟨p, 2, none⟩ (.int .u64 (lim (a * b / c) 2))).setCell ⟨p, 3, none⟩ (.int .u64 (lim (a * b / c) 3))).setCell ⟨p, 4, none⟩ (.int .u64 (lim (a * b / c) 4))).setCell ⟨p, 5, none⟩ (.int .u64 (lim (a * b / c) 5))).setCell ⟨p, 6, none⟩ (.int .u64 (lim (a * b / c) 6))).setCell ⟨p, 7, none⟩ (.int .u64 (lim (a * b / c) 7))) = W2 at hH hz R6 ⊢
  obtain ⟨e0, e1, e2, e3, ef⟩ := id R6
  have ef0 := ef 0 (by decide); have ef1 := ef 1 (by decide); have ef2 := ef 2 (by decide); have ef3 := ef 3 (by decide)
  clear ef
  have ho : Only W2 ((((W2.setCell ⟨Q, 0, none⟩ (.int .u64 (lim (rmod (a * b) c) 0))).setCell ⟨Q, 1, none⟩ (.int .u64 (lim (rmod (a * b) c) 1))).setCell ⟨Q, 2, none⟩ (.int .u64 (lim (rmod (a * b) c) 2))).setCell ⟨Q, 3, none⟩ (.int .u64 (lim (rmod (a * b) c) 3))) Q 0 4 := ((((Only.refl _ _ _ _).setCell _ _ (by omega) (by omega)).setCell _ _ (by omega) (by omega)).setCell _ _ (by omega) (by omega)).setCell _ _ (by omega) (by omega)
  replace R6 : Row4 ((((W2.setCell ⟨Q, 0, none⟩ (.int .u64 (lim (rmod (a * b) c) 0))).setCell ⟨Q, 1, none⟩ (.int .u64 (lim (rmod (a * b) c) 1))).setCell ⟨Q, 2, none⟩ (.int .u64 (lim (rmod (a * b) c) 2))).setCell ⟨Q, 3, none⟩ (.int .u64 (lim (rmod (a * b) c) 3))) Q (lim (rmod (a * b) c) 0) (lim (rmod (a * b) c) 1) (lim (rmod (a * b) c) 2) (lim (rmod (a * b) c) 3) := ⟨by simp [go_sem, e0], by simp [go_sem, e1], by simp [go_sem, e2], by simp [go_sem, e3], fun j hj => (ho.frozen j).trans (R6.fz j hj)⟩
  have hB9 := hH.trans (ho.below (by omega))
  have hz := Nat.le_of_eq ho.size.symm
  clear ho
  refine wpAnyH_ready (rs := [11]) (by kernel_rfl) (by simp) ?_
  refine AllReadyH.cons rfl (fun K hK => ?_) AllReadyH.nil
  go_simp
  refine hK.out _ _ hB9 (fun hH => ?_)
  clear hK K e0 e1 e2 e3 ef0 ef1 ef2 ef3 hB9
  generalize ((((W2.setCell ⟨Q, 0, none⟩ (.int .u64 (lim (rmod (a * b) c) 0))).setCell ⟨Q, 1, none⟩ (.int .u64 (lim (rmod (a * b) c) 1))).setCell ⟨Q, 2, none⟩ (.int .u64 (lim (rmod (a * b) c) 2))).setCell ⟨Q, 3, none⟩ (.int .u64 (lim (rmod (a * b) c) 3))) = W3 at hH hz R6 ⊢
  refine wpAnyH_done (by kernel_rfl) ?_ _
  obtain ⟨e0, e1, e2, e3, -⟩ := R6
  obtain ⟨x0, x1, x2, x3, x4, x5, x6, x7⟩ := C2.below hH z4
  go_wp2
  simp [bodyPost, results, Try.results35, go_sem, x0, x1, x2, x3]
  exact set4_below (hB.trans (hH.mono hB.size)) (by omega) _

end Go.Proofs.Ytbephahokhnccaa

