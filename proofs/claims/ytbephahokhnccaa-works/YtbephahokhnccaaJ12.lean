/-
  purserref.Work at MulMod: what it returns.
  purserref.Work at AddMod: what it returns.
  purserref.divided at Div and Mod: what it returns.
  purserref.divided at SDiv: what it returns.
  purserref.divided at SMod: what it returns.
-/
import Derived.Test.YtbephahokhnccaaJ6
import Derived.Deep.Cut
namespace Go.Proofs.Ytbephahokhnccaa
open Go.RowKit Go.Shelf
attribute [local go_sem] wd

set_option maxHeartbeats 16000000 in
theorem rwork9_w (a b c q r : Nat) (ls : List Value) (H1 : ∀ w : World, Calls Try.prog 15 #[wd a, wd b] w fun e w' => e = .returned (.agg ls.toArray) ∧ Below w.heap.size w w') (H4 : ∀ w : World, Calls Try.prog 18 #[.agg ls.toArray, wd c] w fun e w' => e = .returned (.tuple #[wd q, wd r]) ∧ Below w.heap.size w w') (w : World) :
    Calls Try.prog 8 #[.int .u8 9, wd a, wd b, wd c] w fun e w' => e = .returned (wd r) ∧ Below w.heap.size w w' := by
  obtain ⟨h1, h2, h3, h4, ⟨z1, z2, z3, z4⟩, hB⟩ := (held_start w a b c).put 0
  have e0 : put4 (put4 (put4 (put4 w a) b) c) 0 = (((w.alloc (.cells #[.int .u64 (lim a 0), .int .u64 (lim a 1), .int .u64 (lim a 2), .int .u64 (lim a 3)] 24)).alloc (.cells #[.int .u64 (lim b 0), .int .u64 (lim b 1), .int .u64 (lim b 2), .int .u64 (lim b 3)] 24)).alloc (.cells #[.int .u64 (lim c 0), .int .u64 (lim c 1), .int .u64 (lim c 2), .int .u64 (lim c 3)] 24)).alloc (.cells #[.int .u64 0, .int .u64 0, .int .u64 0, .int .u64 0] 24) := by
    unfold put4; simp [lim_z]
  have es : (put4 (put4 (put4 w a) b) c).heap.size = w.heap.size + 1 + 1 + 1 := by simp
  rw [es] at h4 z4
  have C2 : Cells4 (put4 (put4 (put4 (put4 w a) b) c) 0) (w.heap.size + 1 + 1 + 1) 0 := ⟨h4.1, h4.2.1, h4.2.2.1, h4.2.2.2, by simp [go_sem], by simp [go_sem], by simp [go_sem], by simp [go_sem]⟩
  clear h4 es
  rw [e0] at h1 h2 h3 z1 z2 z3 z4 hB C2
  clear e0
  go_enter Try.func8, Try.ntmps8
  go_upto_region 13 with fail
  generalize (((w.alloc (.cells #[.int .u64 (lim a 0), .int .u64 (lim a 1), .int .u64 (lim a 2), .int .u64 (lim a 3)] 24)).alloc (.cells #[.int .u64 (lim b 0), .int .u64 (lim b 1), .int .u64 (lim b 2), .int .u64 (lim b 3)] 24)).alloc (.cells #[.int .u64 (lim c 0), .int .u64 (lim c 1), .int .u64 (lim c 2), .int .u64 (lim c 3)] 24)).alloc (.cells #[.int .u64 0, .int .u64 0, .int .u64 0, .int .u64 0] 24) = W0 at *
  refine wp_region_held_drew (S := fun W => Below W0.heap.size W0 W) (by kernel_rfl) (Below.refl _ _).drew (fun hH => ?_)
  refine take_d (i := 0) (d := some 63) (v := .agg #[.int .u64 (lim a 0), .int .u64 (lim a 1), .int .u64 (lim a 2), .int .u64 (lim a 3)]) rfl rfl (by kernel_rfl) (by kernel_rfl) (by kernel_rfl) (fun _ _ _ h => h) (Or.inl ⟨by rfl, fun W hW => ?_⟩) hH ?_
  · obtain ⟨k0, k1, k2, k3⟩ := Eq4.keep h1 hW z1
    clear hW hH
    go_simp
  simp only [Act.put, List.setIfInBounds_toArray, List.set_cons_zero, List.set_cons_succ]
  refine take_d (i := 1) (d := some 64) (v := .agg #[.int .u64 (lim b 0), .int .u64 (lim b 1), .int .u64 (lim b 2), .int .u64 (lim b 3)]) rfl rfl (by kernel_rfl) (by kernel_rfl) (by kernel_rfl) (fun _ _ _ h => h) (Or.inl ⟨by rfl, fun W hW => ?_⟩) hH ?_
  · obtain ⟨k0, k1, k2, k3⟩ := Eq4.keep h2 hW z2
    clear hW hH
    go_simp
  simp only [Act.put, List.setIfInBounds_toArray, List.set_cons_zero, List.set_cons_succ]
  refine take_d (i := 3) (d := some 66) (v := .agg #[.int .u64 (lim c 0), .int .u64 (lim c 1), .int .u64 (lim c 2), .int .u64 (lim c 3)]) rfl rfl (by kernel_rfl) (by kernel_rfl) (by kernel_rfl) (fun _ _ _ h => h) (Or.inl ⟨by rfl, fun W hW => ?_⟩) hH ?_
  · obtain ⟨k0, k1, k2, k3⟩ := Eq4.keep h3 hW z3
    clear hW hH
    go_simp
  simp only [Act.put, List.setIfInBounds_toArray, List.set_cons_zero, List.set_cons_succ]
  refine Nd.start (f := 7) (ZA := fun W p => Row4 W p 0 0 0 0) (ZB := fun W p => Row4 W p 0 0 0 0) (iA := 8) (iB := 9) (dA := 11) (dB := 12) (oA := .cells #[.int .u64 0, .int .u64 0, .int .u64 0, .int .u64 0] 24) (oB := .cells #[.int .u64 0, .int .u64 0, .int .u64 0, .int .u64 0] 24) (L := fun x y => #[true, true, false, true, false, false, false, false, x, y, false, false])
    ⟨fun _ _ _ h => by refine wpOp_step rfl (fun K' hK => ?_); go_simp; exact hK _ _ h, fun _ _ _ h => by refine wpOp_step rfl (fun K' hK => ?_); go_simp; exact hK _ _ h, fun W => row4_new W 0 0 0 0, fun W => row4_new W 0 0 0 0, fun _ _ _ hp hb h => h.below hb hp, fun _ _ _ hp hb h => h.below hb hp⟩ rfl undef undef rfl hH (fun R => ?_)
  refine Nd.step (c := 2) (d := 65) (v := .agg ls.toArray) (l := []) (f' := 6) (L' := fun x y => #[true, true, true, true, false, false, false, false, x, y, false, false]) R rfl rfl (by intro a b; cases a <;> cases b <;> kernel_rfl) (by intros; kernel_rfl) (by intros; kernel_rfl) (fun _ => rfl) (fun _ => rfl) (fun X Y W1 K hH hK => ?_) (fun _ _ _ _ _ _ h => h) ?_
  · simp only [Act.put, List.setIfInBounds_toArray, List.set_cons_zero, List.set_cons_succ] at hK ⊢
    clear R hH
    go_simp
    refine (H1 _).mono ?_
    rintro e Wq ⟨rfl, hbn⟩
    go_wp2_with fail
    exact hK.out _ hbn
  refine Nd.step (c := 4) (d := 67) (v := .tuple #[.agg #[.int .u64 (lim q 0), .int .u64 (lim q 1), .int .u64 (lim q 2), .int .u64 (lim q 3)], .agg #[.int .u64 (lim r 0), .int .u64 (lim r 1), .int .u64 (lim r 2), .int .u64 (lim r 3)]]) (l := [(62, .tuple #[.agg #[.int .u64 (lim q 0), .int .u64 (lim q 1), .int .u64 (lim q 2), .int .u64 (lim q 3)], .agg #[.int .u64 (lim r 0), .int .u64 (lim r 1), .int .u64 (lim r 2), .int .u64 (lim r 3)]]), (68, .agg #[.int .u64 (lim q 0), .int .u64 (lim q 1), .int .u64 (lim q 2), .int .u64 (lim q 3)]), (69, .agg #[.int .u64 (lim r 0), .int .u64 (lim r 1), .int .u64 (lim r 2), .int .u64 (lim r 3)])]) (f' := 2) (L' := fun x y => #[true, true, true, true, true, true, true, true, x, y, false, false]) R rfl rfl (by intro a b; cases a <;> cases b <;> kernel_rfl) (by intros; kernel_rfl) (by intros; kernel_rfl) (fun _ => rfl) (fun _ => rfl) (fun X Y W1 K hH hK => ?_) (fun x y X Y W1 hH hK => ?_) ?_
  · simp only [puts, Act.put, List.setIfInBounds_toArray, List.set_cons_zero, List.set_cons_succ] at hK ⊢
    clear R hH
    go_simp
    refine (H4 _).mono ?_
    rintro e Wq ⟨rfl, hbn⟩
    go_wp2_with fail
    exact hK.out _ hbn
  · simp only [puts, Act.put, List.setIfInBounds_toArray, List.set_cons_zero, List.set_cons_succ] at hK ⊢
    clear R
    refine take_d (i := 5) (d := some 62) (v := .tuple #[.agg #[.int .u64 (lim q 0), .int .u64 (lim q 1), .int .u64 (lim q 2), .int .u64 (lim q 3)], .agg #[.int .u64 (lim r 0), .int .u64 (lim r 1), .int .u64 (lim r 2), .int .u64 (lim r 3)]]) rfl rfl (by kernel_rfl) (by cases x <;> cases y <;> kernel_rfl) (by cases x <;> cases y <;> kernel_rfl) (fun _ _ _ h => h) (Or.inl ⟨by rfl, fun W hW => ?_⟩) hH ?_
    · clear hW hH hK
      go_simp
    simp only [Act.put, List.setIfInBounds_toArray, List.set_cons_zero, List.set_cons_succ]
    refine take_d (i := 6) (d := some 68) (v := .agg #[.int .u64 (lim q 0), .int .u64 (lim q 1), .int .u64 (lim q 2), .int .u64 (lim q 3)]) rfl rfl (by kernel_rfl) (by cases x <;> cases y <;> kernel_rfl) (by cases x <;> cases y <;> kernel_rfl) (fun _ _ _ h => h) (Or.inl ⟨by rfl, fun W hW => ?_⟩) hH ?_
    · clear hW hH hK
      go_simp
    simp only [Act.put, List.setIfInBounds_toArray, List.set_cons_zero, List.set_cons_succ]
    refine take_d (i := 7) (d := some 69) (v := .agg #[.int .u64 (lim r 0), .int .u64 (lim r 1), .int .u64 (lim r 2), .int .u64 (lim r 3)]) rfl rfl (by kernel_rfl) (by cases x <;> cases y <;> kernel_rfl) (by cases x <;> cases y <;> kernel_rfl) (fun _ _ _ h => h) (Or.inl ⟨by rfl, fun W hW => ?_⟩) hH ?_
    · clear hW hH hK
      go_simp
    simp only [Act.put, List.setIfInBounds_toArray, List.set_cons_zero, List.set_cons_succ]
    exact hK.out
  refine Nd.last (f := 1) R (by kernel_rfl) (by kernel_rfl) (by kernel_rfl) (by intros; kernel_rfl) (by intros; kernel_rfl) (fun _ => rfl) (fun _ => rfl) (fun p Q W1 hH hp hp' hq hq' hpq R5 R6 => ?_)
  simp only [puts, ptr, Act.put, List.setIfInBounds_toArray, List.set_cons_zero, List.set_cons_succ]
  clear R
  obtain ⟨e0, e1, e2, e3, ef⟩ := id R5
  have ef0 := ef 0 (by decide); have ef1 := ef 1 (by decide); have ef2 := ef 2 (by decide); have ef3 := ef 3 (by decide)
  clear ef
  have ho : Only W1 ((((W1.setCell ⟨p, 0, none⟩ (.int .u64 (lim q 0))).setCell ⟨p, 1, none⟩ (.int .u64 (lim q 1))).setCell ⟨p, 2, none⟩ (.int .u64 (lim q 2))).setCell ⟨p, 3, none⟩ (.int .u64 (lim q 3))) p 0 4 := ((((Only.refl _ _ _ _).setCell _ _ (by omega) (by omega)).setCell _ _ (by omega) (by omega)).setCell _ _ (by omega) (by omega)).setCell _ _ (by omega) (by omega)
  replace R6 := R6.only ho (by omega)
  have hB9 := hH.trans (ho.below (by omega))
  have hz := Nat.le_of_eq ho.size.symm
  clear ho
  refine wpAnyH_ready (rs := [10]) (by kernel_rfl) (by simp) ?_
  refine AllReadyH.cons rfl (fun K hK => ?_) AllReadyH.nil
  go_simp
  refine hK.out _ _ hB9 (fun hH => ?_)
  clear hK K e0 e1 e2 e3 ef0 ef1 ef2 ef3 hB9 R5
  generalize ((((W1.setCell ⟨p, 0, none⟩ (.int .u64 (lim q 0))).setCell ⟨p, 1, none⟩ (.int .u64 (lim q 1))).setCell ⟨p, 2, none⟩ (.int .u64 (lim q 2))).setCell ⟨p, 3, none⟩ (.int .u64 (lim q 3))) = W2 at hH hz R6 ⊢
  obtain ⟨e0, e1, e2, e3, ef⟩ := id R6
  have ef0 := ef 0 (by decide); have ef1 := ef 1 (by decide); have ef2 := ef 2 (by decide); have ef3 := ef 3 (by decide)
  clear ef
  have ho : Only W2 ((((W2.setCell ⟨Q, 0, none⟩ (.int .u64 (lim r 0))).setCell ⟨Q, 1, none⟩ (.int .u64 (lim r 1))).setCell ⟨Q, 2, none⟩ (.int .u64 (lim r 2))).setCell ⟨Q, 3, none⟩ (.int .u64 (lim r 3))) Q 0 4 := ((((Only.refl _ _ _ _).setCell _ _ (by omega) (by omega)).setCell _ _ (by omega) (by omega)).setCell _ _ (by omega) (by omega)).setCell _ _ (by omega) (by omega)
  replace R6 : Row4 ((((W2.setCell ⟨Q, 0, none⟩ (.int .u64 (lim r 0))).setCell ⟨Q, 1, none⟩ (.int .u64 (lim r 1))).setCell ⟨Q, 2, none⟩ (.int .u64 (lim r 2))).setCell ⟨Q, 3, none⟩ (.int .u64 (lim r 3))) Q (lim r 0) (lim r 1) (lim r 2) (lim r 3) := ⟨by simp [go_sem, e0], by simp [go_sem, e1], by simp [go_sem, e2], by simp [go_sem, e3], fun j hj => (ho.frozen j).trans (R6.fz j hj)⟩
  have hB9 := hH.trans (ho.below (by omega))
  have hz := Nat.le_of_eq ho.size.symm
  clear ho
  refine wpAnyH_ready (rs := [11]) (by kernel_rfl) (by simp) ?_
  refine AllReadyH.cons rfl (fun K hK => ?_) AllReadyH.nil
  go_simp
  refine hK.out _ _ hB9 (fun hH => ?_)
  clear hK K e0 e1 e2 e3 ef0 ef1 ef2 ef3 hB9
  generalize ((((W2.setCell ⟨Q, 0, none⟩ (.int .u64 (lim r 0))).setCell ⟨Q, 1, none⟩ (.int .u64 (lim r 1))).setCell ⟨Q, 2, none⟩ (.int .u64 (lim r 2))).setCell ⟨Q, 3, none⟩ (.int .u64 (lim r 3))) = W3 at hH hz R6 ⊢
  refine wpAnyH_done (by kernel_rfl) ?_ _
  obtain ⟨e0, e1, e2, e3, -⟩ := R6
  obtain ⟨x0, x1, x2, x3, x4, x5, x6, x7⟩ := C2.below hH z4
  go_wp2
  simp [bodyPost, results, Try.results8, go_sem, x0, x1, x2, x3]
  exact set4_below (hB.trans (hH.mono hB.size)) (by omega) _

end Go.Proofs.Ytbephahokhnccaa

namespace Go.Proofs.Ytbephahokhnccaa
open Go.RowKit Go.Shelf
attribute [local go_sem] wd

set_option maxHeartbeats 16000000 in
theorem rwork8_w (a b c q r : Nat) (la lb ls : List Value) (H1 : ∀ w : World, Calls Try.prog 19 #[wd a] w fun e w' => e = .returned (.agg la.toArray) ∧ Below w.heap.size w w') (H2 : ∀ w : World, Calls Try.prog 19 #[wd b] w fun e w' => e = .returned (.agg lb.toArray) ∧ Below w.heap.size w w') (H3 : ∀ w : World, Calls Try.prog 20 #[.agg la.toArray, .agg lb.toArray] w fun e w' => e = .returned (.agg ls.toArray) ∧ Below w.heap.size w w') (H4 : ∀ w : World, Calls Try.prog 18 #[.agg ls.toArray, wd c] w fun e w' => e = .returned (.tuple #[wd q, wd r]) ∧ Below w.heap.size w w') (w : World) :
    Calls Try.prog 8 #[.int .u8 8, wd a, wd b, wd c] w fun e w' => e = .returned (wd r) ∧ Below w.heap.size w w' := by
  obtain ⟨h1, h2, h3, h4, ⟨z1, z2, z3, z4⟩, hB⟩ := (held_start w a b c).put 0
  have e0 : put4 (put4 (put4 (put4 w a) b) c) 0 = (((w.alloc (.cells #[.int .u64 (lim a 0), .int .u64 (lim a 1), .int .u64 (lim a 2), .int .u64 (lim a 3)] 24)).alloc (.cells #[.int .u64 (lim b 0), .int .u64 (lim b 1), .int .u64 (lim b 2), .int .u64 (lim b 3)] 24)).alloc (.cells #[.int .u64 (lim c 0), .int .u64 (lim c 1), .int .u64 (lim c 2), .int .u64 (lim c 3)] 24)).alloc (.cells #[.int .u64 0, .int .u64 0, .int .u64 0, .int .u64 0] 24) := by
    unfold put4; simp [lim_z]
  have es : (put4 (put4 (put4 w a) b) c).heap.size = w.heap.size + 1 + 1 + 1 := by simp
  rw [es] at h4 z4
  have C2 : Cells4 (put4 (put4 (put4 (put4 w a) b) c) 0) (w.heap.size + 1 + 1 + 1) 0 := ⟨h4.1, h4.2.1, h4.2.2.1, h4.2.2.2, by simp [go_sem], by simp [go_sem], by simp [go_sem], by simp [go_sem]⟩
  clear h4 es
  rw [e0] at h1 h2 h3 z1 z2 z3 z4 hB C2
  clear e0
  go_enter Try.func8, Try.ntmps8
  go_upto_region 10 with fail
  generalize (((w.alloc (.cells #[.int .u64 (lim a 0), .int .u64 (lim a 1), .int .u64 (lim a 2), .int .u64 (lim a 3)] 24)).alloc (.cells #[.int .u64 (lim b 0), .int .u64 (lim b 1), .int .u64 (lim b 2), .int .u64 (lim b 3)] 24)).alloc (.cells #[.int .u64 (lim c 0), .int .u64 (lim c 1), .int .u64 (lim c 2), .int .u64 (lim c 3)] 24)).alloc (.cells #[.int .u64 0, .int .u64 0, .int .u64 0, .int .u64 0] 24) = W0 at *
  refine wp_region_held_drew (S := fun W => Below W0.heap.size W0 W) (by kernel_rfl) (Below.refl _ _).drew (fun hH => ?_)
  refine take_d (i := 0) (d := some 49) (v := .agg #[.int .u64 (lim a 0), .int .u64 (lim a 1), .int .u64 (lim a 2), .int .u64 (lim a 3)]) rfl rfl (by kernel_rfl) (by kernel_rfl) (by kernel_rfl) (fun _ _ _ h => h) (Or.inl ⟨by rfl, fun W hW => ?_⟩) hH ?_
  · obtain ⟨k0, k1, k2, k3⟩ := Eq4.keep h1 hW z1
    clear hW hH
    go_simp
  simp only [Act.put, List.setIfInBounds_toArray, List.set_cons_zero, List.set_cons_succ]
  refine take_d (i := 2) (d := some 51) (v := .agg #[.int .u64 (lim b 0), .int .u64 (lim b 1), .int .u64 (lim b 2), .int .u64 (lim b 3)]) rfl rfl (by kernel_rfl) (by kernel_rfl) (by kernel_rfl) (fun _ _ _ h => h) (Or.inl ⟨by rfl, fun W hW => ?_⟩) hH ?_
  · obtain ⟨k0, k1, k2, k3⟩ := Eq4.keep h2 hW z2
    clear hW hH
    go_simp
  simp only [Act.put, List.setIfInBounds_toArray, List.set_cons_zero, List.set_cons_succ]
  refine take_d (i := 5) (d := some 54) (v := .agg #[.int .u64 (lim c 0), .int .u64 (lim c 1), .int .u64 (lim c 2), .int .u64 (lim c 3)]) rfl rfl (by kernel_rfl) (by kernel_rfl) (by kernel_rfl) (fun _ _ _ h => h) (Or.inl ⟨by rfl, fun W hW => ?_⟩) hH ?_
  · obtain ⟨k0, k1, k2, k3⟩ := Eq4.keep h3 hW z3
    clear hW hH
    go_simp
  simp only [Act.put, List.setIfInBounds_toArray, List.set_cons_zero, List.set_cons_succ]
  refine Nd.start (f := 9) (ZA := fun W p => Row4 W p 0 0 0 0) (ZB := fun W p => Row4 W p 0 0 0 0) (iA := 10) (iB := 11) (dA := 9) (dB := 10) (oA := .cells #[.int .u64 0, .int .u64 0, .int .u64 0, .int .u64 0] 24) (oB := .cells #[.int .u64 0, .int .u64 0, .int .u64 0, .int .u64 0] 24) (L := fun x y => #[true, false, true, false, false, true, false, false, false, false, x, y, false, false])
    ⟨fun _ _ _ h => by refine wpOp_step rfl (fun K' hK => ?_); go_simp; exact hK _ _ h, fun _ _ _ h => by refine wpOp_step rfl (fun K' hK => ?_); go_simp; exact hK _ _ h, fun W => row4_new W 0 0 0 0, fun W => row4_new W 0 0 0 0, fun _ _ _ hp hb h => h.below hb hp, fun _ _ _ hp hb h => h.below hb hp⟩ rfl undef undef rfl hH (fun R => ?_)
  refine Nd.step (c := 1) (d := 50) (v := .agg la.toArray) (l := []) (f' := 8) (L' := fun x y => #[true, true, true, false, false, true, false, false, false, false, x, y, false, false]) R rfl rfl (by intro a b; cases a <;> cases b <;> kernel_rfl) (by intros; kernel_rfl) (by intros; kernel_rfl) (fun _ => rfl) (fun _ => rfl) (fun X Y W1 K hH hK => ?_) (fun _ _ _ _ _ _ h => h) ?_
  · simp only [Act.put, List.setIfInBounds_toArray, List.set_cons_zero, List.set_cons_succ] at hK ⊢
    clear R hH
    go_simp
    refine (H1 _).mono ?_
    rintro e Wq ⟨rfl, hbn⟩
    go_wp2_with fail
    exact hK.out _ hbn
  refine Nd.step (c := 3) (d := 52) (v := .agg lb.toArray) (l := []) (f' := 7) (L' := fun x y => #[true, true, true, true, false, true, false, false, false, false, x, y, false, false]) R rfl rfl (by intro a b; cases a <;> cases b <;> kernel_rfl) (by intros; kernel_rfl) (by intros; kernel_rfl) (fun _ => rfl) (fun _ => rfl) (fun X Y W1 K hH hK => ?_) (fun _ _ _ _ _ _ h => h) ?_
  · simp only [puts, Act.put, List.setIfInBounds_toArray, List.set_cons_zero, List.set_cons_succ] at hK ⊢
    clear R hH
    go_simp
    refine (H2 _).mono ?_
    rintro e Wq ⟨rfl, hbn⟩
    go_wp2_with fail
    exact hK.out _ hbn
  refine Nd.step (c := 4) (d := 53) (v := .agg ls.toArray) (l := []) (f' := 6) (L' := fun x y => #[true, true, true, true, true, true, false, false, false, false, x, y, false, false]) R rfl rfl (by intro a b; cases a <;> cases b <;> kernel_rfl) (by intros; kernel_rfl) (by intros; kernel_rfl) (fun _ => rfl) (fun _ => rfl) (fun X Y W1 K hH hK => ?_) (fun _ _ _ _ _ _ h => h) ?_
  · simp only [puts, Act.put, List.setIfInBounds_toArray, List.set_cons_zero, List.set_cons_succ] at hK ⊢
    clear R hH
    go_simp
    refine (H3 _).mono ?_
    rintro e Wq ⟨rfl, hbn⟩
    go_wp2_with fail
    exact hK.out _ hbn
  refine Nd.step (c := 6) (d := 55) (v := .tuple #[.agg #[.int .u64 (lim q 0), .int .u64 (lim q 1), .int .u64 (lim q 2), .int .u64 (lim q 3)], .agg #[.int .u64 (lim r 0), .int .u64 (lim r 1), .int .u64 (lim r 2), .int .u64 (lim r 3)]]) (l := [(48, .tuple #[.agg #[.int .u64 (lim q 0), .int .u64 (lim q 1), .int .u64 (lim q 2), .int .u64 (lim q 3)], .agg #[.int .u64 (lim r 0), .int .u64 (lim r 1), .int .u64 (lim r 2), .int .u64 (lim r 3)]]), (56, .agg #[.int .u64 (lim q 0), .int .u64 (lim q 1), .int .u64 (lim q 2), .int .u64 (lim q 3)]), (57, .agg #[.int .u64 (lim r 0), .int .u64 (lim r 1), .int .u64 (lim r 2), .int .u64 (lim r 3)])]) (f' := 2) (L' := fun x y => #[true, true, true, true, true, true, true, true, true, true, x, y, false, false]) R rfl rfl (by intro a b; cases a <;> cases b <;> kernel_rfl) (by intros; kernel_rfl) (by intros; kernel_rfl) (fun _ => rfl) (fun _ => rfl) (fun X Y W1 K hH hK => ?_) (fun x y X Y W1 hH hK => ?_) ?_
  · simp only [puts, Act.put, List.setIfInBounds_toArray, List.set_cons_zero, List.set_cons_succ] at hK ⊢
    clear R hH
    go_simp
    refine (H4 _).mono ?_
    rintro e Wq ⟨rfl, hbn⟩
    go_wp2_with fail
    exact hK.out _ hbn
  · simp only [puts, Act.put, List.setIfInBounds_toArray, List.set_cons_zero, List.set_cons_succ] at hK ⊢
    clear R
    refine take_d (i := 7) (d := some 48) (v := .tuple #[.agg #[.int .u64 (lim q 0), .int .u64 (lim q 1), .int .u64 (lim q 2), .int .u64 (lim q 3)], .agg #[.int .u64 (lim r 0), .int .u64 (lim r 1), .int .u64 (lim r 2), .int .u64 (lim r 3)]]) rfl rfl (by kernel_rfl) (by cases x <;> cases y <;> kernel_rfl) (by cases x <;> cases y <;> kernel_rfl) (fun _ _ _ h => h) (Or.inl ⟨by rfl, fun W hW => ?_⟩) hH ?_
    · clear hW hH hK
      go_simp
    simp only [Act.put, List.setIfInBounds_toArray, List.set_cons_zero, List.set_cons_succ]
    refine take_d (i := 8) (d := some 56) (v := .agg #[.int .u64 (lim q 0), .int .u64 (lim q 1), .int .u64 (lim q 2), .int .u64 (lim q 3)]) rfl rfl (by kernel_rfl) (by cases x <;> cases y <;> kernel_rfl) (by cases x <;> cases y <;> kernel_rfl) (fun _ _ _ h => h) (Or.inl ⟨by rfl, fun W hW => ?_⟩) hH ?_
    · clear hW hH hK
      go_simp
    simp only [Act.put, List.setIfInBounds_toArray, List.set_cons_zero, List.set_cons_succ]
    refine take_d (i := 9) (d := some 57) (v := .agg #[.int .u64 (lim r 0), .int .u64 (lim r 1), .int .u64 (lim r 2), .int .u64 (lim r 3)]) rfl rfl (by kernel_rfl) (by cases x <;> cases y <;> kernel_rfl) (by cases x <;> cases y <;> kernel_rfl) (fun _ _ _ h => h) (Or.inl ⟨by rfl, fun W hW => ?_⟩) hH ?_
    · clear hW hH hK
      go_simp
    simp only [Act.put, List.setIfInBounds_toArray, List.set_cons_zero, List.set_cons_succ]
    exact hK.out
  refine Nd.last (f := 1) R (by kernel_rfl) (by kernel_rfl) (by kernel_rfl) (by intros; kernel_rfl) (by intros; kernel_rfl) (fun _ => rfl) (fun _ => rfl) (fun p Q W1 hH hp hp' hq hq' hpq R5 R6 => ?_)
  simp only [puts, ptr, Act.put, List.setIfInBounds_toArray, List.set_cons_zero, List.set_cons_succ]
  clear R
  obtain ⟨e0, e1, e2, e3, ef⟩ := id R5
  have ef0 := ef 0 (by decide); have ef1 := ef 1 (by decide); have ef2 := ef 2 (by decide); have ef3 := ef 3 (by decide)
  clear ef
  have ho : Only W1 ((((W1.setCell ⟨p, 0, none⟩ (.int .u64 (lim q 0))).setCell ⟨p, 1, none⟩ (.int .u64 (lim q 1))).setCell ⟨p, 2, none⟩ (.int .u64 (lim q 2))).setCell ⟨p, 3, none⟩ (.int .u64 (lim q 3))) p 0 4 := ((((Only.refl _ _ _ _).setCell _ _ (by omega) (by omega)).setCell _ _ (by omega) (by omega)).setCell _ _ (by omega) (by omega)).setCell _ _ (by omega) (by omega)
  replace R6 := R6.only ho (by omega)
  have hB9 := hH.trans (ho.below (by omega))
  have hz := Nat.le_of_eq ho.size.symm
  clear ho
  refine wpAnyH_ready (rs := [12]) (by kernel_rfl) (by simp) ?_
  refine AllReadyH.cons rfl (fun K hK => ?_) AllReadyH.nil
  go_simp
  refine hK.out _ _ hB9 (fun hH => ?_)
  clear hK K e0 e1 e2 e3 ef0 ef1 ef2 ef3 hB9 R5
  generalize ((((W1.setCell ⟨p, 0, none⟩ (.int .u64 (lim q 0))).setCell ⟨p, 1, none⟩ (.int .u64 (lim q 1))).setCell ⟨p, 2, none⟩ (.int .u64 (lim q 2))).setCell ⟨p, 3, none⟩ (.int .u64 (lim q 3))) = W2 at hH hz R6 ⊢
  obtain ⟨e0, e1, e2, e3, ef⟩ := id R6
  have ef0 := ef 0 (by decide); have ef1 := ef 1 (by decide); have ef2 := ef 2 (by decide); have ef3 := ef 3 (by decide)
  clear ef
  have ho : Only W2 ((((W2.setCell ⟨Q, 0, none⟩ (.int .u64 (lim r 0))).setCell ⟨Q, 1, none⟩ (.int .u64 (lim r 1))).setCell ⟨Q, 2, none⟩ (.int .u64 (lim r 2))).setCell ⟨Q, 3, none⟩ (.int .u64 (lim r 3))) Q 0 4 := ((((Only.refl _ _ _ _).setCell _ _ (by omega) (by omega)).setCell _ _ (by omega) (by omega)).setCell _ _ (by omega) (by omega)).setCell _ _ (by omega) (by omega)
  replace R6 : Row4 ((((W2.setCell ⟨Q, 0, none⟩ (.int .u64 (lim r 0))).setCell ⟨Q, 1, none⟩ (.int .u64 (lim r 1))).setCell ⟨Q, 2, none⟩ (.int .u64 (lim r 2))).setCell ⟨Q, 3, none⟩ (.int .u64 (lim r 3))) Q (lim r 0) (lim r 1) (lim r 2) (lim r 3) := ⟨by simp [go_sem, e0], by simp [go_sem, e1], by simp [go_sem, e2], by simp [go_sem, e3], fun j hj => (ho.frozen j).trans (R6.fz j hj)⟩
  have hB9 := hH.trans (ho.below (by omega))
  have hz := Nat.le_of_eq ho.size.symm
  clear ho
  refine wpAnyH_ready (rs := [13]) (by kernel_rfl) (by simp) ?_
  refine AllReadyH.cons rfl (fun K hK => ?_) AllReadyH.nil
  go_simp
  refine hK.out _ _ hB9 (fun hH => ?_)
  clear hK K e0 e1 e2 e3 ef0 ef1 ef2 ef3 hB9
  generalize ((((W2.setCell ⟨Q, 0, none⟩ (.int .u64 (lim r 0))).setCell ⟨Q, 1, none⟩ (.int .u64 (lim r 1))).setCell ⟨Q, 2, none⟩ (.int .u64 (lim r 2))).setCell ⟨Q, 3, none⟩ (.int .u64 (lim r 3))) = W3 at hH hz R6 ⊢
  refine wpAnyH_done (by kernel_rfl) ?_ _
  obtain ⟨e0, e1, e2, e3, -⟩ := R6
  obtain ⟨x0, x1, x2, x3, x4, x5, x6, x7⟩ := C2.below hH z4
  go_wp2
  simp [bodyPost, results, Try.results8, go_sem, x0, x1, x2, x3]
  exact set4_below (hB.trans (hH.mono hB.size)) (by omega) _

end Go.Proofs.Ytbephahokhnccaa

namespace Go.Proofs.Ytbephahokhnccaa
open Go.RowKit Go.Shelf
attribute [local go_sem] wd

set_option maxHeartbeats 16000000 in
theorem rdvd4_w (a b q r : Nat) (ls : List Value) (H1 : ∀ w : World, Calls Try.prog 19 #[wd a] w fun e w' => e = .returned (.agg ls.toArray) ∧ Below w.heap.size w w') (H4 : ∀ w : World, Calls Try.prog 18 #[.agg ls.toArray, wd b] w fun e w' => e = .returned (.tuple #[wd q, wd r]) ∧ Below w.heap.size w w') (w : World) :
    Calls Try.prog 17 #[.int .u8 4, wd a, wd b] w fun e w' => e = .returned (wd q) ∧ Below w.heap.size w w' := by
  obtain ⟨h1, h2, h3, ⟨z1, z2, z3⟩, hB⟩ := held_start w a b 0
  have e0 : put4 (put4 (put4 w a) b) 0 = ((w.alloc (.cells #[.int .u64 (lim a 0), .int .u64 (lim a 1), .int .u64 (lim a 2), .int .u64 (lim a 3)] 24)).alloc (.cells #[.int .u64 (lim b 0), .int .u64 (lim b 1), .int .u64 (lim b 2), .int .u64 (lim b 3)] 24)).alloc (.cells #[.int .u64 0, .int .u64 0, .int .u64 0, .int .u64 0] 24) := by
    unfold put4; simp [lim_z]
  have C2 : Cells4 (put4 (put4 (put4 w a) b) 0) (w.heap.size + 1 + 1) 0 := ⟨h3.1, h3.2.1, h3.2.2.1, h3.2.2.2, by simp [go_sem], by simp [go_sem], by simp [go_sem], by simp [go_sem]⟩
  clear h3
  rw [e0] at h1 h2 z1 z2 z3 hB C2
  clear e0
  go_enter Try.func17, Try.ntmps17
  go_upto_region 2 with fail
  generalize ((w.alloc (.cells #[.int .u64 (lim a 0), .int .u64 (lim a 1), .int .u64 (lim a 2), .int .u64 (lim a 3)] 24)).alloc (.cells #[.int .u64 (lim b 0), .int .u64 (lim b 1), .int .u64 (lim b 2), .int .u64 (lim b 3)] 24)).alloc (.cells #[.int .u64 0, .int .u64 0, .int .u64 0, .int .u64 0] 24) = W0 at *
  refine wp_region_held_drew (S := fun W => Below W0.heap.size W0 W) (by kernel_rfl) (Below.refl _ _).drew (fun hH => ?_)
  refine take_d (i := 0) (d := some 16) (v := .agg #[.int .u64 (lim a 0), .int .u64 (lim a 1), .int .u64 (lim a 2), .int .u64 (lim a 3)]) rfl rfl (by kernel_rfl) (by kernel_rfl) (by kernel_rfl) (fun _ _ _ h => h) (Or.inl ⟨by rfl, fun W hW => ?_⟩) hH ?_
  · obtain ⟨k0, k1, k2, k3⟩ := Eq4.keep h1 hW z1
    clear hW hH
    go_simp
  simp only [Act.put, List.setIfInBounds_toArray, List.set_cons_zero, List.set_cons_succ]
  refine take_d (i := 2) (d := some 18) (v := .agg #[.int .u64 (lim b 0), .int .u64 (lim b 1), .int .u64 (lim b 2), .int .u64 (lim b 3)]) rfl rfl (by kernel_rfl) (by kernel_rfl) (by kernel_rfl) (fun _ _ _ h => h) (Or.inl ⟨by rfl, fun W hW => ?_⟩) hH ?_
  · obtain ⟨k0, k1, k2, k3⟩ := Eq4.keep h2 hW z2
    clear hW hH
    go_simp
  simp only [Act.put, List.setIfInBounds_toArray, List.set_cons_zero, List.set_cons_succ]
  refine Nd.start (f := 7) (ZA := fun W p => Row4 W p 0 0 0 0) (ZB := fun W p => Row4 W p 0 0 0 0) (iA := 7) (iB := 8) (dA := 7) (dB := 8) (oA := .cells #[.int .u64 0, .int .u64 0, .int .u64 0, .int .u64 0] 24) (oB := .cells #[.int .u64 0, .int .u64 0, .int .u64 0, .int .u64 0] 24) (L := fun x y => #[true, false, true, false, false, false, false, x, y, false, false])
    ⟨fun _ _ _ h => by refine wpOp_step rfl (fun K' hK => ?_); go_simp; exact hK _ _ h, fun _ _ _ h => by refine wpOp_step rfl (fun K' hK => ?_); go_simp; exact hK _ _ h, fun W => row4_new W 0 0 0 0, fun W => row4_new W 0 0 0 0, fun _ _ _ hp hb h => h.below hb hp, fun _ _ _ hp hb h => h.below hb hp⟩ rfl undef undef rfl hH (fun R => ?_)
  refine Nd.step (c := 1) (d := 17) (v := .agg ls.toArray) (l := []) (f' := 6) (L' := fun x y => #[true, true, true, false, false, false, false, x, y, false, false]) R rfl rfl (by intro a b; cases a <;> cases b <;> kernel_rfl) (by intros; kernel_rfl) (by intros; kernel_rfl) (fun _ => rfl) (fun _ => rfl) (fun X Y W1 K hH hK => ?_) (fun _ _ _ _ _ _ h => h) ?_
  · simp only [Act.put, List.setIfInBounds_toArray, List.set_cons_zero, List.set_cons_succ] at hK ⊢
    clear R hH
    go_simp
    refine (H1 _).mono ?_
    rintro e Wq ⟨rfl, hbn⟩
    go_wp2_with fail
    exact hK.out _ hbn
  refine Nd.step (c := 3) (d := 19) (v := .tuple #[.agg #[.int .u64 (lim q 0), .int .u64 (lim q 1), .int .u64 (lim q 2), .int .u64 (lim q 3)], .agg #[.int .u64 (lim r 0), .int .u64 (lim r 1), .int .u64 (lim r 2), .int .u64 (lim r 3)]]) (l := [(15, .tuple #[.agg #[.int .u64 (lim q 0), .int .u64 (lim q 1), .int .u64 (lim q 2), .int .u64 (lim q 3)], .agg #[.int .u64 (lim r 0), .int .u64 (lim r 1), .int .u64 (lim r 2), .int .u64 (lim r 3)]]), (20, .agg #[.int .u64 (lim q 0), .int .u64 (lim q 1), .int .u64 (lim q 2), .int .u64 (lim q 3)]), (21, .agg #[.int .u64 (lim r 0), .int .u64 (lim r 1), .int .u64 (lim r 2), .int .u64 (lim r 3)])]) (f' := 2) (L' := fun x y => #[true, true, true, true, true, true, true, x, y, false, false]) R rfl rfl (by intro a b; cases a <;> cases b <;> kernel_rfl) (by intros; kernel_rfl) (by intros; kernel_rfl) (fun _ => rfl) (fun _ => rfl) (fun X Y W1 K hH hK => ?_) (fun x y X Y W1 hH hK => ?_) ?_
  · simp only [puts, Act.put, List.setIfInBounds_toArray, List.set_cons_zero, List.set_cons_succ] at hK ⊢
    clear R hH
    go_simp
    refine (H4 _).mono ?_
    rintro e Wq ⟨rfl, hbn⟩
    go_wp2_with fail
    exact hK.out _ hbn
  · simp only [puts, Act.put, List.setIfInBounds_toArray, List.set_cons_zero, List.set_cons_succ] at hK ⊢
    clear R
    refine take_d (i := 4) (d := some 15) (v := .tuple #[.agg #[.int .u64 (lim q 0), .int .u64 (lim q 1), .int .u64 (lim q 2), .int .u64 (lim q 3)], .agg #[.int .u64 (lim r 0), .int .u64 (lim r 1), .int .u64 (lim r 2), .int .u64 (lim r 3)]]) rfl rfl (by kernel_rfl) (by cases x <;> cases y <;> kernel_rfl) (by cases x <;> cases y <;> kernel_rfl) (fun _ _ _ h => h) (Or.inl ⟨by rfl, fun W hW => ?_⟩) hH ?_
    · clear hW hH hK
      go_simp
    simp only [Act.put, List.setIfInBounds_toArray, List.set_cons_zero, List.set_cons_succ]
    refine take_d (i := 5) (d := some 20) (v := .agg #[.int .u64 (lim q 0), .int .u64 (lim q 1), .int .u64 (lim q 2), .int .u64 (lim q 3)]) rfl rfl (by kernel_rfl) (by cases x <;> cases y <;> kernel_rfl) (by cases x <;> cases y <;> kernel_rfl) (fun _ _ _ h => h) (Or.inl ⟨by rfl, fun W hW => ?_⟩) hH ?_
    · clear hW hH hK
      go_simp
    simp only [Act.put, List.setIfInBounds_toArray, List.set_cons_zero, List.set_cons_succ]
    refine take_d (i := 6) (d := some 21) (v := .agg #[.int .u64 (lim r 0), .int .u64 (lim r 1), .int .u64 (lim r 2), .int .u64 (lim r 3)]) rfl rfl (by kernel_rfl) (by cases x <;> cases y <;> kernel_rfl) (by cases x <;> cases y <;> kernel_rfl) (fun _ _ _ h => h) (Or.inl ⟨by rfl, fun W hW => ?_⟩) hH ?_
    · clear hW hH hK
      go_simp
    simp only [Act.put, List.setIfInBounds_toArray, List.set_cons_zero, List.set_cons_succ]
    exact hK.out
  refine Nd.last (f := 1) R (by kernel_rfl) (by kernel_rfl) (by kernel_rfl) (by intros; kernel_rfl) (by intros; kernel_rfl) (fun _ => rfl) (fun _ => rfl) (fun p Q W1 hH hp hp' hq hq' hpq R5 R6 => ?_)
  simp only [puts, ptr, Act.put, List.setIfInBounds_toArray, List.set_cons_zero, List.set_cons_succ]
  clear R
  obtain ⟨e0, e1, e2, e3, ef⟩ := id R5
  have ef0 := ef 0 (by decide); have ef1 := ef 1 (by decide); have ef2 := ef 2 (by decide); have ef3 := ef 3 (by decide)
  clear ef
  have ho : Only W1 ((((W1.setCell ⟨p, 0, none⟩ (.int .u64 (lim q 0))).setCell ⟨p, 1, none⟩ (.int .u64 (lim q 1))).setCell ⟨p, 2, none⟩ (.int .u64 (lim q 2))).setCell ⟨p, 3, none⟩ (.int .u64 (lim q 3))) p 0 4 := ((((Only.refl _ _ _ _).setCell _ _ (by omega) (by omega)).setCell _ _ (by omega) (by omega)).setCell _ _ (by omega) (by omega)).setCell _ _ (by omega) (by omega)
  replace R6 := R6.only ho (by omega)
  replace R5 : Row4 ((((W1.setCell ⟨p, 0, none⟩ (.int .u64 (lim q 0))).setCell ⟨p, 1, none⟩ (.int .u64 (lim q 1))).setCell ⟨p, 2, none⟩ (.int .u64 (lim q 2))).setCell ⟨p, 3, none⟩ (.int .u64 (lim q 3))) p (lim q 0) (lim q 1) (lim q 2) (lim q 3) := ⟨by simp [go_sem, e0], by simp [go_sem, e1], by simp [go_sem, e2], by simp [go_sem, e3], fun j hj => (ho.frozen j).trans (R5.fz j hj)⟩
  have hB9 := hH.trans (ho.below (by omega))
  have hz := Nat.le_of_eq ho.size.symm
  clear ho
  refine wpAnyH_ready (rs := [9]) (by kernel_rfl) (by simp) ?_
  refine AllReadyH.cons rfl (fun K hK => ?_) AllReadyH.nil
  go_simp
  refine hK.out _ _ hB9 (fun hH => ?_)
  clear hK K e0 e1 e2 e3 ef0 ef1 ef2 ef3 hB9
  generalize ((((W1.setCell ⟨p, 0, none⟩ (.int .u64 (lim q 0))).setCell ⟨p, 1, none⟩ (.int .u64 (lim q 1))).setCell ⟨p, 2, none⟩ (.int .u64 (lim q 2))).setCell ⟨p, 3, none⟩ (.int .u64 (lim q 3))) = W2 at hH hz R6 R5 ⊢
  obtain ⟨e0, e1, e2, e3, ef⟩ := id R6
  have ef0 := ef 0 (by decide); have ef1 := ef 1 (by decide); have ef2 := ef 2 (by decide); have ef3 := ef 3 (by decide)
  clear ef
  have ho : Only W2 ((((W2.setCell ⟨Q, 0, none⟩ (.int .u64 (lim r 0))).setCell ⟨Q, 1, none⟩ (.int .u64 (lim r 1))).setCell ⟨Q, 2, none⟩ (.int .u64 (lim r 2))).setCell ⟨Q, 3, none⟩ (.int .u64 (lim r 3))) Q 0 4 := ((((Only.refl _ _ _ _).setCell _ _ (by omega) (by omega)).setCell _ _ (by omega) (by omega)).setCell _ _ (by omega) (by omega)).setCell _ _ (by omega) (by omega)
  replace R5 := R5.only ho (by omega)
  have hB9 := hH.trans (ho.below (by omega))
  have hz := Nat.le_of_eq ho.size.symm
  clear ho
  refine wpAnyH_ready (rs := [10]) (by kernel_rfl) (by simp) ?_
  refine AllReadyH.cons rfl (fun K hK => ?_) AllReadyH.nil
  go_simp
  refine hK.out _ _ hB9 (fun hH => ?_)
  clear hK K e0 e1 e2 e3 ef0 ef1 ef2 ef3 hB9 R6
  generalize ((((W2.setCell ⟨Q, 0, none⟩ (.int .u64 (lim r 0))).setCell ⟨Q, 1, none⟩ (.int .u64 (lim r 1))).setCell ⟨Q, 2, none⟩ (.int .u64 (lim r 2))).setCell ⟨Q, 3, none⟩ (.int .u64 (lim r 3))) = W3 at hH hz R5 ⊢
  refine wpAnyH_done (by kernel_rfl) ?_ _
  obtain ⟨e0, e1, e2, e3, -⟩ := R5
  obtain ⟨x0, x1, x2, x3, x4, x5, x6, x7⟩ := C2.below hH z3
  go_wp2
  simp [bodyPost, results, Try.results17, go_sem, x0, x1, x2, x3]
  exact set4_below (hB.trans (hH.mono hB.size)) (by omega) _

set_option maxHeartbeats 16000000 in
theorem rdvd5_w (a b q r : Nat) (ls : List Value) (H1 : ∀ w : World, Calls Try.prog 19 #[wd a] w fun e w' => e = .returned (.agg ls.toArray) ∧ Below w.heap.size w w') (H4 : ∀ w : World, Calls Try.prog 18 #[.agg ls.toArray, wd b] w fun e w' => e = .returned (.tuple #[wd q, wd r]) ∧ Below w.heap.size w w') (w : World) :
    Calls Try.prog 17 #[.int .u8 5, wd a, wd b] w fun e w' => e = .returned (wd r) ∧ Below w.heap.size w w' := by
  obtain ⟨h1, h2, h3, ⟨z1, z2, z3⟩, hB⟩ := held_start w a b 0
  have e0 : put4 (put4 (put4 w a) b) 0 = ((w.alloc (.cells #[.int .u64 (lim a 0), .int .u64 (lim a 1), .int .u64 (lim a 2), .int .u64 (lim a 3)] 24)).alloc (.cells #[.int .u64 (lim b 0), .int .u64 (lim b 1), .int .u64 (lim b 2), .int .u64 (lim b 3)] 24)).alloc (.cells #[.int .u64 0, .int .u64 0, .int .u64 0, .int .u64 0] 24) := by
    unfold put4; simp [lim_z]
  have C2 : Cells4 (put4 (put4 (put4 w a) b) 0) (w.heap.size + 1 + 1) 0 := ⟨h3.1, h3.2.1, h3.2.2.1, h3.2.2.2, by simp [go_sem], by simp [go_sem], by simp [go_sem], by simp [go_sem]⟩
  clear h3
  rw [e0] at h1 h2 z1 z2 z3 hB C2
  clear e0
  go_enter Try.func17, Try.ntmps17
  go_upto_region 2 with fail
  generalize ((w.alloc (.cells #[.int .u64 (lim a 0), .int .u64 (lim a 1), .int .u64 (lim a 2), .int .u64 (lim a 3)] 24)).alloc (.cells #[.int .u64 (lim b 0), .int .u64 (lim b 1), .int .u64 (lim b 2), .int .u64 (lim b 3)] 24)).alloc (.cells #[.int .u64 0, .int .u64 0, .int .u64 0, .int .u64 0] 24) = W0 at *
  refine wp_region_held_drew (S := fun W => Below W0.heap.size W0 W) (by kernel_rfl) (Below.refl _ _).drew (fun hH => ?_)
  refine take_d (i := 0) (d := some 16) (v := .agg #[.int .u64 (lim a 0), .int .u64 (lim a 1), .int .u64 (lim a 2), .int .u64 (lim a 3)]) rfl rfl (by kernel_rfl) (by kernel_rfl) (by kernel_rfl) (fun _ _ _ h => h) (Or.inl ⟨by rfl, fun W hW => ?_⟩) hH ?_
  · obtain ⟨k0, k1, k2, k3⟩ := Eq4.keep h1 hW z1
    clear hW hH
    go_simp
  simp only [Act.put, List.setIfInBounds_toArray, List.set_cons_zero, List.set_cons_succ]
  refine take_d (i := 2) (d := some 18) (v := .agg #[.int .u64 (lim b 0), .int .u64 (lim b 1), .int .u64 (lim b 2), .int .u64 (lim b 3)]) rfl rfl (by kernel_rfl) (by kernel_rfl) (by kernel_rfl) (fun _ _ _ h => h) (Or.inl ⟨by rfl, fun W hW => ?_⟩) hH ?_
  · obtain ⟨k0, k1, k2, k3⟩ := Eq4.keep h2 hW z2
    clear hW hH
    go_simp
  simp only [Act.put, List.setIfInBounds_toArray, List.set_cons_zero, List.set_cons_succ]
  refine Nd.start (f := 7) (ZA := fun W p => Row4 W p 0 0 0 0) (ZB := fun W p => Row4 W p 0 0 0 0) (iA := 7) (iB := 8) (dA := 7) (dB := 8) (oA := .cells #[.int .u64 0, .int .u64 0, .int .u64 0, .int .u64 0] 24) (oB := .cells #[.int .u64 0, .int .u64 0, .int .u64 0, .int .u64 0] 24) (L := fun x y => #[true, false, true, false, false, false, false, x, y, false, false])
    ⟨fun _ _ _ h => by refine wpOp_step rfl (fun K' hK => ?_); go_simp; exact hK _ _ h, fun _ _ _ h => by refine wpOp_step rfl (fun K' hK => ?_); go_simp; exact hK _ _ h, fun W => row4_new W 0 0 0 0, fun W => row4_new W 0 0 0 0, fun _ _ _ hp hb h => h.below hb hp, fun _ _ _ hp hb h => h.below hb hp⟩ rfl undef undef rfl hH (fun R => ?_)
  refine Nd.step (c := 1) (d := 17) (v := .agg ls.toArray) (l := []) (f' := 6) (L' := fun x y => #[true, true, true, false, false, false, false, x, y, false, false]) R rfl rfl (by intro a b; cases a <;> cases b <;> kernel_rfl) (by intros; kernel_rfl) (by intros; kernel_rfl) (fun _ => rfl) (fun _ => rfl) (fun X Y W1 K hH hK => ?_) (fun _ _ _ _ _ _ h => h) ?_
  · simp only [Act.put, List.setIfInBounds_toArray, List.set_cons_zero, List.set_cons_succ] at hK ⊢
    clear R hH
    go_simp
    refine (H1 _).mono ?_
    rintro e Wq ⟨rfl, hbn⟩
    go_wp2_with fail
    exact hK.out _ hbn
  refine Nd.step (c := 3) (d := 19) (v := .tuple #[.agg #[.int .u64 (lim q 0), .int .u64 (lim q 1), .int .u64 (lim q 2), .int .u64 (lim q 3)], .agg #[.int .u64 (lim r 0), .int .u64 (lim r 1), .int .u64 (lim r 2), .int .u64 (lim r 3)]]) (l := [(15, .tuple #[.agg #[.int .u64 (lim q 0), .int .u64 (lim q 1), .int .u64 (lim q 2), .int .u64 (lim q 3)], .agg #[.int .u64 (lim r 0), .int .u64 (lim r 1), .int .u64 (lim r 2), .int .u64 (lim r 3)]]), (20, .agg #[.int .u64 (lim q 0), .int .u64 (lim q 1), .int .u64 (lim q 2), .int .u64 (lim q 3)]), (21, .agg #[.int .u64 (lim r 0), .int .u64 (lim r 1), .int .u64 (lim r 2), .int .u64 (lim r 3)])]) (f' := 2) (L' := fun x y => #[true, true, true, true, true, true, true, x, y, false, false]) R rfl rfl (by intro a b; cases a <;> cases b <;> kernel_rfl) (by intros; kernel_rfl) (by intros; kernel_rfl) (fun _ => rfl) (fun _ => rfl) (fun X Y W1 K hH hK => ?_) (fun x y X Y W1 hH hK => ?_) ?_
  · simp only [puts, Act.put, List.setIfInBounds_toArray, List.set_cons_zero, List.set_cons_succ] at hK ⊢
    clear R hH
    go_simp
    refine (H4 _).mono ?_
    rintro e Wq ⟨rfl, hbn⟩
    go_wp2_with fail
    exact hK.out _ hbn
  · simp only [puts, Act.put, List.setIfInBounds_toArray, List.set_cons_zero, List.set_cons_succ] at hK ⊢
    clear R
    refine take_d (i := 4) (d := some 15) (v := .tuple #[.agg #[.int .u64 (lim q 0), .int .u64 (lim q 1), .int .u64 (lim q 2), .int .u64 (lim q 3)], .agg #[.int .u64 (lim r 0), .int .u64 (lim r 1), .int .u64 (lim r 2), .int .u64 (lim r 3)]]) rfl rfl (by kernel_rfl) (by cases x <;> cases y <;> kernel_rfl) (by cases x <;> cases y <;> kernel_rfl) (fun _ _ _ h => h) (Or.inl ⟨by rfl, fun W hW => ?_⟩) hH ?_
    · clear hW hH hK
      go_simp
    simp only [Act.put, List.setIfInBounds_toArray, List.set_cons_zero, List.set_cons_succ]
    refine take_d (i := 5) (d := some 20) (v := .agg #[.int .u64 (lim q 0), .int .u64 (lim q 1), .int .u64 (lim q 2), .int .u64 (lim q 3)]) rfl rfl (by kernel_rfl) (by cases x <;> cases y <;> kernel_rfl) (by cases x <;> cases y <;> kernel_rfl) (fun _ _ _ h => h) (Or.inl ⟨by rfl, fun W hW => ?_⟩) hH ?_
    · clear hW hH hK
      go_simp
    simp only [Act.put, List.setIfInBounds_toArray, List.set_cons_zero, List.set_cons_succ]
    refine take_d (i := 6) (d := some 21) (v := .agg #[.int .u64 (lim r 0), .int .u64 (lim r 1), .int .u64 (lim r 2), .int .u64 (lim r 3)]) rfl rfl (by kernel_rfl) (by cases x <;> cases y <;> kernel_rfl) (by cases x <;> cases y <;> kernel_rfl) (fun _ _ _ h => h) (Or.inl ⟨by rfl, fun W hW => ?_⟩) hH ?_
    · clear hW hH hK
      go_simp
    simp only [Act.put, List.setIfInBounds_toArray, List.set_cons_zero, List.set_cons_succ]
    exact hK.out
  refine Nd.last (f := 1) R (by kernel_rfl) (by kernel_rfl) (by kernel_rfl) (by intros; kernel_rfl) (by intros; kernel_rfl) (fun _ => rfl) (fun _ => rfl) (fun p Q W1 hH hp hp' hq hq' hpq R5 R6 => ?_)
  simp only [puts, ptr, Act.put, List.setIfInBounds_toArray, List.set_cons_zero, List.set_cons_succ]
  clear R
  obtain ⟨e0, e1, e2, e3, ef⟩ := id R5
  have ef0 := ef 0 (by decide); have ef1 := ef 1 (by decide); have ef2 := ef 2 (by decide); have ef3 := ef 3 (by decide)
  clear ef
  have ho : Only W1 ((((W1.setCell ⟨p, 0, none⟩ (.int .u64 (lim q 0))).setCell ⟨p, 1, none⟩ (.int .u64 (lim q 1))).setCell ⟨p, 2, none⟩ (.int .u64 (lim q 2))).setCell ⟨p, 3, none⟩ (.int .u64 (lim q 3))) p 0 4 := ((((Only.refl _ _ _ _).setCell _ _ (by omega) (by omega)).setCell _ _ (by omega) (by omega)).setCell _ _ (by omega) (by omega)).setCell _ _ (by omega) (by omega)
  replace R6 := R6.only ho (by omega)
  have hB9 := hH.trans (ho.below (by omega))
  have hz := Nat.le_of_eq ho.size.symm
  clear ho
  refine wpAnyH_ready (rs := [9]) (by kernel_rfl) (by simp) ?_
  refine AllReadyH.cons rfl (fun K hK => ?_) AllReadyH.nil
  go_simp
  refine hK.out _ _ hB9 (fun hH => ?_)
  clear hK K e0 e1 e2 e3 ef0 ef1 ef2 ef3 hB9 R5
  generalize ((((W1.setCell ⟨p, 0, none⟩ (.int .u64 (lim q 0))).setCell ⟨p, 1, none⟩ (.int .u64 (lim q 1))).setCell ⟨p, 2, none⟩ (.int .u64 (lim q 2))).setCell ⟨p, 3, none⟩ (.int .u64 (lim q 3))) = W2 at hH hz R6 ⊢
  obtain ⟨e0, e1, e2, e3, ef⟩ := id R6
  have ef0 := ef 0 (by decide); have ef1 := ef 1 (by decide); have ef2 := ef 2 (by decide); have ef3 := ef 3 (by decide)
  clear ef
  have ho : Only W2 ((((W2.setCell ⟨Q, 0, none⟩ (.int .u64 (lim r 0))).setCell ⟨Q, 1, none⟩ (.int .u64 (lim r 1))).setCell ⟨Q, 2, none⟩ (.int .u64 (lim r 2))).setCell ⟨Q, 3, none⟩ (.int .u64 (lim r 3))) Q 0 4 := ((((Only.refl _ _ _ _).setCell _ _ (by omega) (by omega)).setCell _ _ (by omega) (by omega)).setCell _ _ (by omega) (by omega)).setCell _ _ (by omega) (by omega)
  replace R6 : Row4 ((((W2.setCell ⟨Q, 0, none⟩ (.int .u64 (lim r 0))).setCell ⟨Q, 1, none⟩ (.int .u64 (lim r 1))).setCell ⟨Q, 2, none⟩ (.int .u64 (lim r 2))).setCell ⟨Q, 3, none⟩ (.int .u64 (lim r 3))) Q (lim r 0) (lim r 1) (lim r 2) (lim r 3) := ⟨by simp [go_sem, e0], by simp [go_sem, e1], by simp [go_sem, e2], by simp [go_sem, e3], fun j hj => (ho.frozen j).trans (R6.fz j hj)⟩
  have hB9 := hH.trans (ho.below (by omega))
  have hz := Nat.le_of_eq ho.size.symm
  clear ho
  refine wpAnyH_ready (rs := [10]) (by kernel_rfl) (by simp) ?_
  refine AllReadyH.cons rfl (fun K hK => ?_) AllReadyH.nil
  go_simp
  refine hK.out _ _ hB9 (fun hH => ?_)
  clear hK K e0 e1 e2 e3 ef0 ef1 ef2 ef3 hB9
  generalize ((((W2.setCell ⟨Q, 0, none⟩ (.int .u64 (lim r 0))).setCell ⟨Q, 1, none⟩ (.int .u64 (lim r 1))).setCell ⟨Q, 2, none⟩ (.int .u64 (lim r 2))).setCell ⟨Q, 3, none⟩ (.int .u64 (lim r 3))) = W3 at hH hz R6 ⊢
  refine wpAnyH_done (by kernel_rfl) ?_ _
  obtain ⟨e0, e1, e2, e3, -⟩ := R6
  obtain ⟨x0, x1, x2, x3, x4, x5, x6, x7⟩ := C2.below hH z3
  go_wp2
  simp [bodyPost, results, Try.results17, go_sem, x0, x1, x2, x3]
  exact set4_below (hB.trans (hH.mono hB.size)) (by omega) _

end Go.Proofs.Ytbephahokhnccaa

namespace Go.Proofs.Ytbephahokhnccaa
open Go.RowKit Go.Shelf
attribute [local go_sem] wd

set_option maxHeartbeats 16000000 in
theorem rdvd6_tt (a b a1 b1 q r n : Nat) (ls : List Value) (H1 : ∀ w : World, Calls Try.prog 48 #[wd a] w fun e w' => e = .returned (wd a1) ∧ Below w.heap.size w w') (H2 : ∀ w : World, Calls Try.prog 19 #[wd a1] w fun e w' => e = .returned (.agg ls.toArray) ∧ Below w.heap.size w w') (H3 : ∀ w : World, Calls Try.prog 48 #[wd b] w fun e w' => e = .returned (wd b1) ∧ Below w.heap.size w w') (H4 : ∀ w : World, Calls Try.prog 18 #[.agg ls.toArray, wd b1] w fun e w' => e = .returned (.tuple #[wd q, wd r]) ∧ Below w.heap.size w w') (H5 : ∀ w : World, Calls Try.prog 47 #[wd a] w fun e w' => e = .returned (.bool true) ∧ Below w.heap.size w w') (H6 : ∀ w : World, Calls Try.prog 47 #[wd b] w fun e w' => e = .returned (.bool true) ∧ Below w.heap.size w w') (_hn : n = q) (w : World) :
    Calls Try.prog 17 #[.int .u8 6, wd a, wd b] w fun e w' => e = .returned (wd q) ∧ Below w.heap.size w w' := by
  obtain ⟨h1, h2, h3, ⟨z1, z2, z3⟩, hB⟩ := held_start w a b 0
  have e0 : put4 (put4 (put4 w a) b) 0 = ((w.alloc (.cells #[.int .u64 (lim a 0), .int .u64 (lim a 1), .int .u64 (lim a 2), .int .u64 (lim a 3)] 24)).alloc (.cells #[.int .u64 (lim b 0), .int .u64 (lim b 1), .int .u64 (lim b 2), .int .u64 (lim b 3)] 24)).alloc (.cells #[.int .u64 0, .int .u64 0, .int .u64 0, .int .u64 0] 24) := by
    unfold put4; simp [lim_z]
  have C2 : Cells4 (put4 (put4 (put4 w a) b) 0) (w.heap.size + 1 + 1) 0 := ⟨h3.1, h3.2.1, h3.2.2.1, h3.2.2.2, by simp [go_sem], by simp [go_sem], by simp [go_sem], by simp [go_sem]⟩
  clear h3
  rw [e0] at h1 h2 z1 z2 z3 hB C2
  clear e0
  go_enter Try.func17, Try.ntmps17
  go_upto_region 6 with fail
  generalize ((w.alloc (.cells #[.int .u64 (lim a 0), .int .u64 (lim a 1), .int .u64 (lim a 2), .int .u64 (lim a 3)] 24)).alloc (.cells #[.int .u64 (lim b 0), .int .u64 (lim b 1), .int .u64 (lim b 2), .int .u64 (lim b 3)] 24)).alloc (.cells #[.int .u64 0, .int .u64 0, .int .u64 0, .int .u64 0] 24) = X0 at *
  obtain ⟨k0, k1, k2, k3⟩ := id h1
  go_wp2_with fail
  refine (H5 _).mono ?_
  rintro e X1 ⟨rfl, hbn⟩
  replace h1 := Eq4.keep h1 hbn z1
  replace h2 := Eq4.keep h2 hbn z2
  replace C2 := C2.below hbn z3
  replace hB := below_over0 hB hbn
  replace z1 := Nat.lt_of_lt_of_le z1 hbn.size
  replace z2 := Nat.lt_of_lt_of_le z2 hbn.size
  replace z3 := Nat.lt_of_lt_of_le z3 hbn.size
  clear hbn k0 k1 k2 k3 H5
  obtain ⟨k0, k1, k2, k3⟩ := id h2
  go_wp2_with fail
  refine (H6 _).mono ?_
  rintro e X2 ⟨rfl, hbn⟩
  replace h1 := Eq4.keep h1 hbn z1
  replace h2 := Eq4.keep h2 hbn z2
  replace C2 := C2.below hbn z3
  replace hB := below_over0 hB hbn
  replace z1 := Nat.lt_of_lt_of_le z1 hbn.size
  replace z2 := Nat.lt_of_lt_of_le z2 hbn.size
  replace z3 := Nat.lt_of_lt_of_le z3 hbn.size
  clear hbn k0 k1 k2 k3 H6
  go_upto_region 8 with fail
  generalize X2 = W0 at *
  refine wp_region_held_drew (S := fun W => Below W0.heap.size W0 W) (by kernel_rfl) (Below.refl _ _).drew (fun hH => ?_)
  refine take_d (i := 0) (d := some 31) (v := .agg #[.int .u64 (lim a 0), .int .u64 (lim a 1), .int .u64 (lim a 2), .int .u64 (lim a 3)]) rfl rfl (by kernel_rfl) (by kernel_rfl) (by kernel_rfl) (fun _ _ _ h => h) (Or.inl ⟨by rfl, fun W hW => ?_⟩) hH ?_
  · obtain ⟨k0, k1, k2, k3⟩ := Eq4.keep h1 hW z1
    clear hW hH
    go_simp
  simp only [Act.put, List.setIfInBounds_toArray, List.set_cons_zero, List.set_cons_succ]
  refine take_d (i := 3) (d := some 34) (v := .agg #[.int .u64 (lim b 0), .int .u64 (lim b 1), .int .u64 (lim b 2), .int .u64 (lim b 3)]) rfl rfl (by kernel_rfl) (by kernel_rfl) (by kernel_rfl) (fun _ _ _ h => h) (Or.inl ⟨by rfl, fun W hW => ?_⟩) hH ?_
  · obtain ⟨k0, k1, k2, k3⟩ := Eq4.keep h2 hW z2
    clear hW hH
    go_simp
  simp only [Act.put, List.setIfInBounds_toArray, List.set_cons_zero, List.set_cons_succ]
  refine Nd.start (f := 9) (ZA := fun W p => Row4 W p 0 0 0 0) (ZB := fun W p => Row4 W p 0 0 0 0) (iA := 9) (iB := 10) (dA := 11) (dB := 12) (oA := .cells #[.int .u64 0, .int .u64 0, .int .u64 0, .int .u64 0] 24) (oB := .cells #[.int .u64 0, .int .u64 0, .int .u64 0, .int .u64 0] 24) (L := fun x y => #[true, false, false, true, false, false, false, false, false, x, y, false, false])
    ⟨fun _ _ _ h => by refine wpOp_step rfl (fun K' hK => ?_); go_simp; exact hK _ _ h, fun _ _ _ h => by refine wpOp_step rfl (fun K' hK => ?_); go_simp; exact hK _ _ h, fun W => row4_new W 0 0 0 0, fun W => row4_new W 0 0 0 0, fun _ _ _ hp hb h => h.below hb hp, fun _ _ _ hp hb h => h.below hb hp⟩ rfl undef undef rfl hH (fun R => ?_)
  refine Nd.step (c := 1) (d := 32) (v := .agg #[.int .u64 (lim a1 0), .int .u64 (lim a1 1), .int .u64 (lim a1 2), .int .u64 (lim a1 3)]) (l := []) (f' := 8) (L' := fun x y => #[true, true, false, true, false, false, false, false, false, x, y, false, false]) R rfl rfl (by intro a b; cases a <;> cases b <;> kernel_rfl) (by intros; kernel_rfl) (by intros; kernel_rfl) (fun _ => rfl) (fun _ => rfl) (fun X Y W1 K hH hK => ?_) (fun _ _ _ _ _ _ h => h) ?_
  · simp only [Act.put, List.setIfInBounds_toArray, List.set_cons_zero, List.set_cons_succ] at hK ⊢
    clear R hH
    go_simp
    refine (H1 _).mono ?_
    rintro e Wq ⟨rfl, hbn⟩
    go_wp2_with fail
    exact hK.out _ hbn
  refine Nd.step (c := 2) (d := 33) (v := .agg ls.toArray) (l := []) (f' := 7) (L' := fun x y => #[true, true, true, true, false, false, false, false, false, x, y, false, false]) R rfl rfl (by intro a b; cases a <;> cases b <;> kernel_rfl) (by intros; kernel_rfl) (by intros; kernel_rfl) (fun _ => rfl) (fun _ => rfl) (fun X Y W1 K hH hK => ?_) (fun _ _ _ _ _ _ h => h) ?_
  · simp only [puts, Act.put, List.setIfInBounds_toArray, List.set_cons_zero, List.set_cons_succ] at hK ⊢
    clear R hH
    go_simp
    refine (H2 _).mono ?_
    rintro e Wq ⟨rfl, hbn⟩
    go_wp2_with fail
    exact hK.out _ hbn
  refine Nd.step (c := 4) (d := 35) (v := .agg #[.int .u64 (lim b1 0), .int .u64 (lim b1 1), .int .u64 (lim b1 2), .int .u64 (lim b1 3)]) (l := []) (f' := 6) (L' := fun x y => #[true, true, true, true, true, false, false, false, false, x, y, false, false]) R rfl rfl (by intro a b; cases a <;> cases b <;> kernel_rfl) (by intros; kernel_rfl) (by intros; kernel_rfl) (fun _ => rfl) (fun _ => rfl) (fun X Y W1 K hH hK => ?_) (fun _ _ _ _ _ _ h => h) ?_
  · simp only [puts, Act.put, List.setIfInBounds_toArray, List.set_cons_zero, List.set_cons_succ] at hK ⊢
    clear R hH
    go_simp
    refine (H3 _).mono ?_
    rintro e Wq ⟨rfl, hbn⟩
    go_wp2_with fail
    exact hK.out _ hbn
  refine Nd.step (c := 5) (d := 36) (v := .tuple #[.agg #[.int .u64 (lim q 0), .int .u64 (lim q 1), .int .u64 (lim q 2), .int .u64 (lim q 3)], .agg #[.int .u64 (lim r 0), .int .u64 (lim r 1), .int .u64 (lim r 2), .int .u64 (lim r 3)]]) (l := [(30, .tuple #[.agg #[.int .u64 (lim q 0), .int .u64 (lim q 1), .int .u64 (lim q 2), .int .u64 (lim q 3)], .agg #[.int .u64 (lim r 0), .int .u64 (lim r 1), .int .u64 (lim r 2), .int .u64 (lim r 3)]]), (37, .agg #[.int .u64 (lim q 0), .int .u64 (lim q 1), .int .u64 (lim q 2), .int .u64 (lim q 3)]), (38, .agg #[.int .u64 (lim r 0), .int .u64 (lim r 1), .int .u64 (lim r 2), .int .u64 (lim r 3)])]) (f' := 2) (L' := fun x y => #[true, true, true, true, true, true, true, true, true, x, y, false, false]) R rfl rfl (by intro a b; cases a <;> cases b <;> kernel_rfl) (by intros; kernel_rfl) (by intros; kernel_rfl) (fun _ => rfl) (fun _ => rfl) (fun X Y W1 K hH hK => ?_) (fun x y X Y W1 hH hK => ?_) ?_
  · simp only [puts, Act.put, List.setIfInBounds_toArray, List.set_cons_zero, List.set_cons_succ] at hK ⊢
    clear R hH
    go_simp
    refine (H4 _).mono ?_
    rintro e Wq ⟨rfl, hbn⟩
    go_wp2_with fail
    exact hK.out _ hbn
  · simp only [puts, Act.put, List.setIfInBounds_toArray, List.set_cons_zero, List.set_cons_succ] at hK ⊢
    clear R
    refine take_d (i := 6) (d := some 30) (v := .tuple #[.agg #[.int .u64 (lim q 0), .int .u64 (lim q 1), .int .u64 (lim q 2), .int .u64 (lim q 3)], .agg #[.int .u64 (lim r 0), .int .u64 (lim r 1), .int .u64 (lim r 2), .int .u64 (lim r 3)]]) rfl rfl (by kernel_rfl) (by cases x <;> cases y <;> kernel_rfl) (by cases x <;> cases y <;> kernel_rfl) (fun _ _ _ h => h) (Or.inl ⟨by rfl, fun W hW => ?_⟩) hH ?_
    · clear hW hH hK
      go_simp
    simp only [Act.put, List.setIfInBounds_toArray, List.set_cons_zero, List.set_cons_succ]
    refine take_d (i := 7) (d := some 37) (v := .agg #[.int .u64 (lim q 0), .int .u64 (lim q 1), .int .u64 (lim q 2), .int .u64 (lim q 3)]) rfl rfl (by kernel_rfl) (by cases x <;> cases y <;> kernel_rfl) (by cases x <;> cases y <;> kernel_rfl) (fun _ _ _ h => h) (Or.inl ⟨by rfl, fun W hW => ?_⟩) hH ?_
    · clear hW hH hK
      go_simp
    simp only [Act.put, List.setIfInBounds_toArray, List.set_cons_zero, List.set_cons_succ]
    refine take_d (i := 8) (d := some 38) (v := .agg #[.int .u64 (lim r 0), .int .u64 (lim r 1), .int .u64 (lim r 2), .int .u64 (lim r 3)]) rfl rfl (by kernel_rfl) (by cases x <;> cases y <;> kernel_rfl) (by cases x <;> cases y <;> kernel_rfl) (fun _ _ _ h => h) (Or.inl ⟨by rfl, fun W hW => ?_⟩) hH ?_
    · clear hW hH hK
      go_simp
    simp only [Act.put, List.setIfInBounds_toArray, List.set_cons_zero, List.set_cons_succ]
    exact hK.out
  refine Nd.last (f := 1) R (by kernel_rfl) (by kernel_rfl) (by kernel_rfl) (by intros; kernel_rfl) (by intros; kernel_rfl) (fun _ => rfl) (fun _ => rfl) (fun p Q W1 hH hp hp' hq hq' hpq R5 R6 => ?_)
  simp only [puts, ptr, Act.put, List.setIfInBounds_toArray, List.set_cons_zero, List.set_cons_succ]
  clear R
  obtain ⟨e0, e1, e2, e3, ef⟩ := id R5
  have ef0 := ef 0 (by decide); have ef1 := ef 1 (by decide); have ef2 := ef 2 (by decide); have ef3 := ef 3 (by decide)
  clear ef
  have ho : Only W1 ((((W1.setCell ⟨p, 0, none⟩ (.int .u64 (lim q 0))).setCell ⟨p, 1, none⟩ (.int .u64 (lim q 1))).setCell ⟨p, 2, none⟩ (.int .u64 (lim q 2))).setCell ⟨p, 3, none⟩ (.int .u64 (lim q 3))) p 0 4 := ((((Only.refl _ _ _ _).setCell _ _ (by omega) (by omega)).setCell _ _ (by omega) (by omega)).setCell _ _ (by omega) (by omega)).setCell _ _ (by omega) (by omega)
  replace R6 := R6.only ho (by omega)
  replace R5 : Row4 ((((W1.setCell ⟨p, 0, none⟩ (.int .u64 (lim q 0))).setCell ⟨p, 1, none⟩ (.int .u64 (lim q 1))).setCell ⟨p, 2, none⟩ (.int .u64 (lim q 2))).setCell ⟨p, 3, none⟩ (.int .u64 (lim q 3))) p (lim q 0) (lim q 1) (lim q 2) (lim q 3) := ⟨by simp [go_sem, e0], by simp [go_sem, e1], by simp [go_sem, e2], by simp [go_sem, e3], fun j hj => (ho.frozen j).trans (R5.fz j hj)⟩
  have hB9 := hH.trans (ho.below (by omega))
  have hz := Nat.le_of_eq ho.size.symm
  clear ho
  refine wpAnyH_ready (rs := [11]) (by kernel_rfl) (by simp) ?_
  refine AllReadyH.cons rfl (fun K hK => ?_) AllReadyH.nil
  go_simp
  refine hK.out _ _ hB9 (fun hH => ?_)
  clear hK K e0 e1 e2 e3 ef0 ef1 ef2 ef3 hB9
  generalize ((((W1.setCell ⟨p, 0, none⟩ (.int .u64 (lim q 0))).setCell ⟨p, 1, none⟩ (.int .u64 (lim q 1))).setCell ⟨p, 2, none⟩ (.int .u64 (lim q 2))).setCell ⟨p, 3, none⟩ (.int .u64 (lim q 3))) = W2 at hH hz R6 R5 ⊢
  obtain ⟨e0, e1, e2, e3, ef⟩ := id R6
  have ef0 := ef 0 (by decide); have ef1 := ef 1 (by decide); have ef2 := ef 2 (by decide); have ef3 := ef 3 (by decide)
  clear ef
  have ho : Only W2 ((((W2.setCell ⟨Q, 0, none⟩ (.int .u64 (lim r 0))).setCell ⟨Q, 1, none⟩ (.int .u64 (lim r 1))).setCell ⟨Q, 2, none⟩ (.int .u64 (lim r 2))).setCell ⟨Q, 3, none⟩ (.int .u64 (lim r 3))) Q 0 4 := ((((Only.refl _ _ _ _).setCell _ _ (by omega) (by omega)).setCell _ _ (by omega) (by omega)).setCell _ _ (by omega) (by omega)).setCell _ _ (by omega) (by omega)
  replace R5 := R5.only ho (by omega)
  have hB9 := hH.trans (ho.below (by omega))
  have hz := Nat.le_of_eq ho.size.symm
  clear ho
  refine wpAnyH_ready (rs := [12]) (by kernel_rfl) (by simp) ?_
  refine AllReadyH.cons rfl (fun K hK => ?_) AllReadyH.nil
  go_simp
  refine hK.out _ _ hB9 (fun hH => ?_)
  clear hK K e0 e1 e2 e3 ef0 ef1 ef2 ef3 hB9 R6
  generalize ((((W2.setCell ⟨Q, 0, none⟩ (.int .u64 (lim r 0))).setCell ⟨Q, 1, none⟩ (.int .u64 (lim r 1))).setCell ⟨Q, 2, none⟩ (.int .u64 (lim r 2))).setCell ⟨Q, 3, none⟩ (.int .u64 (lim r 3))) = W3 at hH hz R5 ⊢
  refine wpAnyH_done (by kernel_rfl) ?_ _
  obtain ⟨e0, e1, e2, e3, -⟩ := R5
  obtain ⟨x0, x1, x2, x3, x4, x5, x6, x7⟩ := C2.below hH z3
  go_wp2
  simp [bodyPost, results, Try.results17, go_sem, x0, x1, x2, x3]
  exact set4_below (hB.trans (hH.mono hB.size)) (by omega) _

set_option maxHeartbeats 16000000 in
theorem rdvd6_tf (a b a1 b1 q r n : Nat) (ls : List Value) (H1 : ∀ w : World, Calls Try.prog 48 #[wd a] w fun e w' => e = .returned (wd a1) ∧ Below w.heap.size w w') (H2 : ∀ w : World, Calls Try.prog 19 #[wd a1] w fun e w' => e = .returned (.agg ls.toArray) ∧ Below w.heap.size w w') (H3 : ∀ w : World, Calls Try.prog 48 #[wd b] w fun e w' => e = .returned (wd b1) ∧ Below w.heap.size w w') (H4 : ∀ w : World, Calls Try.prog 18 #[.agg ls.toArray, wd b1] w fun e w' => e = .returned (.tuple #[wd q, wd r]) ∧ Below w.heap.size w w') (H5 : ∀ w : World, Calls Try.prog 47 #[wd a] w fun e w' => e = .returned (.bool true) ∧ Below w.heap.size w w') (H6 : ∀ w : World, Calls Try.prog 47 #[wd b] w fun e w' => e = .returned (.bool false) ∧ Below w.heap.size w w') (H7 : ∀ w : World, Calls Try.prog 49 #[wd q] w fun e w' => e = .returned (wd n) ∧ Below w.heap.size w w') (w : World) :
    Calls Try.prog 17 #[.int .u8 6, wd a, wd b] w fun e w' => e = .returned (wd n) ∧ Below w.heap.size w w' := by
  obtain ⟨h1, h2, h3, ⟨z1, z2, z3⟩, hB⟩ := held_start w a b 0
  have e0 : put4 (put4 (put4 w a) b) 0 = ((w.alloc (.cells #[.int .u64 (lim a 0), .int .u64 (lim a 1), .int .u64 (lim a 2), .int .u64 (lim a 3)] 24)).alloc (.cells #[.int .u64 (lim b 0), .int .u64 (lim b 1), .int .u64 (lim b 2), .int .u64 (lim b 3)] 24)).alloc (.cells #[.int .u64 0, .int .u64 0, .int .u64 0, .int .u64 0] 24) := by
    unfold put4; simp [lim_z]
  have C2 : Cells4 (put4 (put4 (put4 w a) b) 0) (w.heap.size + 1 + 1) 0 := ⟨h3.1, h3.2.1, h3.2.2.1, h3.2.2.2, by simp [go_sem], by simp [go_sem], by simp [go_sem], by simp [go_sem]⟩
  clear h3
  rw [e0] at h1 h2 z1 z2 z3 hB C2
  clear e0
  go_enter Try.func17, Try.ntmps17
  go_upto_region 6 with fail
  generalize ((w.alloc (.cells #[.int .u64 (lim a 0), .int .u64 (lim a 1), .int .u64 (lim a 2), .int .u64 (lim a 3)] 24)).alloc (.cells #[.int .u64 (lim b 0), .int .u64 (lim b 1), .int .u64 (lim b 2), .int .u64 (lim b 3)] 24)).alloc (.cells #[.int .u64 0, .int .u64 0, .int .u64 0, .int .u64 0] 24) = X0 at *
  obtain ⟨k0, k1, k2, k3⟩ := id h1
  go_wp2_with fail
  refine (H5 _).mono ?_
  rintro e X1 ⟨rfl, hbn⟩
  replace h1 := Eq4.keep h1 hbn z1
  replace h2 := Eq4.keep h2 hbn z2
  replace C2 := C2.below hbn z3
  replace hB := below_over0 hB hbn
  replace z1 := Nat.lt_of_lt_of_le z1 hbn.size
  replace z2 := Nat.lt_of_lt_of_le z2 hbn.size
  replace z3 := Nat.lt_of_lt_of_le z3 hbn.size
  clear hbn k0 k1 k2 k3 H5
  obtain ⟨k0, k1, k2, k3⟩ := id h2
  go_wp2_with fail
  refine (H6 _).mono ?_
  rintro e X2 ⟨rfl, hbn⟩
  replace h1 := Eq4.keep h1 hbn z1
  replace h2 := Eq4.keep h2 hbn z2
  replace C2 := C2.below hbn z3
  replace hB := below_over0 hB hbn
  replace z1 := Nat.lt_of_lt_of_le z1 hbn.size
  replace z2 := Nat.lt_of_lt_of_le z2 hbn.size
  replace z3 := Nat.lt_of_lt_of_le z3 hbn.size
  clear hbn k0 k1 k2 k3 H6
  go_upto_region 8 with fail
  generalize X2 = W0 at *
  refine wp_region_held_drew (S := fun W => Below W0.heap.size W0 W) (by kernel_rfl) (Below.refl _ _).drew (fun hH => ?_)
  refine take_d (i := 0) (d := some 31) (v := .agg #[.int .u64 (lim a 0), .int .u64 (lim a 1), .int .u64 (lim a 2), .int .u64 (lim a 3)]) rfl rfl (by kernel_rfl) (by kernel_rfl) (by kernel_rfl) (fun _ _ _ h => h) (Or.inl ⟨by rfl, fun W hW => ?_⟩) hH ?_
  · obtain ⟨k0, k1, k2, k3⟩ := Eq4.keep h1 hW z1
    clear hW hH
    go_simp
  simp only [Act.put, List.setIfInBounds_toArray, List.set_cons_zero, List.set_cons_succ]
  refine take_d (i := 3) (d := some 34) (v := .agg #[.int .u64 (lim b 0), .int .u64 (lim b 1), .int .u64 (lim b 2), .int .u64 (lim b 3)]) rfl rfl (by kernel_rfl) (by kernel_rfl) (by kernel_rfl) (fun _ _ _ h => h) (Or.inl ⟨by rfl, fun W hW => ?_⟩) hH ?_
  · obtain ⟨k0, k1, k2, k3⟩ := Eq4.keep h2 hW z2
    clear hW hH
    go_simp
  simp only [Act.put, List.setIfInBounds_toArray, List.set_cons_zero, List.set_cons_succ]
  refine Nd.start (f := 9) (ZA := fun W p => Row4 W p 0 0 0 0) (ZB := fun W p => Row4 W p 0 0 0 0) (iA := 9) (iB := 10) (dA := 11) (dB := 12) (oA := .cells #[.int .u64 0, .int .u64 0, .int .u64 0, .int .u64 0] 24) (oB := .cells #[.int .u64 0, .int .u64 0, .int .u64 0, .int .u64 0] 24) (L := fun x y => #[true, false, false, true, false, false, false, false, false, x, y, false, false])
    ⟨fun _ _ _ h => by refine wpOp_step rfl (fun K' hK => ?_); go_simp; exact hK _ _ h, fun _ _ _ h => by refine wpOp_step rfl (fun K' hK => ?_); go_simp; exact hK _ _ h, fun W => row4_new W 0 0 0 0, fun W => row4_new W 0 0 0 0, fun _ _ _ hp hb h => h.below hb hp, fun _ _ _ hp hb h => h.below hb hp⟩ rfl undef undef rfl hH (fun R => ?_)
  refine Nd.step (c := 1) (d := 32) (v := .agg #[.int .u64 (lim a1 0), .int .u64 (lim a1 1), .int .u64 (lim a1 2), .int .u64 (lim a1 3)]) (l := []) (f' := 8) (L' := fun x y => #[true, true, false, true, false, false, false, false, false, x, y, false, false]) R rfl rfl (by intro a b; cases a <;> cases b <;> kernel_rfl) (by intros; kernel_rfl) (by intros; kernel_rfl) (fun _ => rfl) (fun _ => rfl) (fun X Y W1 K hH hK => ?_) (fun _ _ _ _ _ _ h => h) ?_
  · simp only [Act.put, List.setIfInBounds_toArray, List.set_cons_zero, List.set_cons_succ] at hK ⊢
    clear R hH
    go_simp
    refine (H1 _).mono ?_
    rintro e Wq ⟨rfl, hbn⟩
    go_wp2_with fail
    exact hK.out _ hbn
  refine Nd.step (c := 2) (d := 33) (v := .agg ls.toArray) (l := []) (f' := 7) (L' := fun x y => #[true, true, true, true, false, false, false, false, false, x, y, false, false]) R rfl rfl (by intro a b; cases a <;> cases b <;> kernel_rfl) (by intros; kernel_rfl) (by intros; kernel_rfl) (fun _ => rfl) (fun _ => rfl) (fun X Y W1 K hH hK => ?_) (fun _ _ _ _ _ _ h => h) ?_
  · simp only [puts, Act.put, List.setIfInBounds_toArray, List.set_cons_zero, List.set_cons_succ] at hK ⊢
    clear R hH
    go_simp
    refine (H2 _).mono ?_
    rintro e Wq ⟨rfl, hbn⟩
    go_wp2_with fail
    exact hK.out _ hbn
  refine Nd.step (c := 4) (d := 35) (v := .agg #[.int .u64 (lim b1 0), .int .u64 (lim b1 1), .int .u64 (lim b1 2), .int .u64 (lim b1 3)]) (l := []) (f' := 6) (L' := fun x y => #[true, true, true, true, true, false, false, false, false, x, y, false, false]) R rfl rfl (by intro a b; cases a <;> cases b <;> kernel_rfl) (by intros; kernel_rfl) (by intros; kernel_rfl) (fun _ => rfl) (fun _ => rfl) (fun X Y W1 K hH hK => ?_) (fun _ _ _ _ _ _ h => h) ?_
  · simp only [puts, Act.put, List.setIfInBounds_toArray, List.set_cons_zero, List.set_cons_succ] at hK ⊢
    clear R hH
    go_simp
    refine (H3 _).mono ?_
    rintro e Wq ⟨rfl, hbn⟩
    go_wp2_with fail
    exact hK.out _ hbn
  refine Nd.step (c := 5) (d := 36) (v := .tuple #[.agg #[.int .u64 (lim q 0), .int .u64 (lim q 1), .int .u64 (lim q 2), .int .u64 (lim q 3)], .agg #[.int .u64 (lim r 0), .int .u64 (lim r 1), .int .u64 (lim r 2), .int .u64 (lim r 3)]]) (l := [(30, .tuple #[.agg #[.int .u64 (lim q 0), .int .u64 (lim q 1), .int .u64 (lim q 2), .int .u64 (lim q 3)], .agg #[.int .u64 (lim r 0), .int .u64 (lim r 1), .int .u64 (lim r 2), .int .u64 (lim r 3)]]), (37, .agg #[.int .u64 (lim q 0), .int .u64 (lim q 1), .int .u64 (lim q 2), .int .u64 (lim q 3)]), (38, .agg #[.int .u64 (lim r 0), .int .u64 (lim r 1), .int .u64 (lim r 2), .int .u64 (lim r 3)])]) (f' := 2) (L' := fun x y => #[true, true, true, true, true, true, true, true, true, x, y, false, false]) R rfl rfl (by intro a b; cases a <;> cases b <;> kernel_rfl) (by intros; kernel_rfl) (by intros; kernel_rfl) (fun _ => rfl) (fun _ => rfl) (fun X Y W1 K hH hK => ?_) (fun x y X Y W1 hH hK => ?_) ?_
  · simp only [puts, Act.put, List.setIfInBounds_toArray, List.set_cons_zero, List.set_cons_succ] at hK ⊢
    clear R hH
    go_simp
    refine (H4 _).mono ?_
    rintro e Wq ⟨rfl, hbn⟩
    go_wp2_with fail
    exact hK.out _ hbn
  · simp only [puts, Act.put, List.setIfInBounds_toArray, List.set_cons_zero, List.set_cons_succ] at hK ⊢
    clear R
    refine take_d (i := 6) (d := some 30) (v := .tuple #[.agg #[.int .u64 (lim q 0), .int .u64 (lim q 1), .int .u64 (lim q 2), .int .u64 (lim q 3)], .agg #[.int .u64 (lim r 0), .int .u64 (lim r 1), .int .u64 (lim r 2), .int .u64 (lim r 3)]]) rfl rfl (by kernel_rfl) (by cases x <;> cases y <;> kernel_rfl) (by cases x <;> cases y <;> kernel_rfl) (fun _ _ _ h => h) (Or.inl ⟨by rfl, fun W hW => ?_⟩) hH ?_
    · clear hW hH hK
      go_simp
    simp only [Act.put, List.setIfInBounds_toArray, List.set_cons_zero, List.set_cons_succ]
    refine take_d (i := 7) (d := some 37) (v := .agg #[.int .u64 (lim q 0), .int .u64 (lim q 1), .int .u64 (lim q 2), .int .u64 (lim q 3)]) rfl rfl (by kernel_rfl) (by cases x <;> cases y <;> kernel_rfl) (by cases x <;> cases y <;> kernel_rfl) (fun _ _ _ h => h) (Or.inl ⟨by rfl, fun W hW => ?_⟩) hH ?_
    · clear hW hH hK
      go_simp
    simp only [Act.put, List.setIfInBounds_toArray, List.set_cons_zero, List.set_cons_succ]
    refine take_d (i := 8) (d := some 38) (v := .agg #[.int .u64 (lim r 0), .int .u64 (lim r 1), .int .u64 (lim r 2), .int .u64 (lim r 3)]) rfl rfl (by kernel_rfl) (by cases x <;> cases y <;> kernel_rfl) (by cases x <;> cases y <;> kernel_rfl) (fun _ _ _ h => h) (Or.inl ⟨by rfl, fun W hW => ?_⟩) hH ?_
    · clear hW hH hK
      go_simp
    simp only [Act.put, List.setIfInBounds_toArray, List.set_cons_zero, List.set_cons_succ]
    exact hK.out
  refine Nd.last (f := 1) R (by kernel_rfl) (by kernel_rfl) (by kernel_rfl) (by intros; kernel_rfl) (by intros; kernel_rfl) (fun _ => rfl) (fun _ => rfl) (fun p Q W1 hH hp hp' hq hq' hpq R5 R6 => ?_)
  simp only [puts, ptr, Act.put, List.setIfInBounds_toArray, List.set_cons_zero, List.set_cons_succ]
  clear R
  obtain ⟨e0, e1, e2, e3, ef⟩ := id R5
  have ef0 := ef 0 (by decide); have ef1 := ef 1 (by decide); have ef2 := ef 2 (by decide); have ef3 := ef 3 (by decide)
  clear ef
  have ho : Only W1 ((((W1.setCell ⟨p, 0, none⟩ (.int .u64 (lim q 0))).setCell ⟨p, 1, none⟩ (.int .u64 (lim q 1))).setCell ⟨p, 2, none⟩ (.int .u64 (lim q 2))).setCell ⟨p, 3, none⟩ (.int .u64 (lim q 3))) p 0 4 := ((((Only.refl _ _ _ _).setCell _ _ (by omega) (by omega)).setCell _ _ (by omega) (by omega)).setCell _ _ (by omega) (by omega)).setCell _ _ (by omega) (by omega)
  replace R6 := R6.only ho (by omega)
  replace R5 : Row4 ((((W1.setCell ⟨p, 0, none⟩ (.int .u64 (lim q 0))).setCell ⟨p, 1, none⟩ (.int .u64 (lim q 1))).setCell ⟨p, 2, none⟩ (.int .u64 (lim q 2))).setCell ⟨p, 3, none⟩ (.int .u64 (lim q 3))) p (lim q 0) (lim q 1) (lim q 2) (lim q 3) := ⟨by simp [go_sem, e0], by simp [go_sem, e1], by simp [go_sem, e2], by simp [go_sem, e3], fun j hj => (ho.frozen j).trans (R5.fz j hj)⟩
  have hB9 := hH.trans (ho.below (by omega))
  have hz := Nat.le_of_eq ho.size.symm
  clear ho
  refine wpAnyH_ready (rs := [11]) (by kernel_rfl) (by simp) ?_
  refine AllReadyH.cons rfl (fun K hK => ?_) AllReadyH.nil
  go_simp
  refine hK.out _ _ hB9 (fun hH => ?_)
  clear hK K e0 e1 e2 e3 ef0 ef1 ef2 ef3 hB9
  generalize ((((W1.setCell ⟨p, 0, none⟩ (.int .u64 (lim q 0))).setCell ⟨p, 1, none⟩ (.int .u64 (lim q 1))).setCell ⟨p, 2, none⟩ (.int .u64 (lim q 2))).setCell ⟨p, 3, none⟩ (.int .u64 (lim q 3))) = W2 at hH hz R6 R5 ⊢
  obtain ⟨e0, e1, e2, e3, ef⟩ := id R6
  have ef0 := ef 0 (by decide); have ef1 := ef 1 (by decide); have ef2 := ef 2 (by decide); have ef3 := ef 3 (by decide)
  clear ef
  have ho : Only W2 ((((W2.setCell ⟨Q, 0, none⟩ (.int .u64 (lim r 0))).setCell ⟨Q, 1, none⟩ (.int .u64 (lim r 1))).setCell ⟨Q, 2, none⟩ (.int .u64 (lim r 2))).setCell ⟨Q, 3, none⟩ (.int .u64 (lim r 3))) Q 0 4 := ((((Only.refl _ _ _ _).setCell _ _ (by omega) (by omega)).setCell _ _ (by omega) (by omega)).setCell _ _ (by omega) (by omega)).setCell _ _ (by omega) (by omega)
  replace R5 := R5.only ho (by omega)
  have hB9 := hH.trans (ho.below (by omega))
  have hz := Nat.le_of_eq ho.size.symm
  clear ho
  refine wpAnyH_ready (rs := [12]) (by kernel_rfl) (by simp) ?_
  refine AllReadyH.cons rfl (fun K hK => ?_) AllReadyH.nil
  go_simp
  refine hK.out _ _ hB9 (fun hH => ?_)
  clear hK K e0 e1 e2 e3 ef0 ef1 ef2 ef3 hB9 R6
  generalize ((((W2.setCell ⟨Q, 0, none⟩ (.int .u64 (lim r 0))).setCell ⟨Q, 1, none⟩ (.int .u64 (lim r 1))).setCell ⟨Q, 2, none⟩ (.int .u64 (lim r 2))).setCell ⟨Q, 3, none⟩ (.int .u64 (lim r 3))) = W3 at hH hz R5 ⊢
  refine wpAnyH_done (by kernel_rfl) ?_ _
  obtain ⟨e0, e1, e2, e3, -⟩ := R5
  go_wp2_with fail
  refine (H7 _).mono ?_
  rintro e wl ⟨rfl, hbl⟩
  have hTl := below_over0 hH hbl
  obtain ⟨x0, x1, x2, x3, x4, x5, x6, x7⟩ := C2.below hTl z3
  clear e0 e1 e2 e3 hbl
  go_wp2
  simp [bodyPost, results, Try.results17, go_sem, x0, x1, x2, x3]
  exact set4_below (hB.trans (hTl.mono hB.size)) (by omega) _

set_option maxHeartbeats 16000000 in
theorem rdvd6_ft (a b a1 b1 q r n : Nat) (ls : List Value) (H1 : ∀ w : World, Calls Try.prog 48 #[wd a] w fun e w' => e = .returned (wd a1) ∧ Below w.heap.size w w') (H2 : ∀ w : World, Calls Try.prog 19 #[wd a1] w fun e w' => e = .returned (.agg ls.toArray) ∧ Below w.heap.size w w') (H3 : ∀ w : World, Calls Try.prog 48 #[wd b] w fun e w' => e = .returned (wd b1) ∧ Below w.heap.size w w') (H4 : ∀ w : World, Calls Try.prog 18 #[.agg ls.toArray, wd b1] w fun e w' => e = .returned (.tuple #[wd q, wd r]) ∧ Below w.heap.size w w') (H5 : ∀ w : World, Calls Try.prog 47 #[wd a] w fun e w' => e = .returned (.bool false) ∧ Below w.heap.size w w') (H6 : ∀ w : World, Calls Try.prog 47 #[wd b] w fun e w' => e = .returned (.bool true) ∧ Below w.heap.size w w') (H7 : ∀ w : World, Calls Try.prog 49 #[wd q] w fun e w' => e = .returned (wd n) ∧ Below w.heap.size w w') (w : World) :
    Calls Try.prog 17 #[.int .u8 6, wd a, wd b] w fun e w' => e = .returned (wd n) ∧ Below w.heap.size w w' := by
  obtain ⟨h1, h2, h3, ⟨z1, z2, z3⟩, hB⟩ := held_start w a b 0
  have e0 : put4 (put4 (put4 w a) b) 0 = ((w.alloc (.cells #[.int .u64 (lim a 0), .int .u64 (lim a 1), .int .u64 (lim a 2), .int .u64 (lim a 3)] 24)).alloc (.cells #[.int .u64 (lim b 0), .int .u64 (lim b 1), .int .u64 (lim b 2), .int .u64 (lim b 3)] 24)).alloc (.cells #[.int .u64 0, .int .u64 0, .int .u64 0, .int .u64 0] 24) := by
    unfold put4; simp [lim_z]
  have C2 : Cells4 (put4 (put4 (put4 w a) b) 0) (w.heap.size + 1 + 1) 0 := ⟨h3.1, h3.2.1, h3.2.2.1, h3.2.2.2, by simp [go_sem], by simp [go_sem], by simp [go_sem], by simp [go_sem]⟩
  clear h3
  rw [e0] at h1 h2 z1 z2 z3 hB C2
  clear e0
  go_enter Try.func17, Try.ntmps17
  go_upto_region 6 with fail
  generalize ((w.alloc (.cells #[.int .u64 (lim a 0), .int .u64 (lim a 1), .int .u64 (lim a 2), .int .u64 (lim a 3)] 24)).alloc (.cells #[.int .u64 (lim b 0), .int .u64 (lim b 1), .int .u64 (lim b 2), .int .u64 (lim b 3)] 24)).alloc (.cells #[.int .u64 0, .int .u64 0, .int .u64 0, .int .u64 0] 24) = X0 at *
  obtain ⟨k0, k1, k2, k3⟩ := id h1
  go_wp2_with fail
  refine (H5 _).mono ?_
  rintro e X1 ⟨rfl, hbn⟩
  replace h1 := Eq4.keep h1 hbn z1
  replace h2 := Eq4.keep h2 hbn z2
  replace C2 := C2.below hbn z3
  replace hB := below_over0 hB hbn
  replace z1 := Nat.lt_of_lt_of_le z1 hbn.size
  replace z2 := Nat.lt_of_lt_of_le z2 hbn.size
  replace z3 := Nat.lt_of_lt_of_le z3 hbn.size
  clear hbn k0 k1 k2 k3 H5
  obtain ⟨k0, k1, k2, k3⟩ := id h2
  go_wp2_with fail
  refine (H6 _).mono ?_
  rintro e X2 ⟨rfl, hbn⟩
  replace h1 := Eq4.keep h1 hbn z1
  replace h2 := Eq4.keep h2 hbn z2
  replace C2 := C2.below hbn z3
  replace hB := below_over0 hB hbn
  replace z1 := Nat.lt_of_lt_of_le z1 hbn.size
  replace z2 := Nat.lt_of_lt_of_le z2 hbn.size
  replace z3 := Nat.lt_of_lt_of_le z3 hbn.size
  clear hbn k0 k1 k2 k3 H6
  go_upto_region 8 with fail
  generalize X2 = W0 at *
  refine wp_region_held_drew (S := fun W => Below W0.heap.size W0 W) (by kernel_rfl) (Below.refl _ _).drew (fun hH => ?_)
  refine take_d (i := 0) (d := some 31) (v := .agg #[.int .u64 (lim a 0), .int .u64 (lim a 1), .int .u64 (lim a 2), .int .u64 (lim a 3)]) rfl rfl (by kernel_rfl) (by kernel_rfl) (by kernel_rfl) (fun _ _ _ h => h) (Or.inl ⟨by rfl, fun W hW => ?_⟩) hH ?_
  · obtain ⟨k0, k1, k2, k3⟩ := Eq4.keep h1 hW z1
    clear hW hH
    go_simp
  simp only [Act.put, List.setIfInBounds_toArray, List.set_cons_zero, List.set_cons_succ]
  refine take_d (i := 3) (d := some 34) (v := .agg #[.int .u64 (lim b 0), .int .u64 (lim b 1), .int .u64 (lim b 2), .int .u64 (lim b 3)]) rfl rfl (by kernel_rfl) (by kernel_rfl) (by kernel_rfl) (fun _ _ _ h => h) (Or.inl ⟨by rfl, fun W hW => ?_⟩) hH ?_
  · obtain ⟨k0, k1, k2, k3⟩ := Eq4.keep h2 hW z2
    clear hW hH
    go_simp
  simp only [Act.put, List.setIfInBounds_toArray, List.set_cons_zero, List.set_cons_succ]
  refine Nd.start (f := 9) (ZA := fun W p => Row4 W p 0 0 0 0) (ZB := fun W p => Row4 W p 0 0 0 0) (iA := 9) (iB := 10) (dA := 11) (dB := 12) (oA := .cells #[.int .u64 0, .int .u64 0, .int .u64 0, .int .u64 0] 24) (oB := .cells #[.int .u64 0, .int .u64 0, .int .u64 0, .int .u64 0] 24) (L := fun x y => #[true, false, false, true, false, false, false, false, false, x, y, false, false])
    ⟨fun _ _ _ h => by refine wpOp_step rfl (fun K' hK => ?_); go_simp; exact hK _ _ h, fun _ _ _ h => by refine wpOp_step rfl (fun K' hK => ?_); go_simp; exact hK _ _ h, fun W => row4_new W 0 0 0 0, fun W => row4_new W 0 0 0 0, fun _ _ _ hp hb h => h.below hb hp, fun _ _ _ hp hb h => h.below hb hp⟩ rfl undef undef rfl hH (fun R => ?_)
  refine Nd.step (c := 1) (d := 32) (v := .agg #[.int .u64 (lim a1 0), .int .u64 (lim a1 1), .int .u64 (lim a1 2), .int .u64 (lim a1 3)]) (l := []) (f' := 8) (L' := fun x y => #[true, true, false, true, false, false, false, false, false, x, y, false, false]) R rfl rfl (by intro a b; cases a <;> cases b <;> kernel_rfl) (by intros; kernel_rfl) (by intros; kernel_rfl) (fun _ => rfl) (fun _ => rfl) (fun X Y W1 K hH hK => ?_) (fun _ _ _ _ _ _ h => h) ?_
  · simp only [Act.put, List.setIfInBounds_toArray, List.set_cons_zero, List.set_cons_succ] at hK ⊢
    clear R hH
    go_simp
    refine (H1 _).mono ?_
    rintro e Wq ⟨rfl, hbn⟩
    go_wp2_with fail
    exact hK.out _ hbn
  refine Nd.step (c := 2) (d := 33) (v := .agg ls.toArray) (l := []) (f' := 7) (L' := fun x y => #[true, true, true, true, false, false, false, false, false, x, y, false, false]) R rfl rfl (by intro a b; cases a <;> cases b <;> kernel_rfl) (by intros; kernel_rfl) (by intros; kernel_rfl) (fun _ => rfl) (fun _ => rfl) (fun X Y W1 K hH hK => ?_) (fun _ _ _ _ _ _ h => h) ?_
  · simp only [puts, Act.put, List.setIfInBounds_toArray, List.set_cons_zero, List.set_cons_succ] at hK ⊢
    clear R hH
    go_simp
    refine (H2 _).mono ?_
    rintro e Wq ⟨rfl, hbn⟩
    go_wp2_with fail
    exact hK.out _ hbn
  refine Nd.step (c := 4) (d := 35) (v := .agg #[.int .u64 (lim b1 0), .int .u64 (lim b1 1), .int .u64 (lim b1 2), .int .u64 (lim b1 3)]) (l := []) (f' := 6) (L' := fun x y => #[true, true, true, true, true, false, false, false, false, x, y, false, false]) R rfl rfl (by intro a b; cases a <;> cases b <;> kernel_rfl) (by intros; kernel_rfl) (by intros; kernel_rfl) (fun _ => rfl) (fun _ => rfl) (fun X Y W1 K hH hK => ?_) (fun _ _ _ _ _ _ h => h) ?_
  · simp only [puts, Act.put, List.setIfInBounds_toArray, List.set_cons_zero, List.set_cons_succ] at hK ⊢
    clear R hH
    go_simp
    refine (H3 _).mono ?_
    rintro e Wq ⟨rfl, hbn⟩
    go_wp2_with fail
    exact hK.out _ hbn
  refine Nd.step (c := 5) (d := 36) (v := .tuple #[.agg #[.int .u64 (lim q 0), .int .u64 (lim q 1), .int .u64 (lim q 2), .int .u64 (lim q 3)], .agg #[.int .u64 (lim r 0), .int .u64 (lim r 1), .int .u64 (lim r 2), .int .u64 (lim r 3)]]) (l := [(30, .tuple #[.agg #[.int .u64 (lim q 0), .int .u64 (lim q 1), .int .u64 (lim q 2), .int .u64 (lim q 3)], .agg #[.int .u64 (lim r 0), .int .u64 (lim r 1), .int .u64 (lim r 2), .int .u64 (lim r 3)]]), (37, .agg #[.int .u64 (lim q 0), .int .u64 (lim q 1), .int .u64 (lim q 2), .int .u64 (lim q 3)]), (38, .agg #[.int .u64 (lim r 0), .int .u64 (lim r 1), .int .u64 (lim r 2), .int .u64 (lim r 3)])]) (f' := 2) (L' := fun x y => #[true, true, true, true, true, true, true, true, true, x, y, false, false]) R rfl rfl (by intro a b; cases a <;> cases b <;> kernel_rfl) (by intros; kernel_rfl) (by intros; kernel_rfl) (fun _ => rfl) (fun _ => rfl) (fun X Y W1 K hH hK => ?_) (fun x y X Y W1 hH hK => ?_) ?_
  · simp only [puts, Act.put, List.setIfInBounds_toArray, List.set_cons_zero, List.set_cons_succ] at hK ⊢
    clear R hH
    go_simp
    refine (H4 _).mono ?_
    rintro e Wq ⟨rfl, hbn⟩
    go_wp2_with fail
    exact hK.out _ hbn
  · simp only [puts, Act.put, List.setIfInBounds_toArray, List.set_cons_zero, List.set_cons_succ] at hK ⊢
    clear R
    refine take_d (i := 6) (d := some 30) (v := .tuple #[.agg #[.int .u64 (lim q 0), .int .u64 (lim q 1), .int .u64 (lim q 2), .int .u64 (lim q 3)], .agg #[.int .u64 (lim r 0), .int .u64 (lim r 1), .int .u64 (lim r 2), .int .u64 (lim r 3)]]) rfl rfl (by kernel_rfl) (by cases x <;> cases y <;> kernel_rfl) (by cases x <;> cases y <;> kernel_rfl) (fun _ _ _ h => h) (Or.inl ⟨by rfl, fun W hW => ?_⟩) hH ?_
    · clear hW hH hK
      go_simp
    simp only [Act.put, List.setIfInBounds_toArray, List.set_cons_zero, List.set_cons_succ]
    refine take_d (i := 7) (d := some 37) (v := .agg #[.int .u64 (lim q 0), .int .u64 (lim q 1), .int .u64 (lim q 2), .int .u64 (lim q 3)]) rfl rfl (by kernel_rfl) (by cases x <;> cases y <;> kernel_rfl) (by cases x <;> cases y <;> kernel_rfl) (fun _ _ _ h => h) (Or.inl ⟨by rfl, fun W hW => ?_⟩) hH ?_
    · clear hW hH hK
      go_simp
    simp only [Act.put, List.setIfInBounds_toArray, List.set_cons_zero, List.set_cons_succ]
    refine take_d (i := 8) (d := some 38) (v := .agg #[.int .u64 (lim r 0), .int .u64 (lim r 1), .int .u64 (lim r 2), .int .u64 (lim r 3)]) rfl rfl (by kernel_rfl) (by cases x <;> cases y <;> kernel_rfl) (by cases x <;> cases y <;> kernel_rfl) (fun _ _ _ h => h) (Or.inl ⟨by rfl, fun W hW => ?_⟩) hH ?_
    · clear hW hH hK
      go_simp
    simp only [Act.put, List.setIfInBounds_toArray, List.set_cons_zero, List.set_cons_succ]
    exact hK.out
  refine Nd.last (f := 1) R (by kernel_rfl) (by kernel_rfl) (by kernel_rfl) (by intros; kernel_rfl) (by intros; kernel_rfl) (fun _ => rfl) (fun _ => rfl) (fun p Q W1 hH hp hp' hq hq' hpq R5 R6 => ?_)
  simp only [puts, ptr, Act.put, List.setIfInBounds_toArray, List.set_cons_zero, List.set_cons_succ]
  clear R
  obtain ⟨e0, e1, e2, e3, ef⟩ := id R5
  have ef0 := ef 0 (by decide); have ef1 := ef 1 (by decide); have ef2 := ef 2 (by decide); have ef3 := ef 3 (by decide)
  clear ef
  have ho : Only W1 ((((W1.setCell ⟨p, 0, none⟩ (.int .u64 (lim q 0))).setCell ⟨p, 1, none⟩ (.int .u64 (lim q 1))).setCell ⟨p, 2, none⟩ (.int .u64 (lim q 2))).setCell ⟨p, 3, none⟩ (.int .u64 (lim q 3))) p 0 4 := ((((Only.refl _ _ _ _).setCell _ _ (by omega) (by omega)).setCell _ _ (by omega) (by omega)).setCell _ _ (by omega) (by omega)).setCell _ _ (by omega) (by omega)
  replace R6 := R6.only ho (by omega)
  replace R5 : Row4 ((((W1.setCell ⟨p, 0, none⟩ (.int .u64 (lim q 0))).setCell ⟨p, 1, none⟩ (.int .u64 (lim q 1))).setCell ⟨p, 2, none⟩ (.int .u64 (lim q 2))).setCell ⟨p, 3, none⟩ (.int .u64 (lim q 3))) p (lim q 0) (lim q 1) (lim q 2) (lim q 3) := ⟨by simp [go_sem, e0], by simp [go_sem, e1], by simp [go_sem, e2], by simp [go_sem, e3], fun j hj => (ho.frozen j).trans (R5.fz j hj)⟩
  have hB9 := hH.trans (ho.below (by omega))
  have hz := Nat.le_of_eq ho.size.symm
  clear ho
  refine wpAnyH_ready (rs := [11]) (by kernel_rfl) (by simp) ?_
  refine AllReadyH.cons rfl (fun K hK => ?_) AllReadyH.nil
  go_simp
  refine hK.out _ _ hB9 (fun hH => ?_)
  clear hK K e0 e1 e2 e3 ef0 ef1 ef2 ef3 hB9
  generalize ((((W1.setCell ⟨p, 0, none⟩ (.int .u64 (lim q 0))).setCell ⟨p, 1, none⟩ (.int .u64 (lim q 1))).setCell ⟨p, 2, none⟩ (.int .u64 (lim q 2))).setCell ⟨p, 3, none⟩ (.int .u64 (lim q 3))) = W2 at hH hz R6 R5 ⊢
  obtain ⟨e0, e1, e2, e3, ef⟩ := id R6
  have ef0 := ef 0 (by decide); have ef1 := ef 1 (by decide); have ef2 := ef 2 (by decide); have ef3 := ef 3 (by decide)
  clear ef
  have ho : Only W2 ((((W2.setCell ⟨Q, 0, none⟩ (.int .u64 (lim r 0))).setCell ⟨Q, 1, none⟩ (.int .u64 (lim r 1))).setCell ⟨Q, 2, none⟩ (.int .u64 (lim r 2))).setCell ⟨Q, 3, none⟩ (.int .u64 (lim r 3))) Q 0 4 := ((((Only.refl _ _ _ _).setCell _ _ (by omega) (by omega)).setCell _ _ (by omega) (by omega)).setCell _ _ (by omega) (by omega)).setCell _ _ (by omega) (by omega)
  replace R5 := R5.only ho (by omega)
  have hB9 := hH.trans (ho.below (by omega))
  have hz := Nat.le_of_eq ho.size.symm
  clear ho
  refine wpAnyH_ready (rs := [12]) (by kernel_rfl) (by simp) ?_
  refine AllReadyH.cons rfl (fun K hK => ?_) AllReadyH.nil
  go_simp
  refine hK.out _ _ hB9 (fun hH => ?_)
  clear hK K e0 e1 e2 e3 ef0 ef1 ef2 ef3 hB9 R6
  generalize ((((W2.setCell ⟨Q, 0, none⟩ (.int .u64 (lim r 0))).setCell ⟨Q, 1, none⟩ (.int .u64 (lim r 1))).setCell ⟨Q, 2, none⟩ (.int .u64 (lim r 2))).setCell ⟨Q, 3, none⟩ (.int .u64 (lim r 3))) = W3 at hH hz R5 ⊢
  refine wpAnyH_done (by kernel_rfl) ?_ _
  obtain ⟨e0, e1, e2, e3, -⟩ := R5
  go_wp2_with fail
  refine (H7 _).mono ?_
  rintro e wl ⟨rfl, hbl⟩
  have hTl := below_over0 hH hbl
  obtain ⟨x0, x1, x2, x3, x4, x5, x6, x7⟩ := C2.below hTl z3
  clear e0 e1 e2 e3 hbl
  go_wp2
  simp [bodyPost, results, Try.results17, go_sem, x0, x1, x2, x3]
  exact set4_below (hB.trans (hTl.mono hB.size)) (by omega) _

set_option maxHeartbeats 16000000 in
theorem rdvd6_ff (a b a1 b1 q r n : Nat) (ls : List Value) (H1 : ∀ w : World, Calls Try.prog 48 #[wd a] w fun e w' => e = .returned (wd a1) ∧ Below w.heap.size w w') (H2 : ∀ w : World, Calls Try.prog 19 #[wd a1] w fun e w' => e = .returned (.agg ls.toArray) ∧ Below w.heap.size w w') (H3 : ∀ w : World, Calls Try.prog 48 #[wd b] w fun e w' => e = .returned (wd b1) ∧ Below w.heap.size w w') (H4 : ∀ w : World, Calls Try.prog 18 #[.agg ls.toArray, wd b1] w fun e w' => e = .returned (.tuple #[wd q, wd r]) ∧ Below w.heap.size w w') (H5 : ∀ w : World, Calls Try.prog 47 #[wd a] w fun e w' => e = .returned (.bool false) ∧ Below w.heap.size w w') (H6 : ∀ w : World, Calls Try.prog 47 #[wd b] w fun e w' => e = .returned (.bool false) ∧ Below w.heap.size w w') (_hn : n = q) (w : World) :
    Calls Try.prog 17 #[.int .u8 6, wd a, wd b] w fun e w' => e = .returned (wd q) ∧ Below w.heap.size w w' := by
  obtain ⟨h1, h2, h3, ⟨z1, z2, z3⟩, hB⟩ := held_start w a b 0
  have e0 : put4 (put4 (put4 w a) b) 0 = ((w.alloc (.cells #[.int .u64 (lim a 0), .int .u64 (lim a 1), .int .u64 (lim a 2), .int .u64 (lim a 3)] 24)).alloc (.cells #[.int .u64 (lim b 0), .int .u64 (lim b 1), .int .u64 (lim b 2), .int .u64 (lim b 3)] 24)).alloc (.cells #[.int .u64 0, .int .u64 0, .int .u64 0, .int .u64 0] 24) := by
    unfold put4; simp [lim_z]
  have C2 : Cells4 (put4 (put4 (put4 w a) b) 0) (w.heap.size + 1 + 1) 0 := ⟨h3.1, h3.2.1, h3.2.2.1, h3.2.2.2, by simp [go_sem], by simp [go_sem], by simp [go_sem], by simp [go_sem]⟩
  clear h3
  rw [e0] at h1 h2 z1 z2 z3 hB C2
  clear e0
  go_enter Try.func17, Try.ntmps17
  go_upto_region 6 with fail
  generalize ((w.alloc (.cells #[.int .u64 (lim a 0), .int .u64 (lim a 1), .int .u64 (lim a 2), .int .u64 (lim a 3)] 24)).alloc (.cells #[.int .u64 (lim b 0), .int .u64 (lim b 1), .int .u64 (lim b 2), .int .u64 (lim b 3)] 24)).alloc (.cells #[.int .u64 0, .int .u64 0, .int .u64 0, .int .u64 0] 24) = X0 at *
  obtain ⟨k0, k1, k2, k3⟩ := id h1
  go_wp2_with fail
  refine (H5 _).mono ?_
  rintro e X1 ⟨rfl, hbn⟩
  replace h1 := Eq4.keep h1 hbn z1
  replace h2 := Eq4.keep h2 hbn z2
  replace C2 := C2.below hbn z3
  replace hB := below_over0 hB hbn
  replace z1 := Nat.lt_of_lt_of_le z1 hbn.size
  replace z2 := Nat.lt_of_lt_of_le z2 hbn.size
  replace z3 := Nat.lt_of_lt_of_le z3 hbn.size
  clear hbn k0 k1 k2 k3 H5
  obtain ⟨k0, k1, k2, k3⟩ := id h2
  go_wp2_with fail
  refine (H6 _).mono ?_
  rintro e X2 ⟨rfl, hbn⟩
  replace h1 := Eq4.keep h1 hbn z1
  replace h2 := Eq4.keep h2 hbn z2
  replace C2 := C2.below hbn z3
  replace hB := below_over0 hB hbn
  replace z1 := Nat.lt_of_lt_of_le z1 hbn.size
  replace z2 := Nat.lt_of_lt_of_le z2 hbn.size
  replace z3 := Nat.lt_of_lt_of_le z3 hbn.size
  clear hbn k0 k1 k2 k3 H6
  go_upto_region 8 with fail
  generalize X2 = W0 at *
  refine wp_region_held_drew (S := fun W => Below W0.heap.size W0 W) (by kernel_rfl) (Below.refl _ _).drew (fun hH => ?_)
  refine take_d (i := 0) (d := some 31) (v := .agg #[.int .u64 (lim a 0), .int .u64 (lim a 1), .int .u64 (lim a 2), .int .u64 (lim a 3)]) rfl rfl (by kernel_rfl) (by kernel_rfl) (by kernel_rfl) (fun _ _ _ h => h) (Or.inl ⟨by rfl, fun W hW => ?_⟩) hH ?_
  · obtain ⟨k0, k1, k2, k3⟩ := Eq4.keep h1 hW z1
    clear hW hH
    go_simp
  simp only [Act.put, List.setIfInBounds_toArray, List.set_cons_zero, List.set_cons_succ]
  refine take_d (i := 3) (d := some 34) (v := .agg #[.int .u64 (lim b 0), .int .u64 (lim b 1), .int .u64 (lim b 2), .int .u64 (lim b 3)]) rfl rfl (by kernel_rfl) (by kernel_rfl) (by kernel_rfl) (fun _ _ _ h => h) (Or.inl ⟨by rfl, fun W hW => ?_⟩) hH ?_
  · obtain ⟨k0, k1, k2, k3⟩ := Eq4.keep h2 hW z2
    clear hW hH
    go_simp
  simp only [Act.put, List.setIfInBounds_toArray, List.set_cons_zero, List.set_cons_succ]
  refine Nd.start (f := 9) (ZA := fun W p => Row4 W p 0 0 0 0) (ZB := fun W p => Row4 W p 0 0 0 0) (iA := 9) (iB := 10) (dA := 11) (dB := 12) (oA := .cells #[.int .u64 0, .int .u64 0, .int .u64 0, .int .u64 0] 24) (oB := .cells #[.int .u64 0, .int .u64 0, .int .u64 0, .int .u64 0] 24) (L := fun x y => #[true, false, false, true, false, false, false, false, false, x, y, false, false])
    ⟨fun _ _ _ h => by refine wpOp_step rfl (fun K' hK => ?_); go_simp; exact hK _ _ h, fun _ _ _ h => by refine wpOp_step rfl (fun K' hK => ?_); go_simp; exact hK _ _ h, fun W => row4_new W 0 0 0 0, fun W => row4_new W 0 0 0 0, fun _ _ _ hp hb h => h.below hb hp, fun _ _ _ hp hb h => h.below hb hp⟩ rfl undef undef rfl hH (fun R => ?_)
  refine Nd.step (c := 1) (d := 32) (v := .agg #[.int .u64 (lim a1 0), .int .u64 (lim a1 1), .int .u64 (lim a1 2), .int .u64 (lim a1 3)]) (l := []) (f' := 8) (L' := fun x y => #[true, true, false, true, false, false, false, false, false, x, y, false, false]) R rfl rfl (by intro a b; cases a <;> cases b <;> kernel_rfl) (by intros; kernel_rfl) (by intros; kernel_rfl) (fun _ => rfl) (fun _ => rfl) (fun X Y W1 K hH hK => ?_) (fun _ _ _ _ _ _ h => h) ?_
  · simp only [Act.put, List.setIfInBounds_toArray, List.set_cons_zero, List.set_cons_succ] at hK ⊢
    clear R hH
    go_simp
    refine (H1 _).mono ?_
    rintro e Wq ⟨rfl, hbn⟩
    go_wp2_with fail
    exact hK.out _ hbn
  refine Nd.step (c := 2) (d := 33) (v := .agg ls.toArray) (l := []) (f' := 7) (L' := fun x y => #[true, true, true, true, false, false, false, false, false, x, y, false, false]) R rfl rfl (by intro a b; cases a <;> cases b <;> kernel_rfl) (by intros; kernel_rfl) (by intros; kernel_rfl) (fun _ => rfl) (fun _ => rfl) (fun X Y W1 K hH hK => ?_) (fun _ _ _ _ _ _ h => h) ?_
  · simp only [puts, Act.put, List.setIfInBounds_toArray, List.set_cons_zero, List.set_cons_succ] at hK ⊢
    clear R hH
    go_simp
    refine (H2 _).mono ?_
    rintro e Wq ⟨rfl, hbn⟩
    go_wp2_with fail
    exact hK.out _ hbn
  refine Nd.step (c := 4) (d := 35) (v := .agg #[.int .u64 (lim b1 0), .int .u64 (lim b1 1), .int .u64 (lim b1 2), .int .u64 (lim b1 3)]) (l := []) (f' := 6) (L' := fun x y => #[true, true, true, true, true, false, false, false, false, x, y, false, false]) R rfl rfl (by intro a b; cases a <;> cases b <;> kernel_rfl) (by intros; kernel_rfl) (by intros; kernel_rfl) (fun _ => rfl) (fun _ => rfl) (fun X Y W1 K hH hK => ?_) (fun _ _ _ _ _ _ h => h) ?_
  · simp only [puts, Act.put, List.setIfInBounds_toArray, List.set_cons_zero, List.set_cons_succ] at hK ⊢
    clear R hH
    go_simp
    refine (H3 _).mono ?_
    rintro e Wq ⟨rfl, hbn⟩
    go_wp2_with fail
    exact hK.out _ hbn
  refine Nd.step (c := 5) (d := 36) (v := .tuple #[.agg #[.int .u64 (lim q 0), .int .u64 (lim q 1), .int .u64 (lim q 2), .int .u64 (lim q 3)], .agg #[.int .u64 (lim r 0), .int .u64 (lim r 1), .int .u64 (lim r 2), .int .u64 (lim r 3)]]) (l := [(30, .tuple #[.agg #[.int .u64 (lim q 0), .int .u64 (lim q 1), .int .u64 (lim q 2), .int .u64 (lim q 3)], .agg #[.int .u64 (lim r 0), .int .u64 (lim r 1), .int .u64 (lim r 2), .int .u64 (lim r 3)]]), (37, .agg #[.int .u64 (lim q 0), .int .u64 (lim q 1), .int .u64 (lim q 2), .int .u64 (lim q 3)]), (38, .agg #[.int .u64 (lim r 0), .int .u64 (lim r 1), .int .u64 (lim r 2), .int .u64 (lim r 3)])]) (f' := 2) (L' := fun x y => #[true, true, true, true, true, true, true, true, true, x, y, false, false]) R rfl rfl (by intro a b; cases a <;> cases b <;> kernel_rfl) (by intros; kernel_rfl) (by intros; kernel_rfl) (fun _ => rfl) (fun _ => rfl) (fun X Y W1 K hH hK => ?_) (fun x y X Y W1 hH hK => ?_) ?_
  · simp only [puts, Act.put, List.setIfInBounds_toArray, List.set_cons_zero, List.set_cons_succ] at hK ⊢
    clear R hH
    go_simp
    refine (H4 _).mono ?_
    rintro e Wq ⟨rfl, hbn⟩
    go_wp2_with fail
    exact hK.out _ hbn
  · simp only [puts, Act.put, List.setIfInBounds_toArray, List.set_cons_zero, List.set_cons_succ] at hK ⊢
    clear R
    refine take_d (i := 6) (d := some 30) (v := .tuple #[.agg #[.int .u64 (lim q 0), .int .u64 (lim q 1), .int .u64 (lim q 2), .int .u64 (lim q 3)], .agg #[.int .u64 (lim r 0), .int .u64 (lim r 1), .int .u64 (lim r 2), .int .u64 (lim r 3)]]) rfl rfl (by kernel_rfl) (by cases x <;> cases y <;> kernel_rfl) (by cases x <;> cases y <;> kernel_rfl) (fun _ _ _ h => h) (Or.inl ⟨by rfl, fun W hW => ?_⟩) hH ?_
    · clear hW hH hK
      go_simp
    simp only [Act.put, List.setIfInBounds_toArray, List.set_cons_zero, List.set_cons_succ]
    refine take_d (i := 7) (d := some 37) (v := .agg #[.int .u64 (lim q 0), .int .u64 (lim q 1), .int .u64 (lim q 2), .int .u64 (lim q 3)]) rfl rfl (by kernel_rfl) (by cases x <;> cases y <;> kernel_rfl) (by cases x <;> cases y <;> kernel_rfl) (fun _ _ _ h => h) (Or.inl ⟨by rfl, fun W hW => ?_⟩) hH ?_
    · clear hW hH hK
      go_simp
    simp only [Act.put, List.setIfInBounds_toArray, List.set_cons_zero, List.set_cons_succ]
    refine take_d (i := 8) (d := some 38) (v := .agg #[.int .u64 (lim r 0), .int .u64 (lim r 1), .int .u64 (lim r 2), .int .u64 (lim r 3)]) rfl rfl (by kernel_rfl) (by cases x <;> cases y <;> kernel_rfl) (by cases x <;> cases y <;> kernel_rfl) (fun _ _ _ h => h) (Or.inl ⟨by rfl, fun W hW => ?_⟩) hH ?_
    · clear hW hH hK
      go_simp
    simp only [Act.put, List.setIfInBounds_toArray, List.set_cons_zero, List.set_cons_succ]
    exact hK.out
  refine Nd.last (f := 1) R (by kernel_rfl) (by kernel_rfl) (by kernel_rfl) (by intros; kernel_rfl) (by intros; kernel_rfl) (fun _ => rfl) (fun _ => rfl) (fun p Q W1 hH hp hp' hq hq' hpq R5 R6 => ?_)
  simp only [puts, ptr, Act.put, List.setIfInBounds_toArray, List.set_cons_zero, List.set_cons_succ]
  clear R
  obtain ⟨e0, e1, e2, e3, ef⟩ := id R5
  have ef0 := ef 0 (by decide); have ef1 := ef 1 (by decide); have ef2 := ef 2 (by decide); have ef3 := ef 3 (by decide)
  clear ef
  have ho : Only W1 ((((W1.setCell ⟨p, 0, none⟩ (.int .u64 (lim q 0))).setCell ⟨p, 1, none⟩ (.int .u64 (lim q 1))).setCell ⟨p, 2, none⟩ (.int .u64 (lim q 2))).setCell ⟨p, 3, none⟩ (.int .u64 (lim q 3))) p 0 4 := ((((Only.refl _ _ _ _).setCell _ _ (by omega) (by omega)).setCell _ _ (by omega) (by omega)).setCell _ _ (by omega) (by omega)).setCell _ _ (by omega) (by omega)
  replace R6 := R6.only ho (by omega)
  replace R5 : Row4 ((((W1.setCell ⟨p, 0, none⟩ (.int .u64 (lim q 0))).setCell ⟨p, 1, none⟩ (.int .u64 (lim q 1))).setCell ⟨p, 2, none⟩ (.int .u64 (lim q 2))).setCell ⟨p, 3, none⟩ (.int .u64 (lim q 3))) p (lim q 0) (lim q 1) (lim q 2) (lim q 3) := ⟨by simp [go_sem, e0], by simp [go_sem, e1], by simp [go_sem, e2], by simp [go_sem, e3], fun j hj => (ho.frozen j).trans (R5.fz j hj)⟩
  have hB9 := hH.trans (ho.below (by omega))
  have hz := Nat.le_of_eq ho.size.symm
  clear ho
  refine wpAnyH_ready (rs := [11]) (by kernel_rfl) (by simp) ?_
  refine AllReadyH.cons rfl (fun K hK => ?_) AllReadyH.nil
  go_simp
  refine hK.out _ _ hB9 (fun hH => ?_)
  clear hK K e0 e1 e2 e3 ef0 ef1 ef2 ef3 hB9
  generalize ((((W1.setCell ⟨p, 0, none⟩ (.int .u64 (lim q 0))).setCell ⟨p, 1, none⟩ (.int .u64 (lim q 1))).setCell ⟨p, 2, none⟩ (.int .u64 (lim q 2))).setCell ⟨p, 3, none⟩ (.int .u64 (lim q 3))) = W2 at hH hz R6 R5 ⊢
  obtain ⟨e0, e1, e2, e3, ef⟩ := id R6
  have ef0 := ef 0 (by decide); have ef1 := ef 1 (by decide); have ef2 := ef 2 (by decide); have ef3 := ef 3 (by decide)
  clear ef
  have ho : Only W2 ((((W2.setCell ⟨Q, 0, none⟩ (.int .u64 (lim r 0))).setCell ⟨Q, 1, none⟩ (.int .u64 (lim r 1))).setCell ⟨Q, 2, none⟩ (.int .u64 (lim r 2))).setCell ⟨Q, 3, none⟩ (.int .u64 (lim r 3))) Q 0 4 := ((((Only.refl _ _ _ _).setCell _ _ (by omega) (by omega)).setCell _ _ (by omega) (by omega)).setCell _ _ (by omega) (by omega)).setCell _ _ (by omega) (by omega)
  replace R5 := R5.only ho (by omega)
  have hB9 := hH.trans (ho.below (by omega))
  have hz := Nat.le_of_eq ho.size.symm
  clear ho
  refine wpAnyH_ready (rs := [12]) (by kernel_rfl) (by simp) ?_
  refine AllReadyH.cons rfl (fun K hK => ?_) AllReadyH.nil
  go_simp
  refine hK.out _ _ hB9 (fun hH => ?_)
  clear hK K e0 e1 e2 e3 ef0 ef1 ef2 ef3 hB9 R6
  generalize ((((W2.setCell ⟨Q, 0, none⟩ (.int .u64 (lim r 0))).setCell ⟨Q, 1, none⟩ (.int .u64 (lim r 1))).setCell ⟨Q, 2, none⟩ (.int .u64 (lim r 2))).setCell ⟨Q, 3, none⟩ (.int .u64 (lim r 3))) = W3 at hH hz R5 ⊢
  refine wpAnyH_done (by kernel_rfl) ?_ _
  obtain ⟨e0, e1, e2, e3, -⟩ := R5
  obtain ⟨x0, x1, x2, x3, x4, x5, x6, x7⟩ := C2.below hH z3
  go_wp2
  simp [bodyPost, results, Try.results17, go_sem, x0, x1, x2, x3]
  exact set4_below (hB.trans (hH.mono hB.size)) (by omega) _

end Go.Proofs.Ytbephahokhnccaa

namespace Go.Proofs.Ytbephahokhnccaa
open Go.RowKit Go.Shelf
attribute [local go_sem] wd

set_option maxHeartbeats 16000000 in
theorem rdvd7_t (a b a1 b1 q r n : Nat) (s : Bool) (ls : List Value) (H1 : ∀ w : World, Calls Try.prog 48 #[wd a] w fun e w' => e = .returned (wd a1) ∧ Below w.heap.size w w') (H2 : ∀ w : World, Calls Try.prog 19 #[wd a1] w fun e w' => e = .returned (.agg ls.toArray) ∧ Below w.heap.size w w') (H3 : ∀ w : World, Calls Try.prog 48 #[wd b] w fun e w' => e = .returned (wd b1) ∧ Below w.heap.size w w') (H4 : ∀ w : World, Calls Try.prog 18 #[.agg ls.toArray, wd b1] w fun e w' => e = .returned (.tuple #[wd q, wd r]) ∧ Below w.heap.size w w') (H5 : ∀ w : World, Calls Try.prog 47 #[wd a] w fun e w' => e = .returned (.bool true) ∧ Below w.heap.size w w') (H6 : ∀ w : World, Calls Try.prog 47 #[wd b] w fun e w' => e = .returned (.bool s) ∧ Below w.heap.size w w') (H7 : ∀ w : World, Calls Try.prog 49 #[wd r] w fun e w' => e = .returned (wd n) ∧ Below w.heap.size w w') (w : World) :
    Calls Try.prog 17 #[.int .u8 7, wd a, wd b] w fun e w' => e = .returned (wd n) ∧ Below w.heap.size w w' := by
  obtain ⟨h1, h2, h3, ⟨z1, z2, z3⟩, hB⟩ := held_start w a b 0
  have e0 : put4 (put4 (put4 w a) b) 0 = ((w.alloc (.cells #[.int .u64 (lim a 0), .int .u64 (lim a 1), .int .u64 (lim a 2), .int .u64 (lim a 3)] 24)).alloc (.cells #[.int .u64 (lim b 0), .int .u64 (lim b 1), .int .u64 (lim b 2), .int .u64 (lim b 3)] 24)).alloc (.cells #[.int .u64 0, .int .u64 0, .int .u64 0, .int .u64 0] 24) := by
    unfold put4; simp [lim_z]
  have C2 : Cells4 (put4 (put4 (put4 w a) b) 0) (w.heap.size + 1 + 1) 0 := ⟨h3.1, h3.2.1, h3.2.2.1, h3.2.2.2, by simp [go_sem], by simp [go_sem], by simp [go_sem], by simp [go_sem]⟩
  clear h3
  rw [e0] at h1 h2 z1 z2 z3 hB C2
  clear e0
  go_enter Try.func17, Try.ntmps17
  go_upto_region 6 with fail
  generalize ((w.alloc (.cells #[.int .u64 (lim a 0), .int .u64 (lim a 1), .int .u64 (lim a 2), .int .u64 (lim a 3)] 24)).alloc (.cells #[.int .u64 (lim b 0), .int .u64 (lim b 1), .int .u64 (lim b 2), .int .u64 (lim b 3)] 24)).alloc (.cells #[.int .u64 0, .int .u64 0, .int .u64 0, .int .u64 0] 24) = X0 at *
  obtain ⟨k0, k1, k2, k3⟩ := id h1
  go_wp2_with fail
  refine (H5 _).mono ?_
  rintro e X1 ⟨rfl, hbn⟩
  replace h1 := Eq4.keep h1 hbn z1
  replace h2 := Eq4.keep h2 hbn z2
  replace C2 := C2.below hbn z3
  replace hB := below_over0 hB hbn
  replace z1 := Nat.lt_of_lt_of_le z1 hbn.size
  replace z2 := Nat.lt_of_lt_of_le z2 hbn.size
  replace z3 := Nat.lt_of_lt_of_le z3 hbn.size
  clear hbn k0 k1 k2 k3 H5
  obtain ⟨k0, k1, k2, k3⟩ := id h2
  go_wp2_with fail
  refine (H6 _).mono ?_
  rintro e X2 ⟨rfl, hbn⟩
  replace h1 := Eq4.keep h1 hbn z1
  replace h2 := Eq4.keep h2 hbn z2
  replace C2 := C2.below hbn z3
  replace hB := below_over0 hB hbn
  replace z1 := Nat.lt_of_lt_of_le z1 hbn.size
  replace z2 := Nat.lt_of_lt_of_le z2 hbn.size
  replace z3 := Nat.lt_of_lt_of_le z3 hbn.size
  clear hbn k0 k1 k2 k3 H6
  go_upto_region 8 with fail
  generalize X2 = W0 at *
  refine wp_region_held_drew (S := fun W => Below W0.heap.size W0 W) (by kernel_rfl) (Below.refl _ _).drew (fun hH => ?_)
  refine take_d (i := 0) (d := some 31) (v := .agg #[.int .u64 (lim a 0), .int .u64 (lim a 1), .int .u64 (lim a 2), .int .u64 (lim a 3)]) rfl rfl (by kernel_rfl) (by kernel_rfl) (by kernel_rfl) (fun _ _ _ h => h) (Or.inl ⟨by rfl, fun W hW => ?_⟩) hH ?_
  · obtain ⟨k0, k1, k2, k3⟩ := Eq4.keep h1 hW z1
    clear hW hH
    go_simp
  simp only [Act.put, List.setIfInBounds_toArray, List.set_cons_zero, List.set_cons_succ]
  refine take_d (i := 3) (d := some 34) (v := .agg #[.int .u64 (lim b 0), .int .u64 (lim b 1), .int .u64 (lim b 2), .int .u64 (lim b 3)]) rfl rfl (by kernel_rfl) (by kernel_rfl) (by kernel_rfl) (fun _ _ _ h => h) (Or.inl ⟨by rfl, fun W hW => ?_⟩) hH ?_
  · obtain ⟨k0, k1, k2, k3⟩ := Eq4.keep h2 hW z2
    clear hW hH
    go_simp
  simp only [Act.put, List.setIfInBounds_toArray, List.set_cons_zero, List.set_cons_succ]
  refine Nd.start (f := 9) (ZA := fun W p => Row4 W p 0 0 0 0) (ZB := fun W p => Row4 W p 0 0 0 0) (iA := 9) (iB := 10) (dA := 11) (dB := 12) (oA := .cells #[.int .u64 0, .int .u64 0, .int .u64 0, .int .u64 0] 24) (oB := .cells #[.int .u64 0, .int .u64 0, .int .u64 0, .int .u64 0] 24) (L := fun x y => #[true, false, false, true, false, false, false, false, false, x, y, false, false])
    ⟨fun _ _ _ h => by refine wpOp_step rfl (fun K' hK => ?_); go_simp; exact hK _ _ h, fun _ _ _ h => by refine wpOp_step rfl (fun K' hK => ?_); go_simp; exact hK _ _ h, fun W => row4_new W 0 0 0 0, fun W => row4_new W 0 0 0 0, fun _ _ _ hp hb h => h.below hb hp, fun _ _ _ hp hb h => h.below hb hp⟩ rfl undef undef rfl hH (fun R => ?_)
  refine Nd.step (c := 1) (d := 32) (v := .agg #[.int .u64 (lim a1 0), .int .u64 (lim a1 1), .int .u64 (lim a1 2), .int .u64 (lim a1 3)]) (l := []) (f' := 8) (L' := fun x y => #[true, true, false, true, false, false, false, false, false, x, y, false, false]) R rfl rfl (by intro a b; cases a <;> cases b <;> kernel_rfl) (by intros; kernel_rfl) (by intros; kernel_rfl) (fun _ => rfl) (fun _ => rfl) (fun X Y W1 K hH hK => ?_) (fun _ _ _ _ _ _ h => h) ?_
  · simp only [Act.put, List.setIfInBounds_toArray, List.set_cons_zero, List.set_cons_succ] at hK ⊢
    clear R hH
    go_simp
    refine (H1 _).mono ?_
    rintro e Wq ⟨rfl, hbn⟩
    go_wp2_with fail
    exact hK.out _ hbn
  refine Nd.step (c := 2) (d := 33) (v := .agg ls.toArray) (l := []) (f' := 7) (L' := fun x y => #[true, true, true, true, false, false, false, false, false, x, y, false, false]) R rfl rfl (by intro a b; cases a <;> cases b <;> kernel_rfl) (by intros; kernel_rfl) (by intros; kernel_rfl) (fun _ => rfl) (fun _ => rfl) (fun X Y W1 K hH hK => ?_) (fun _ _ _ _ _ _ h => h) ?_
  · simp only [puts, Act.put, List.setIfInBounds_toArray, List.set_cons_zero, List.set_cons_succ] at hK ⊢
    clear R hH
    go_simp
    refine (H2 _).mono ?_
    rintro e Wq ⟨rfl, hbn⟩
    go_wp2_with fail
    exact hK.out _ hbn
  refine Nd.step (c := 4) (d := 35) (v := .agg #[.int .u64 (lim b1 0), .int .u64 (lim b1 1), .int .u64 (lim b1 2), .int .u64 (lim b1 3)]) (l := []) (f' := 6) (L' := fun x y => #[true, true, true, true, true, false, false, false, false, x, y, false, false]) R rfl rfl (by intro a b; cases a <;> cases b <;> kernel_rfl) (by intros; kernel_rfl) (by intros; kernel_rfl) (fun _ => rfl) (fun _ => rfl) (fun X Y W1 K hH hK => ?_) (fun _ _ _ _ _ _ h => h) ?_
  · simp only [puts, Act.put, List.setIfInBounds_toArray, List.set_cons_zero, List.set_cons_succ] at hK ⊢
    clear R hH
    go_simp
    refine (H3 _).mono ?_
    rintro e Wq ⟨rfl, hbn⟩
    go_wp2_with fail
    exact hK.out _ hbn
  refine Nd.step (c := 5) (d := 36) (v := .tuple #[.agg #[.int .u64 (lim q 0), .int .u64 (lim q 1), .int .u64 (lim q 2), .int .u64 (lim q 3)], .agg #[.int .u64 (lim r 0), .int .u64 (lim r 1), .int .u64 (lim r 2), .int .u64 (lim r 3)]]) (l := [(30, .tuple #[.agg #[.int .u64 (lim q 0), .int .u64 (lim q 1), .int .u64 (lim q 2), .int .u64 (lim q 3)], .agg #[.int .u64 (lim r 0), .int .u64 (lim r 1), .int .u64 (lim r 2), .int .u64 (lim r 3)]]), (37, .agg #[.int .u64 (lim q 0), .int .u64 (lim q 1), .int .u64 (lim q 2), .int .u64 (lim q 3)]), (38, .agg #[.int .u64 (lim r 0), .int .u64 (lim r 1), .int .u64 (lim r 2), .int .u64 (lim r 3)])]) (f' := 2) (L' := fun x y => #[true, true, true, true, true, true, true, true, true, x, y, false, false]) R rfl rfl (by intro a b; cases a <;> cases b <;> kernel_rfl) (by intros; kernel_rfl) (by intros; kernel_rfl) (fun _ => rfl) (fun _ => rfl) (fun X Y W1 K hH hK => ?_) (fun x y X Y W1 hH hK => ?_) ?_
  · simp only [puts, Act.put, List.setIfInBounds_toArray, List.set_cons_zero, List.set_cons_succ] at hK ⊢
    clear R hH
    go_simp
    refine (H4 _).mono ?_
    rintro e Wq ⟨rfl, hbn⟩
    go_wp2_with fail
    exact hK.out _ hbn
  · simp only [puts, Act.put, List.setIfInBounds_toArray, List.set_cons_zero, List.set_cons_succ] at hK ⊢
    clear R
    refine take_d (i := 6) (d := some 30) (v := .tuple #[.agg #[.int .u64 (lim q 0), .int .u64 (lim q 1), .int .u64 (lim q 2), .int .u64 (lim q 3)], .agg #[.int .u64 (lim r 0), .int .u64 (lim r 1), .int .u64 (lim r 2), .int .u64 (lim r 3)]]) rfl rfl (by kernel_rfl) (by cases x <;> cases y <;> kernel_rfl) (by cases x <;> cases y <;> kernel_rfl) (fun _ _ _ h => h) (Or.inl ⟨by rfl, fun W hW => ?_⟩) hH ?_
    · clear hW hH hK
      go_simp
    simp only [Act.put, List.setIfInBounds_toArray, List.set_cons_zero, List.set_cons_succ]
    refine take_d (i := 7) (d := some 37) (v := .agg #[.int .u64 (lim q 0), .int .u64 (lim q 1), .int .u64 (lim q 2), .int .u64 (lim q 3)]) rfl rfl (by kernel_rfl) (by cases x <;> cases y <;> kernel_rfl) (by cases x <;> cases y <;> kernel_rfl) (fun _ _ _ h => h) (Or.inl ⟨by rfl, fun W hW => ?_⟩) hH ?_
    · clear hW hH hK
      go_simp
    simp only [Act.put, List.setIfInBounds_toArray, List.set_cons_zero, List.set_cons_succ]
    refine take_d (i := 8) (d := some 38) (v := .agg #[.int .u64 (lim r 0), .int .u64 (lim r 1), .int .u64 (lim r 2), .int .u64 (lim r 3)]) rfl rfl (by kernel_rfl) (by cases x <;> cases y <;> kernel_rfl) (by cases x <;> cases y <;> kernel_rfl) (fun _ _ _ h => h) (Or.inl ⟨by rfl, fun W hW => ?_⟩) hH ?_
    · clear hW hH hK
      go_simp
    simp only [Act.put, List.setIfInBounds_toArray, List.set_cons_zero, List.set_cons_succ]
    exact hK.out
  refine Nd.last (f := 1) R (by kernel_rfl) (by kernel_rfl) (by kernel_rfl) (by intros; kernel_rfl) (by intros; kernel_rfl) (fun _ => rfl) (fun _ => rfl) (fun p Q W1 hH hp hp' hq hq' hpq R5 R6 => ?_)
  simp only [puts, ptr, Act.put, List.setIfInBounds_toArray, List.set_cons_zero, List.set_cons_succ]
  clear R
  obtain ⟨e0, e1, e2, e3, ef⟩ := id R5
  have ef0 := ef 0 (by decide); have ef1 := ef 1 (by decide); have ef2 := ef 2 (by decide); have ef3 := ef 3 (by decide)
  clear ef
  have ho : Only W1 ((((W1.setCell ⟨p, 0, none⟩ (.int .u64 (lim q 0))).setCell ⟨p, 1, none⟩ (.int .u64 (lim q 1))).setCell ⟨p, 2, none⟩ (.int .u64 (lim q 2))).setCell ⟨p, 3, none⟩ (.int .u64 (lim q 3))) p 0 4 := ((((Only.refl _ _ _ _).setCell _ _ (by omega) (by omega)).setCell _ _ (by omega) (by omega)).setCell _ _ (by omega) (by omega)).setCell _ _ (by omega) (by omega)
  replace R6 := R6.only ho (by omega)
  have hB9 := hH.trans (ho.below (by omega))
  have hz := Nat.le_of_eq ho.size.symm
  clear ho
  refine wpAnyH_ready (rs := [11]) (by kernel_rfl) (by simp) ?_
  refine AllReadyH.cons rfl (fun K hK => ?_) AllReadyH.nil
  go_simp
  refine hK.out _ _ hB9 (fun hH => ?_)
  clear hK K e0 e1 e2 e3 ef0 ef1 ef2 ef3 hB9 R5
  generalize ((((W1.setCell ⟨p, 0, none⟩ (.int .u64 (lim q 0))).setCell ⟨p, 1, none⟩ (.int .u64 (lim q 1))).setCell ⟨p, 2, none⟩ (.int .u64 (lim q 2))).setCell ⟨p, 3, none⟩ (.int .u64 (lim q 3))) = W2 at hH hz R6 ⊢
  obtain ⟨e0, e1, e2, e3, ef⟩ := id R6
  have ef0 := ef 0 (by decide); have ef1 := ef 1 (by decide); have ef2 := ef 2 (by decide); have ef3 := ef 3 (by decide)
  clear ef
  have ho : Only W2 ((((W2.setCell ⟨Q, 0, none⟩ (.int .u64 (lim r 0))).setCell ⟨Q, 1, none⟩ (.int .u64 (lim r 1))).setCell ⟨Q, 2, none⟩ (.int .u64 (lim r 2))).setCell ⟨Q, 3, none⟩ (.int .u64 (lim r 3))) Q 0 4 := ((((Only.refl _ _ _ _).setCell _ _ (by omega) (by omega)).setCell _ _ (by omega) (by omega)).setCell _ _ (by omega) (by omega)).setCell _ _ (by omega) (by omega)
  replace R6 : Row4 ((((W2.setCell ⟨Q, 0, none⟩ (.int .u64 (lim r 0))).setCell ⟨Q, 1, none⟩ (.int .u64 (lim r 1))).setCell ⟨Q, 2, none⟩ (.int .u64 (lim r 2))).setCell ⟨Q, 3, none⟩ (.int .u64 (lim r 3))) Q (lim r 0) (lim r 1) (lim r 2) (lim r 3) := ⟨by simp [go_sem, e0], by simp [go_sem, e1], by simp [go_sem, e2], by simp [go_sem, e3], fun j hj => (ho.frozen j).trans (R6.fz j hj)⟩
  have hB9 := hH.trans (ho.below (by omega))
  have hz := Nat.le_of_eq ho.size.symm
  clear ho
  refine wpAnyH_ready (rs := [12]) (by kernel_rfl) (by simp) ?_
  refine AllReadyH.cons rfl (fun K hK => ?_) AllReadyH.nil
  go_simp
  refine hK.out _ _ hB9 (fun hH => ?_)
  clear hK K e0 e1 e2 e3 ef0 ef1 ef2 ef3 hB9
  generalize ((((W2.setCell ⟨Q, 0, none⟩ (.int .u64 (lim r 0))).setCell ⟨Q, 1, none⟩ (.int .u64 (lim r 1))).setCell ⟨Q, 2, none⟩ (.int .u64 (lim r 2))).setCell ⟨Q, 3, none⟩ (.int .u64 (lim r 3))) = W3 at hH hz R6 ⊢
  refine wpAnyH_done (by kernel_rfl) ?_ _
  obtain ⟨e0, e1, e2, e3, -⟩ := R6
  go_wp2_with fail
  refine (H7 _).mono ?_
  rintro e wl ⟨rfl, hbl⟩
  have hTl := below_over0 hH hbl
  obtain ⟨x0, x1, x2, x3, x4, x5, x6, x7⟩ := C2.below hTl z3
  clear e0 e1 e2 e3 hbl
  go_wp2
  simp [bodyPost, results, Try.results17, go_sem, x0, x1, x2, x3]
  exact set4_below (hB.trans (hTl.mono hB.size)) (by omega) _

set_option maxHeartbeats 16000000 in
theorem rdvd7_f (a b a1 b1 q r n : Nat) (s : Bool) (ls : List Value) (H1 : ∀ w : World, Calls Try.prog 48 #[wd a] w fun e w' => e = .returned (wd a1) ∧ Below w.heap.size w w') (H2 : ∀ w : World, Calls Try.prog 19 #[wd a1] w fun e w' => e = .returned (.agg ls.toArray) ∧ Below w.heap.size w w') (H3 : ∀ w : World, Calls Try.prog 48 #[wd b] w fun e w' => e = .returned (wd b1) ∧ Below w.heap.size w w') (H4 : ∀ w : World, Calls Try.prog 18 #[.agg ls.toArray, wd b1] w fun e w' => e = .returned (.tuple #[wd q, wd r]) ∧ Below w.heap.size w w') (H5 : ∀ w : World, Calls Try.prog 47 #[wd a] w fun e w' => e = .returned (.bool false) ∧ Below w.heap.size w w') (H6 : ∀ w : World, Calls Try.prog 47 #[wd b] w fun e w' => e = .returned (.bool s) ∧ Below w.heap.size w w') (_hn : n = r) (w : World) :
    Calls Try.prog 17 #[.int .u8 7, wd a, wd b] w fun e w' => e = .returned (wd r) ∧ Below w.heap.size w w' := by
  obtain ⟨h1, h2, h3, ⟨z1, z2, z3⟩, hB⟩ := held_start w a b 0
  have e0 : put4 (put4 (put4 w a) b) 0 = ((w.alloc (.cells #[.int .u64 (lim a 0), .int .u64 (lim a 1), .int .u64 (lim a 2), .int .u64 (lim a 3)] 24)).alloc (.cells #[.int .u64 (lim b 0), .int .u64 (lim b 1), .int .u64 (lim b 2), .int .u64 (lim b 3)] 24)).alloc (.cells #[.int .u64 0, .int .u64 0, .int .u64 0, .int .u64 0] 24) := by
    unfold put4; simp [lim_z]
  have C2 : Cells4 (put4 (put4 (put4 w a) b) 0) (w.heap.size + 1 + 1) 0 := ⟨h3.1, h3.2.1, h3.2.2.1, h3.2.2.2, by simp [go_sem], by simp [go_sem], by simp [go_sem], by simp [go_sem]⟩
  clear h3
  rw [e0] at h1 h2 z1 z2 z3 hB C2
  clear e0
  go_enter Try.func17, Try.ntmps17
  go_upto_region 6 with fail
  generalize ((w.alloc (.cells #[.int .u64 (lim a 0), .int .u64 (lim a 1), .int .u64 (lim a 2), .int .u64 (lim a 3)] 24)).alloc (.cells #[.int .u64 (lim b 0), .int .u64 (lim b 1), .int .u64 (lim b 2), .int .u64 (lim b 3)] 24)).alloc (.cells #[.int .u64 0, .int .u64 0, .int .u64 0, .int .u64 0] 24) = X0 at *
  obtain ⟨k0, k1, k2, k3⟩ := id h1
  go_wp2_with fail
  refine (H5 _).mono ?_
  rintro e X1 ⟨rfl, hbn⟩
  replace h1 := Eq4.keep h1 hbn z1
  replace h2 := Eq4.keep h2 hbn z2
  replace C2 := C2.below hbn z3
  replace hB := below_over0 hB hbn
  replace z1 := Nat.lt_of_lt_of_le z1 hbn.size
  replace z2 := Nat.lt_of_lt_of_le z2 hbn.size
  replace z3 := Nat.lt_of_lt_of_le z3 hbn.size
  clear hbn k0 k1 k2 k3 H5
  obtain ⟨k0, k1, k2, k3⟩ := id h2
  go_wp2_with fail
  refine (H6 _).mono ?_
  rintro e X2 ⟨rfl, hbn⟩
  replace h1 := Eq4.keep h1 hbn z1
  replace h2 := Eq4.keep h2 hbn z2
  replace C2 := C2.below hbn z3
  replace hB := below_over0 hB hbn
  replace z1 := Nat.lt_of_lt_of_le z1 hbn.size
  replace z2 := Nat.lt_of_lt_of_le z2 hbn.size
  replace z3 := Nat.lt_of_lt_of_le z3 hbn.size
  clear hbn k0 k1 k2 k3 H6
  go_upto_region 8 with fail
  generalize X2 = W0 at *
  refine wp_region_held_drew (S := fun W => Below W0.heap.size W0 W) (by kernel_rfl) (Below.refl _ _).drew (fun hH => ?_)
  refine take_d (i := 0) (d := some 31) (v := .agg #[.int .u64 (lim a 0), .int .u64 (lim a 1), .int .u64 (lim a 2), .int .u64 (lim a 3)]) rfl rfl (by kernel_rfl) (by kernel_rfl) (by kernel_rfl) (fun _ _ _ h => h) (Or.inl ⟨by rfl, fun W hW => ?_⟩) hH ?_
  · obtain ⟨k0, k1, k2, k3⟩ := Eq4.keep h1 hW z1
    clear hW hH
    go_simp
  simp only [Act.put, List.setIfInBounds_toArray, List.set_cons_zero, List.set_cons_succ]
  refine take_d (i := 3) (d := some 34) (v := .agg #[.int .u64 (lim b 0), .int .u64 (lim b 1), .int .u64 (lim b 2), .int .u64 (lim b 3)]) rfl rfl (by kernel_rfl) (by kernel_rfl) (by kernel_rfl) (fun _ _ _ h => h) (Or.inl ⟨by rfl, fun W hW => ?_⟩) hH ?_
  · obtain ⟨k0, k1, k2, k3⟩ := Eq4.keep h2 hW z2
    clear hW hH
    go_simp
  simp only [Act.put, List.setIfInBounds_toArray, List.set_cons_zero, List.set_cons_succ]
  refine Nd.start (f := 9) (ZA := fun W p => Row4 W p 0 0 0 0) (ZB := fun W p => Row4 W p 0 0 0 0) (iA := 9) (iB := 10) (dA := 11) (dB := 12) (oA := .cells #[.int .u64 0, .int .u64 0, .int .u64 0, .int .u64 0] 24) (oB := .cells #[.int .u64 0, .int .u64 0, .int .u64 0, .int .u64 0] 24) (L := fun x y => #[true, false, false, true, false, false, false, false, false, x, y, false, false])
    ⟨fun _ _ _ h => by refine wpOp_step rfl (fun K' hK => ?_); go_simp; exact hK _ _ h, fun _ _ _ h => by refine wpOp_step rfl (fun K' hK => ?_); go_simp; exact hK _ _ h, fun W => row4_new W 0 0 0 0, fun W => row4_new W 0 0 0 0, fun _ _ _ hp hb h => h.below hb hp, fun _ _ _ hp hb h => h.below hb hp⟩ rfl undef undef rfl hH (fun R => ?_)
  refine Nd.step (c := 1) (d := 32) (v := .agg #[.int .u64 (lim a1 0), .int .u64 (lim a1 1), .int .u64 (lim a1 2), .int .u64 (lim a1 3)]) (l := []) (f' := 8) (L' := fun x y => #[true, true, false, true, false, false, false, false, false, x, y, false, false]) R rfl rfl (by intro a b; cases a <;> cases b <;> kernel_rfl) (by intros; kernel_rfl) (by intros; kernel_rfl) (fun _ => rfl) (fun _ => rfl) (fun X Y W1 K hH hK => ?_) (fun _ _ _ _ _ _ h => h) ?_
  · simp only [Act.put, List.setIfInBounds_toArray, List.set_cons_zero, List.set_cons_succ] at hK ⊢
    clear R hH
    go_simp
    refine (H1 _).mono ?_
    rintro e Wq ⟨rfl, hbn⟩
    go_wp2_with fail
    exact hK.out _ hbn
  refine Nd.step (c := 2) (d := 33) (v := .agg ls.toArray) (l := []) (f' := 7) (L' := fun x y => #[true, true, true, true, false, false, false, false, false, x, y, false, false]) R rfl rfl (by intro a b; cases a <;> cases b <;> kernel_rfl) (by intros; kernel_rfl) (by intros; kernel_rfl) (fun _ => rfl) (fun _ => rfl) (fun X Y W1 K hH hK => ?_) (fun _ _ _ _ _ _ h => h) ?_
  · simp only [puts, Act.put, List.setIfInBounds_toArray, List.set_cons_zero, List.set_cons_succ] at hK ⊢
    clear R hH
    go_simp
    refine (H2 _).mono ?_
    rintro e Wq ⟨rfl, hbn⟩
    go_wp2_with fail
    exact hK.out _ hbn
  refine Nd.step (c := 4) (d := 35) (v := .agg #[.int .u64 (lim b1 0), .int .u64 (lim b1 1), .int .u64 (lim b1 2), .int .u64 (lim b1 3)]) (l := []) (f' := 6) (L' := fun x y => #[true, true, true, true, true, false, false, false, false, x, y, false, false]) R rfl rfl (by intro a b; cases a <;> cases b <;> kernel_rfl) (by intros; kernel_rfl) (by intros; kernel_rfl) (fun _ => rfl) (fun _ => rfl) (fun X Y W1 K hH hK => ?_) (fun _ _ _ _ _ _ h => h) ?_
  · simp only [puts, Act.put, List.setIfInBounds_toArray, List.set_cons_zero, List.set_cons_succ] at hK ⊢
    clear R hH
    go_simp
    refine (H3 _).mono ?_
    rintro e Wq ⟨rfl, hbn⟩
    go_wp2_with fail
    exact hK.out _ hbn
  refine Nd.step (c := 5) (d := 36) (v := .tuple #[.agg #[.int .u64 (lim q 0), .int .u64 (lim q 1), .int .u64 (lim q 2), .int .u64 (lim q 3)], .agg #[.int .u64 (lim r 0), .int .u64 (lim r 1), .int .u64 (lim r 2), .int .u64 (lim r 3)]]) (l := [(30, .tuple #[.agg #[.int .u64 (lim q 0), .int .u64 (lim q 1), .int .u64 (lim q 2), .int .u64 (lim q 3)], .agg #[.int .u64 (lim r 0), .int .u64 (lim r 1), .int .u64 (lim r 2), .int .u64 (lim r 3)]]), (37, .agg #[.int .u64 (lim q 0), .int .u64 (lim q 1), .int .u64 (lim q 2), .int .u64 (lim q 3)]), (38, .agg #[.int .u64 (lim r 0), .int .u64 (lim r 1), .int .u64 (lim r 2), .int .u64 (lim r 3)])]) (f' := 2) (L' := fun x y => #[true, true, true, true, true, true, true, true, true, x, y, false, false]) R rfl rfl (by intro a b; cases a <;> cases b <;> kernel_rfl) (by intros; kernel_rfl) (by intros; kernel_rfl) (fun _ => rfl) (fun _ => rfl) (fun X Y W1 K hH hK => ?_) (fun x y X Y W1 hH hK => ?_) ?_
  · simp only [puts, Act.put, List.setIfInBounds_toArray, List.set_cons_zero, List.set_cons_succ] at hK ⊢
    clear R hH
    go_simp
    refine (H4 _).mono ?_
    rintro e Wq ⟨rfl, hbn⟩
    go_wp2_with fail
    exact hK.out _ hbn
  · simp only [puts, Act.put, List.setIfInBounds_toArray, List.set_cons_zero, List.set_cons_succ] at hK ⊢
    clear R
    refine take_d (i := 6) (d := some 30) (v := .tuple #[.agg #[.int .u64 (lim q 0), .int .u64 (lim q 1), .int .u64 (lim q 2), .int .u64 (lim q 3)], .agg #[.int .u64 (lim r 0), .int .u64 (lim r 1), .int .u64 (lim r 2), .int .u64 (lim r 3)]]) rfl rfl (by kernel_rfl) (by cases x <;> cases y <;> kernel_rfl) (by cases x <;> cases y <;> kernel_rfl) (fun _ _ _ h => h) (Or.inl ⟨by rfl, fun W hW => ?_⟩) hH ?_
    · clear hW hH hK
      go_simp
    simp only [Act.put, List.setIfInBounds_toArray, List.set_cons_zero, List.set_cons_succ]
    refine take_d (i := 7) (d := some 37) (v := .agg #[.int .u64 (lim q 0), .int .u64 (lim q 1), .int .u64 (lim q 2), .int .u64 (lim q 3)]) rfl rfl (by kernel_rfl) (by cases x <;> cases y <;> kernel_rfl) (by cases x <;> cases y <;> kernel_rfl) (fun _ _ _ h => h) (Or.inl ⟨by rfl, fun W hW => ?_⟩) hH ?_
    · clear hW hH hK
      go_simp
    simp only [Act.put, List.setIfInBounds_toArray, List.set_cons_zero, List.set_cons_succ]
    refine take_d (i := 8) (d := some 38) (v := .agg #[.int .u64 (lim r 0), .int .u64 (lim r 1), .int .u64 (lim r 2), .int .u64 (lim r 3)]) rfl rfl (by kernel_rfl) (by cases x <;> cases y <;> kernel_rfl) (by cases x <;> cases y <;> kernel_rfl) (fun _ _ _ h => h) (Or.inl ⟨by rfl, fun W hW => ?_⟩) hH ?_
    · clear hW hH hK
      go_simp
    simp only [Act.put, List.setIfInBounds_toArray, List.set_cons_zero, List.set_cons_succ]
    exact hK.out
  refine Nd.last (f := 1) R (by kernel_rfl) (by kernel_rfl) (by kernel_rfl) (by intros; kernel_rfl) (by intros; kernel_rfl) (fun _ => rfl) (fun _ => rfl) (fun p Q W1 hH hp hp' hq hq' hpq R5 R6 => ?_)
  simp only [puts, ptr, Act.put, List.setIfInBounds_toArray, List.set_cons_zero, List.set_cons_succ]
  clear R
  obtain ⟨e0, e1, e2, e3, ef⟩ := id R5
  have ef0 := ef 0 (by decide); have ef1 := ef 1 (by decide); have ef2 := ef 2 (by decide); have ef3 := ef 3 (by decide)
  clear ef
  have ho : Only W1 ((((W1.setCell ⟨p, 0, none⟩ (.int .u64 (lim q 0))).setCell ⟨p, 1, none⟩ (.int .u64 (lim q 1))).setCell ⟨p, 2, none⟩ (.int .u64 (lim q 2))).setCell ⟨p, 3, none⟩ (.int .u64 (lim q 3))) p 0 4 := ((((Only.refl _ _ _ _).setCell _ _ (by omega) (by omega)).setCell _ _ (by omega) (by omega)).setCell _ _ (by omega) (by omega)).setCell _ _ (by omega) (by omega)
  replace R6 := R6.only ho (by omega)
  have hB9 := hH.trans (ho.below (by omega))
  have hz := Nat.le_of_eq ho.size.symm
  clear ho
  refine wpAnyH_ready (rs := [11]) (by kernel_rfl) (by simp) ?_
  refine AllReadyH.cons rfl (fun K hK => ?_) AllReadyH.nil
  go_simp
  refine hK.out _ _ hB9 (fun hH => ?_)
  clear hK K e0 e1 e2 e3 ef0 ef1 ef2 ef3 hB9 R5
  generalize ((((W1.setCell ⟨p, 0, none⟩ (.int .u64 (lim q 0))).setCell ⟨p, 1, none⟩ (.int .u64 (lim q 1))).setCell ⟨p, 2, none⟩ (.int .u64 (lim q 2))).setCell ⟨p, 3, none⟩ (.int .u64 (lim q 3))) = W2 at hH hz R6 ⊢
  obtain ⟨e0, e1, e2, e3, ef⟩ := id R6
  have ef0 := ef 0 (by decide); have ef1 := ef 1 (by decide); have ef2 := ef 2 (by decide); have ef3 := ef 3 (by decide)
  clear ef
  have ho : Only W2 ((((W2.setCell ⟨Q, 0, none⟩ (.int .u64 (lim r 0))).setCell ⟨Q, 1, none⟩ (.int .u64 (lim r 1))).setCell ⟨Q, 2, none⟩ (.int .u64 (lim r 2))).setCell ⟨Q, 3, none⟩ (.int .u64 (lim r 3))) Q 0 4 := ((((Only.refl _ _ _ _).setCell _ _ (by omega) (by omega)).setCell _ _ (by omega) (by omega)).setCell _ _ (by omega) (by omega)).setCell _ _ (by omega) (by omega)
  replace R6 : Row4 ((((W2.setCell ⟨Q, 0, none⟩ (.int .u64 (lim r 0))).setCell ⟨Q, 1, none⟩ (.int .u64 (lim r 1))).setCell ⟨Q, 2, none⟩ (.int .u64 (lim r 2))).setCell ⟨Q, 3, none⟩ (.int .u64 (lim r 3))) Q (lim r 0) (lim r 1) (lim r 2) (lim r 3) := ⟨by simp [go_sem, e0], by simp [go_sem, e1], by simp [go_sem, e2], by simp [go_sem, e3], fun j hj => (ho.frozen j).trans (R6.fz j hj)⟩
  have hB9 := hH.trans (ho.below (by omega))
  have hz := Nat.le_of_eq ho.size.symm
  clear ho
  refine wpAnyH_ready (rs := [12]) (by kernel_rfl) (by simp) ?_
  refine AllReadyH.cons rfl (fun K hK => ?_) AllReadyH.nil
  go_simp
  refine hK.out _ _ hB9 (fun hH => ?_)
  clear hK K e0 e1 e2 e3 ef0 ef1 ef2 ef3 hB9
  generalize ((((W2.setCell ⟨Q, 0, none⟩ (.int .u64 (lim r 0))).setCell ⟨Q, 1, none⟩ (.int .u64 (lim r 1))).setCell ⟨Q, 2, none⟩ (.int .u64 (lim r 2))).setCell ⟨Q, 3, none⟩ (.int .u64 (lim r 3))) = W3 at hH hz R6 ⊢
  refine wpAnyH_done (by kernel_rfl) ?_ _
  obtain ⟨e0, e1, e2, e3, -⟩ := R6
  obtain ⟨x0, x1, x2, x3, x4, x5, x6, x7⟩ := C2.below hH z3
  go_wp2
  simp [bodyPost, results, Try.results17, go_sem, x0, x1, x2, x3]
  exact set4_below (hB.trans (hH.mono hB.size)) (by omega) _

end Go.Proofs.Ytbephahokhnccaa

