/-
  number.AddMod at this program: what it returns.
-/
import Derived.Test.YtmkfjmidlllnlaaDi
namespace Go.Proofs.Ytmkfjmidlllnlaa
open Go.RowKit Go.Shelf
attribute [local go_sem] wd dbl

set_option maxHeartbeats 16000000 in
theorem addMod (a b c : Nat) (ha : a < M) (hb : b < M) (hc : c < M) (w : World) :
    Calls Try.prog 34 #[wd a, wd b, wd c] w fun e w' => e = .returned (wd (rmod (a + b) c)) ∧ Below w.heap.size w w' := by
  have hcy : (a + b) / M ≤ 1 := by unfold M at *; omega
  have hsm : (a + b) % M < M := Nat.mod_lt _ M_pos
  have eab : (a + b) % M + (a + b) / M * M = a + b := Nat.mod_add_div' (a + b) M
  have hlt : a + b < M * M := by unfold M at *; omega
  have hwi := widen ((a + b) % M) ((a + b) / M) hsm hcy
  rw [eab] at hwi
  have HSU := Hid.mk' (sum a b ha hb)
  have HWI := Hid.mk' hwi
  have HDV := Hid.mk' (divide (a + b) c hlt hc)
  clear hwi eab hcy hsm
  obtain ⟨h1, h2, h3, h4, ⟨z1, z2, z3, z4⟩, hB⟩ := (held_start w a b c).put 0
  have e0 : put4 (put4 (put4 (put4 w a) b) c) 0 = (((w.alloc (.cells #[.int .u64 (lim a 0), .int .u64 (lim a 1), .int .u64 (lim a 2), .int .u64 (lim a 3)] 24)).alloc (.cells #[.int .u64 (lim b 0), .int .u64 (lim b 1), .int .u64 (lim b 2), .int .u64 (lim b 3)] 24)).alloc (.cells #[.int .u64 (lim c 0), .int .u64 (lim c 1), .int .u64 (lim c 2), .int .u64 (lim c 3)] 24)).alloc (.cells #[.int .u64 0, .int .u64 0, .int .u64 0, .int .u64 0] 24) := by
    unfold put4; simp [lim_z]
  have es : (put4 (put4 (put4 w a) b) c).heap.size = w.heap.size + 1 + 1 + 1 := by simp
  rw [es] at h4 z4
  have C2 : Cells4 (put4 (put4 (put4 (put4 w a) b) c) 0) (w.heap.size + 1 + 1 + 1) 0 := ⟨h4.1, h4.2.1, h4.2.2.1, h4.2.2.2, by simp [go_sem], by simp [go_sem], by simp [go_sem], by simp [go_sem]⟩
  clear h4 es
  rw [e0] at h1 h2 h3 z1 z2 z3 z4 hB C2
  clear e0
  go_enter Try.func34, Try.ntmps34
  go_wp2
  generalize (((w.alloc (.cells #[.int .u64 (lim a 0), .int .u64 (lim a 1), .int .u64 (lim a 2), .int .u64 (lim a 3)] 24)).alloc (.cells #[.int .u64 (lim b 0), .int .u64 (lim b 1), .int .u64 (lim b 2), .int .u64 (lim b 3)] 24)).alloc (.cells #[.int .u64 (lim c 0), .int .u64 (lim c 1), .int .u64 (lim c 2), .int .u64 (lim c 3)] 24)).alloc (.cells #[.int .u64 0, .int .u64 0, .int .u64 0, .int .u64 0] 24) = W0 at *
  refine wp_region_held_drew (S := fun W => Below W0.heap.size W0 W) (by kernel_rfl) (Below.refl _ _).drew (fun hH => ?_)
  refine take_d (i := 0) (d := some 10) (v := .agg #[.int .u64 (lim a 0), .int .u64 (lim a 1), .int .u64 (lim a 2), .int .u64 (lim a 3)]) rfl rfl (by kernel_rfl) (by kernel_rfl) (by kernel_rfl) (fun _ _ _ h => h) (Or.inl ⟨by rfl, fun W hW => ?_⟩) hH ?_
  · obtain ⟨k0, k1, k2, k3⟩ := Eq4.keep h1 hW z1
    clear hW hH
    go_simp
  simp only [Act.put, List.setIfInBounds_toArray, List.set_cons_zero, List.set_cons_succ]
  refine take_d (i := 1) (d := some 11) (v := .agg #[.int .u64 (lim b 0), .int .u64 (lim b 1), .int .u64 (lim b 2), .int .u64 (lim b 3)]) rfl rfl (by kernel_rfl) (by kernel_rfl) (by kernel_rfl) (fun _ _ _ h => h) (Or.inl ⟨by rfl, fun W hW => ?_⟩) hH ?_
  · obtain ⟨k0, k1, k2, k3⟩ := Eq4.keep h2 hW z2
    clear hW hH
    go_simp
  simp only [Act.put, List.setIfInBounds_toArray, List.set_cons_zero, List.set_cons_succ]
  refine take_d (i := 6) (d := some 16) (v := .agg #[.int .u64 (lim c 0), .int .u64 (lim c 1), .int .u64 (lim c 2), .int .u64 (lim c 3)]) rfl rfl (by kernel_rfl) (by kernel_rfl) (by kernel_rfl) (fun _ _ _ h => h) (Or.inl ⟨by rfl, fun W hW => ?_⟩) hH ?_
  · obtain ⟨k0, k1, k2, k3⟩ := Eq4.keep h3 hW z3
    clear hW hH
    go_simp
  simp only [Act.put, List.setIfInBounds_toArray, List.set_cons_zero, List.set_cons_succ]
  generalize W0.drew = Wa at hH ⊢
  have hwa := hH.size
  refine wpAnyH_ready (rs := [2, 11, 12]) (by kernel_rfl) (by simp) ?_
  refine (AllReadyH.cons rfl (fun K hK => ?_) (AllReadyH.cons rfl (fun K hK => ?_) (AllReadyH.cons rfl (fun K hK => ?_) AllReadyH.nil)))
  · go_simp
    refine (HSU.out _).mono ?_
    rintro e Wq0 ⟨rfl, hbn⟩
    go_wp2_with fail
    refine hK.out _ _ (below_over0 hH hbn) (fun hH => ?_)
    have hz0 := hbn.size
    clear hbn hK K
    refine take_d (i := 3) (d := some 13) (v := .agg #[.int .u64 (lim ((a + b) % M) 0), .int .u64 (lim ((a + b) % M) 1), .int .u64 (lim ((a + b) % M) 2), .int .u64 (lim ((a + b) % M) 3)]) rfl rfl (by kernel_rfl) (by kernel_rfl) (by kernel_rfl) (fun _ _ _ h => h) (Or.inl ⟨by rfl, fun W hW => ?_⟩) hH ?_
    · clear hW hH
      go_simp
    simp only [Act.put, List.setIfInBounds_toArray, List.set_cons_zero, List.set_cons_succ]
    refine take_d (i := 4) (d := some 14) (v := .int .u64 (((a + b) / M : Nat) : Int)) rfl rfl (by kernel_rfl) (by kernel_rfl) (by kernel_rfl) (fun _ _ _ h => h) (Or.inl ⟨by rfl, fun W hW => ?_⟩) hH ?_
    · clear hW hH
      go_simp
    simp only [Act.put, List.setIfInBounds_toArray, List.set_cons_zero, List.set_cons_succ]
    refine wpAnyH_ready (rs := [5, 11, 12]) (by kernel_rfl) (by simp) ?_
    refine (AllReadyH.cons rfl (fun K hK => ?_) (AllReadyH.cons rfl (fun K hK => ?_) (AllReadyH.cons rfl (fun K hK => ?_) AllReadyH.nil)))
    · go_simp
      refine (HWI.out _).mono ?_
      rintro e Wq1 ⟨rfl, hbn⟩
      go_wp2_with fail
      refine hK.out _ _ (below_over0 hH hbn) (fun hH => ?_)
      have hz1 := hbn.size
      clear hbn hK K
      refine wpAnyH_ready (rs := [7, 11, 12]) (by kernel_rfl) (by simp) ?_
      refine (AllReadyH.cons rfl (fun K hK => ?_) (AllReadyH.cons rfl (fun K hK => ?_) (AllReadyH.cons rfl (fun K hK => ?_) AllReadyH.nil)))
      · go_simp
        refine (HDV.out _).mono ?_
        rintro e Wq2 ⟨rfl, hbn⟩
        go_wp2_with fail
        refine hK.out _ _ (below_over0 hH hbn) (fun hH => ?_)
        have hz2 := hbn.size
        clear hbn hK K
        refine take_d (i := 8) (d := some 9) (v := .tuple #[.agg #[.int .u64 (lim ((a + b) / c) 0), .int .u64 (lim ((a + b) / c) 1), .int .u64 (lim ((a + b) / c) 2), .int .u64 (lim ((a + b) / c) 3), .int .u64 (lim ((a + b) / c) 4), .int .u64 (lim ((a + b) / c) 5), .int .u64 (lim ((a + b) / c) 6), .int .u64 (lim ((a + b) / c) 7)], .agg #[.int .u64 (lim (rmod (a + b) c) 0), .int .u64 (lim (rmod (a + b) c) 1), .int .u64 (lim (rmod (a + b) c) 2), .int .u64 (lim (rmod (a + b) c) 3)]]) rfl rfl (by kernel_rfl) (by kernel_rfl) (by kernel_rfl) (fun _ _ _ h => h) (Or.inl ⟨by rfl, fun W hW => ?_⟩) hH ?_
        · clear hW hH
          go_simp
        simp only [Act.put, List.setIfInBounds_toArray, List.set_cons_zero, List.set_cons_succ]
        refine take_d (i := 9) (d := some 18) (v := .agg #[.int .u64 (lim ((a + b) / c) 0), .int .u64 (lim ((a + b) / c) 1), .int .u64 (lim ((a + b) / c) 2), .int .u64 (lim ((a + b) / c) 3), .int .u64 (lim ((a + b) / c) 4), .int .u64 (lim ((a + b) / c) 5), .int .u64 (lim ((a + b) / c) 6), .int .u64 (lim ((a + b) / c) 7)]) rfl rfl (by kernel_rfl) (by kernel_rfl) (by kernel_rfl) (fun _ _ _ h => h) (Or.inl ⟨by rfl, fun W hW => ?_⟩) hH ?_
        · clear hW hH
          go_simp
        simp only [Act.put, List.setIfInBounds_toArray, List.set_cons_zero, List.set_cons_succ]
        refine take_d (i := 10) (d := some 19) (v := .agg #[.int .u64 (lim (rmod (a + b) c) 0), .int .u64 (lim (rmod (a + b) c) 1), .int .u64 (lim (rmod (a + b) c) 2), .int .u64 (lim (rmod (a + b) c) 3)]) rfl rfl (by kernel_rfl) (by kernel_rfl) (by kernel_rfl) (fun _ _ _ h => h) (Or.inl ⟨by rfl, fun W hW => ?_⟩) hH ?_
        · clear hW hH
          go_simp
        simp only [Act.put, List.setIfInBounds_toArray, List.set_cons_zero, List.set_cons_succ]
        refine wpAnyH_ready (rs := [11, 12]) (by kernel_rfl) (by simp) ?_
        refine (AllReadyH.cons rfl (fun K hK => ?_) (AllReadyH.cons rfl (fun K hK => ?_) AllReadyH.nil))
        · go_simp
          have hbn := below1 Wq2 (.cells #[.int .u64 0, .int .u64 0, .int .u64 0, .int .u64 0, .int .u64 0, .int .u64 0, .int .u64 0, .int .u64 0] 56)
          refine hK.out _ _ (below_over0 hH hbn) (fun hH => ?_)
          have R5 := row8_new Wq2 0 0 0 0 0 0 0 0
          have hz3 : Wq2.heap.size + 1 ≤ (Wq2.alloc (.cells #[.int .u64 0, .int .u64 0, .int .u64 0, .int .u64 0, .int .u64 0, .int .u64 0, .int .u64 0, .int .u64 0] 56)).heap.size := by simp
          clear hbn hK K
          generalize Wq2.alloc (.cells #[.int .u64 0, .int .u64 0, .int .u64 0, .int .u64 0, .int .u64 0, .int .u64 0, .int .u64 0, .int .u64 0] 56) = Wn3 at hH hz3 R5 ⊢
          have hw3 := hH.size
          refine wpAnyH_ready (rs := [12]) (by kernel_rfl) (by simp) ?_
          refine (AllReadyH.cons rfl (fun K hK => ?_) AllReadyH.nil)
          · go_simp
            have hbn := below1 Wn3 (.cells #[.int .u64 0, .int .u64 0, .int .u64 0, .int .u64 0] 24)
            refine hK.out _ _ (below_over0 hH hbn) (fun hH => ?_)
            replace R5 := R5.below hbn (by omega)
            have R6 := row4_new Wn3 0 0 0 0
            have hz4 : Wn3.heap.size + 1 ≤ (Wn3.alloc (.cells #[.int .u64 0, .int .u64 0, .int .u64 0, .int .u64 0] 24)).heap.size := by simp
            clear hbn hK K
            generalize Wn3.alloc (.cells #[.int .u64 0, .int .u64 0, .int .u64 0, .int .u64 0] 24) = Wn4 at hH hz4 R5 R6 ⊢
            have hw4 := hH.size
            obtain ⟨e0, e1, e2, e3, e4, e5, e6, e7, ef⟩ := id R5
            have ef0 := ef 0 (by decide); have ef1 := ef 1 (by decide); have ef2 := ef 2 (by decide); have ef3 := ef 3 (by decide); have ef4 := ef 4 (by decide); have ef5 := ef 5 (by decide); have ef6 := ef 6 (by decide); have ef7 := ef 7 (by decide)
            clear ef
            have ho : Only Wn4 ((((((((Wn4.setCell ⟨Wq2.heap.size, 0, none⟩ (.int .u64 (lim ((a + b) / c) 0))).setCell ⟨Wq2.heap.size, 1, none⟩ (.int .u64 (lim ((a + b) / c) 1))).setCell ⟨Wq2.heap.size, 2, none⟩ (.int .u64 (lim ((a + b) / c) 2))).setCell ⟨Wq2.heap.size, 3, none⟩ (.int .u64 (lim ((a + b) / c) 3))).setCell ⟨Wq2.heap.size, 4, none⟩ (.int .u64 (lim ((a + b) / c) 4))).setCell ⟨Wq2.heap.size, 5, none⟩ (.int .u64 (lim ((a + b) / c) 5))).setCell ⟨Wq2.heap.size, 6, none⟩ (.int .u64 (lim ((a + b) / c) 6))).setCell ⟨Wq2.heap.size, 7, none⟩ (.int .u64 (lim ((a + b) / c) 7))) (Wq2.heap.size) 0 8 := ((((((((Only.refl _ _ _ _).setCell _ _ (by omega) (by omega)).setCell _ _ (by omega) (by omega)).setCell _ _ (by omega) (by omega)).setCell _ _ (by omega) (by omega)).setCell _ _ (by omega) (by omega)).setCell _ _ (by omega) (by omega)).setCell _ _ (by omega) (by omega)).setCell _ _ (by omega) (by omega)
            replace R5 := ((((((((R5.put0 (lim ((a + b) / c) 0)).put1 (lim ((a + b) / c) 1)).put2 (lim ((a + b) / c) 2)).put3 (lim ((a + b) / c) 3)).put4 (lim ((a + b) / c) 4)).put5 (lim ((a + b) / c) 5)).put6 (lim ((a + b) / c) 6)).put7 (lim ((a + b) / c) 7))
            replace R6 := R6.only ho (by omega)
            have hB9 := hH.trans (ho.below (by omega))
            have hz9 := Nat.le_of_eq ho.size.symm
            clear ho
            refine wpAnyH_ready (rs := [13]) (by kernel_rfl) (by simp) ?_
            refine AllReadyH.cons rfl (fun K hK => ?_) AllReadyH.nil
            go_simp
            refine hK.out _ _ hB9 (fun hH => ?_)
            clear hK K e0 e1 e2 e3 e4 e5 e6 e7 ef0 ef1 ef2 ef3 ef4 ef5 ef6 ef7 hB9
            generalize ((((((((Wn4.setCell ⟨Wq2.heap.size, 0, none⟩ (.int .u64 (lim ((a + b) / c) 0))).setCell ⟨Wq2.heap.size, 1, none⟩ (.int .u64 (lim ((a + b) / c) 1))).setCell ⟨Wq2.heap.size, 2, none⟩ (.int .u64 (lim ((a + b) / c) 2))).setCell ⟨Wq2.heap.size, 3, none⟩ (.int .u64 (lim ((a + b) / c) 3))).setCell ⟨Wq2.heap.size, 4, none⟩ (.int .u64 (lim ((a + b) / c) 4))).setCell ⟨Wq2.heap.size, 5, none⟩ (.int .u64 (lim ((a + b) / c) 5))).setCell ⟨Wq2.heap.size, 6, none⟩ (.int .u64 (lim ((a + b) / c) 6))).setCell ⟨Wq2.heap.size, 7, none⟩ (.int .u64 (lim ((a + b) / c) 7))) = Wx5 at hH R5 R6 hz9 ⊢
            obtain ⟨e0, e1, e2, e3, ef⟩ := id R6
            have ef0 := ef 0 (by decide); have ef1 := ef 1 (by decide); have ef2 := ef 2 (by decide); have ef3 := ef 3 (by decide)
            clear ef
            have ho : Only Wx5 ((((Wx5.setCell ⟨Wn3.heap.size, 0, none⟩ (.int .u64 (lim (rmod (a + b) c) 0))).setCell ⟨Wn3.heap.size, 1, none⟩ (.int .u64 (lim (rmod (a + b) c) 1))).setCell ⟨Wn3.heap.size, 2, none⟩ (.int .u64 (lim (rmod (a + b) c) 2))).setCell ⟨Wn3.heap.size, 3, none⟩ (.int .u64 (lim (rmod (a + b) c) 3))) (Wn3.heap.size) 0 4 := ((((Only.refl _ _ _ _).setCell _ _ (by omega) (by omega)).setCell _ _ (by omega) (by omega)).setCell _ _ (by omega) (by omega)).setCell _ _ (by omega) (by omega)
            replace R5 := R5.only ho (by omega)
            replace R6 : Row4 ((((Wx5.setCell ⟨Wn3.heap.size, 0, none⟩ (.int .u64 (lim (rmod (a + b) c) 0))).setCell ⟨Wn3.heap.size, 1, none⟩ (.int .u64 (lim (rmod (a + b) c) 1))).setCell ⟨Wn3.heap.size, 2, none⟩ (.int .u64 (lim (rmod (a + b) c) 2))).setCell ⟨Wn3.heap.size, 3, none⟩ (.int .u64 (lim (rmod (a + b) c) 3))) (Wn3.heap.size) (lim (rmod (a + b) c) 0) (lim (rmod (a + b) c) 1) (lim (rmod (a + b) c) 2) (lim (rmod (a + b) c) 3) := ⟨by simp [go_sem, e0], by simp [go_sem, e1], by simp [go_sem, e2], by simp [go_sem, e3], fun j hj => (ho.frozen j).trans (R6.fz j hj)⟩
            have hB9 := hH.trans (ho.below (by omega))
            clear ho hz9
            refine wpAnyH_ready (rs := [14]) (by kernel_rfl) (by simp) ?_
            refine AllReadyH.cons rfl (fun K hK => ?_) AllReadyH.nil
            go_simp
            refine hK.out _ _ hB9 (fun hH => ?_)
            clear hK K e0 e1 e2 e3 ef0 ef1 ef2 ef3 hB9
            generalize ((((Wx5.setCell ⟨Wn3.heap.size, 0, none⟩ (.int .u64 (lim (rmod (a + b) c) 0))).setCell ⟨Wn3.heap.size, 1, none⟩ (.int .u64 (lim (rmod (a + b) c) 1))).setCell ⟨Wn3.heap.size, 2, none⟩ (.int .u64 (lim (rmod (a + b) c) 2))).setCell ⟨Wn3.heap.size, 3, none⟩ (.int .u64 (lim (rmod (a + b) c) 3))) = Wy5 at hH R5 R6 ⊢
            refine wpAnyH_done (by kernel_rfl) ?_ _
            obtain ⟨e0, e1, e2, e3, -⟩ := R6
            obtain ⟨x0, x1, x2, x3, x4, x5, x6, x7⟩ := C2.below hH z4
            clear R5
            go_wp2
            simp [bodyPost, results, Try.results34, go_sem, x0, x1, x2, x3]
            exact set4_below (hB.trans (hH.mono hB.size)) (by omega) _
        · go_simp
          have hbn := below1 Wq2 (.cells #[.int .u64 0, .int .u64 0, .int .u64 0, .int .u64 0] 24)
          refine hK.out _ _ (below_over0 hH hbn) (fun hH => ?_)
          have R6 := row4_new Wq2 0 0 0 0
          have hz6 : Wq2.heap.size + 1 ≤ (Wq2.alloc (.cells #[.int .u64 0, .int .u64 0, .int .u64 0, .int .u64 0] 24)).heap.size := by simp
          clear hbn hK K
          generalize Wq2.alloc (.cells #[.int .u64 0, .int .u64 0, .int .u64 0, .int .u64 0] 24) = Wn6 at hH hz6 R6 ⊢
          have hw6 := hH.size
          refine wpAnyH_ready (rs := [11]) (by kernel_rfl) (by simp) ?_
          refine (AllReadyH.cons rfl (fun K hK => ?_) AllReadyH.nil)
          · go_simp
            have hbn := below1 Wn6 (.cells #[.int .u64 0, .int .u64 0, .int .u64 0, .int .u64 0, .int .u64 0, .int .u64 0, .int .u64 0, .int .u64 0] 56)
            refine hK.out _ _ (below_over0 hH hbn) (fun hH => ?_)
            replace R6 := R6.below hbn (by omega)
            have R5 := row8_new Wn6 0 0 0 0 0 0 0 0
            have hz7 : Wn6.heap.size + 1 ≤ (Wn6.alloc (.cells #[.int .u64 0, .int .u64 0, .int .u64 0, .int .u64 0, .int .u64 0, .int .u64 0, .int .u64 0, .int .u64 0] 56)).heap.size := by simp
            clear hbn hK K
            generalize Wn6.alloc (.cells #[.int .u64 0, .int .u64 0, .int .u64 0, .int .u64 0, .int .u64 0, .int .u64 0, .int .u64 0, .int .u64 0] 56) = Wn7 at hH hz7 R5 R6 ⊢
            have hw7 := hH.size
            obtain ⟨e0, e1, e2, e3, e4, e5, e6, e7, ef⟩ := id R5
            have ef0 := ef 0 (by decide); have ef1 := ef 1 (by decide); have ef2 := ef 2 (by decide); have ef3 := ef 3 (by decide); have ef4 := ef 4 (by decide); have ef5 := ef 5 (by decide); have ef6 := ef 6 (by decide); have ef7 := ef 7 (by decide)
            clear ef
            have ho : Only Wn7 ((((((((Wn7.setCell ⟨Wn6.heap.size, 0, none⟩ (.int .u64 (lim ((a + b) / c) 0))).setCell ⟨Wn6.heap.size, 1, none⟩ (.int .u64 (lim ((a + b) / c) 1))).setCell ⟨Wn6.heap.size, 2, none⟩ (.int .u64 (lim ((a + b) / c) 2))).setCell ⟨Wn6.heap.size, 3, none⟩ (.int .u64 (lim ((a + b) / c) 3))).setCell ⟨Wn6.heap.size, 4, none⟩ (.int .u64 (lim ((a + b) / c) 4))).setCell ⟨Wn6.heap.size, 5, none⟩ (.int .u64 (lim ((a + b) / c) 5))).setCell ⟨Wn6.heap.size, 6, none⟩ (.int .u64 (lim ((a + b) / c) 6))).setCell ⟨Wn6.heap.size, 7, none⟩ (.int .u64 (lim ((a + b) / c) 7))) (Wn6.heap.size) 0 8 := ((((((((Only.refl _ _ _ _).setCell _ _ (by omega) (by omega)).setCell _ _ (by omega) (by omega)).setCell _ _ (by omega) (by omega)).setCell _ _ (by omega) (by omega)).setCell _ _ (by omega) (by omega)).setCell _ _ (by omega) (by omega)).setCell _ _ (by omega) (by omega)).setCell _ _ (by omega) (by omega)
            replace R5 := ((((((((R5.put0 (lim ((a + b) / c) 0)).put1 (lim ((a + b) / c) 1)).put2 (lim ((a + b) / c) 2)).put3 (lim ((a + b) / c) 3)).put4 (lim ((a + b) / c) 4)).put5 (lim ((a + b) / c) 5)).put6 (lim ((a + b) / c) 6)).put7 (lim ((a + b) / c) 7))
            replace R6 := R6.only ho (by omega)
            have hB9 := hH.trans (ho.below (by omega))
            have hz9 := Nat.le_of_eq ho.size.symm
            clear ho
            refine wpAnyH_ready (rs := [13]) (by kernel_rfl) (by simp) ?_
            refine AllReadyH.cons rfl (fun K hK => ?_) AllReadyH.nil
            go_simp
            refine hK.out _ _ hB9 (fun hH => ?_)
            clear hK K e0 e1 e2 e3 e4 e5 e6 e7 ef0 ef1 ef2 ef3 ef4 ef5 ef6 ef7 hB9
            generalize ((((((((Wn7.setCell ⟨Wn6.heap.size, 0, none⟩ (.int .u64 (lim ((a + b) / c) 0))).setCell ⟨Wn6.heap.size, 1, none⟩ (.int .u64 (lim ((a + b) / c) 1))).setCell ⟨Wn6.heap.size, 2, none⟩ (.int .u64 (lim ((a + b) / c) 2))).setCell ⟨Wn6.heap.size, 3, none⟩ (.int .u64 (lim ((a + b) / c) 3))).setCell ⟨Wn6.heap.size, 4, none⟩ (.int .u64 (lim ((a + b) / c) 4))).setCell ⟨Wn6.heap.size, 5, none⟩ (.int .u64 (lim ((a + b) / c) 5))).setCell ⟨Wn6.heap.size, 6, none⟩ (.int .u64 (lim ((a + b) / c) 6))).setCell ⟨Wn6.heap.size, 7, none⟩ (.int .u64 (lim ((a + b) / c) 7))) = Wx8 at hH R5 R6 hz9 ⊢
            obtain ⟨e0, e1, e2, e3, ef⟩ := id R6
            have ef0 := ef 0 (by decide); have ef1 := ef 1 (by decide); have ef2 := ef 2 (by decide); have ef3 := ef 3 (by decide)
            clear ef
            have ho : Only Wx8 ((((Wx8.setCell ⟨Wq2.heap.size, 0, none⟩ (.int .u64 (lim (rmod (a + b) c) 0))).setCell ⟨Wq2.heap.size, 1, none⟩ (.int .u64 (lim (rmod (a + b) c) 1))).setCell ⟨Wq2.heap.size, 2, none⟩ (.int .u64 (lim (rmod (a + b) c) 2))).setCell ⟨Wq2.heap.size, 3, none⟩ (.int .u64 (lim (rmod (a + b) c) 3))) (Wq2.heap.size) 0 4 := ((((Only.refl _ _ _ _).setCell _ _ (by omega) (by omega)).setCell _ _ (by omega) (by omega)).setCell _ _ (by omega) (by omega)).setCell _ _ (by omega) (by omega)
            replace R5 := R5.only ho (by omega)
            replace R6 : Row4 ((((Wx8.setCell ⟨Wq2.heap.size, 0, none⟩ (.int .u64 (lim (rmod (a + b) c) 0))).setCell ⟨Wq2.heap.size, 1, none⟩ (.int .u64 (lim (rmod (a + b) c) 1))).setCell ⟨Wq2.heap.size, 2, none⟩ (.int .u64 (lim (rmod (a + b) c) 2))).setCell ⟨Wq2.heap.size, 3, none⟩ (.int .u64 (lim (rmod (a + b) c) 3))) (Wq2.heap.size) (lim (rmod (a + b) c) 0) (lim (rmod (a + b) c) 1) (lim (rmod (a + b) c) 2) (lim (rmod (a + b) c) 3) := ⟨by simp [go_sem, e0], by simp [go_sem, e1], by simp [go_sem, e2], by simp [go_sem, e3], fun j hj => (ho.frozen j).trans (R6.fz j hj)⟩
            have hB9 := hH.trans (ho.below (by omega))
            clear ho hz9
            refine wpAnyH_ready (rs := [14]) (by kernel_rfl) (by simp) ?_
            refine AllReadyH.cons rfl (fun K hK => ?_) AllReadyH.nil
            go_simp
            refine hK.out _ _ hB9 (fun hH => ?_)
            clear hK K e0 e1 e2 e3 ef0 ef1 ef2 ef3 hB9
            generalize ((((Wx8.setCell ⟨Wq2.heap.size, 0, none⟩ (.int .u64 (lim (rmod (a + b) c) 0))).setCell ⟨Wq2.heap.size, 1, none⟩ (.int .u64 (lim (rmod (a + b) c) 1))).setCell ⟨Wq2.heap.size, 2, none⟩ (.int .u64 (lim (rmod (a + b) c) 2))).setCell ⟨Wq2.heap.size, 3, none⟩ (.int .u64 (lim (rmod (a + b) c) 3))) = Wy8 at hH R5 R6 ⊢
            refine wpAnyH_done (by kernel_rfl) ?_ _
            obtain ⟨e0, e1, e2, e3, -⟩ := R6
            obtain ⟨x0, x1, x2, x3, x4, x5, x6, x7⟩ := C2.below hH z4
            clear R5
            go_wp2
            simp [bodyPost, results, Try.results34, go_sem, x0, x1, x2, x3]
            exact set4_below (hB.trans (hH.mono hB.size)) (by omega) _
      · go_simp
        have hbn := below1 Wq1 (.cells #[.int .u64 0, .int .u64 0, .int .u64 0, .int .u64 0, .int .u64 0, .int .u64 0, .int .u64 0, .int .u64 0] 56)
        refine hK.out _ _ (below_over0 hH hbn) (fun hH => ?_)
        have R5 := row8_new Wq1 0 0 0 0 0 0 0 0
        have hz9 : Wq1.heap.size + 1 ≤ (Wq1.alloc (.cells #[.int .u64 0, .int .u64 0, .int .u64 0, .int .u64 0, .int .u64 0, .int .u64 0, .int .u64 0, .int .u64 0] 56)).heap.size := by simp
        clear hbn hK K
        generalize Wq1.alloc (.cells #[.int .u64 0, .int .u64 0, .int .u64 0, .int .u64 0, .int .u64 0, .int .u64 0, .int .u64 0, .int .u64 0] 56) = Wn9 at hH hz9 R5 ⊢
        have hw9 := hH.size
        refine wpAnyH_ready (rs := [7, 12]) (by kernel_rfl) (by simp) ?_
        refine (AllReadyH.cons rfl (fun K hK => ?_) (AllReadyH.cons rfl (fun K hK => ?_) AllReadyH.nil))
        · go_simp
          refine (HDV.out _).mono ?_
          rintro e Wq10 ⟨rfl, hbn⟩
          go_wp2_with fail
          refine hK.out _ _ (below_over0 hH hbn) (fun hH => ?_)
          replace R5 := R5.below hbn (by omega)
          have hz10 := hbn.size
          clear hbn hK K
          refine take_d (i := 8) (d := some 9) (v := .tuple #[.agg #[.int .u64 (lim ((a + b) / c) 0), .int .u64 (lim ((a + b) / c) 1), .int .u64 (lim ((a + b) / c) 2), .int .u64 (lim ((a + b) / c) 3), .int .u64 (lim ((a + b) / c) 4), .int .u64 (lim ((a + b) / c) 5), .int .u64 (lim ((a + b) / c) 6), .int .u64 (lim ((a + b) / c) 7)], .agg #[.int .u64 (lim (rmod (a + b) c) 0), .int .u64 (lim (rmod (a + b) c) 1), .int .u64 (lim (rmod (a + b) c) 2), .int .u64 (lim (rmod (a + b) c) 3)]]) rfl rfl (by kernel_rfl) (by kernel_rfl) (by kernel_rfl) (fun _ _ _ h => h) (Or.inl ⟨by rfl, fun W hW => ?_⟩) hH ?_
          · clear hW hH
            go_simp
          simp only [Act.put, List.setIfInBounds_toArray, List.set_cons_zero, List.set_cons_succ]
          refine take_d (i := 9) (d := some 18) (v := .agg #[.int .u64 (lim ((a + b) / c) 0), .int .u64 (lim ((a + b) / c) 1), .int .u64 (lim ((a + b) / c) 2), .int .u64 (lim ((a + b) / c) 3), .int .u64 (lim ((a + b) / c) 4), .int .u64 (lim ((a + b) / c) 5), .int .u64 (lim ((a + b) / c) 6), .int .u64 (lim ((a + b) / c) 7)]) rfl rfl (by kernel_rfl) (by kernel_rfl) (by kernel_rfl) (fun _ _ _ h => h) (Or.inl ⟨by rfl, fun W hW => ?_⟩) hH ?_
          · clear hW hH
            go_simp
          simp only [Act.put, List.setIfInBounds_toArray, List.set_cons_zero, List.set_cons_succ]
          refine take_d (i := 10) (d := some 19) (v := .agg #[.int .u64 (lim (rmod (a + b) c) 0), .int .u64 (lim (rmod (a + b) c) 1), .int .u64 (lim (rmod (a + b) c) 2), .int .u64 (lim (rmod (a + b) c) 3)]) rfl rfl (by kernel_rfl) (by kernel_rfl) (by kernel_rfl) (fun _ _ _ h => h) (Or.inl ⟨by rfl, fun W hW => ?_⟩) hH ?_
          · clear hW hH
            go_simp
          simp only [Act.put, List.setIfInBounds_toArray, List.set_cons_zero, List.set_cons_succ]
          refine wpAnyH_ready (rs := [12]) (by kernel_rfl) (by simp) ?_
          refine (AllReadyH.cons rfl (fun K hK => ?_) AllReadyH.nil)
          · go_simp
            have hbn := below1 Wq10 (.cells #[.int .u64 0, .int .u64 0, .int .u64 0, .int .u64 0] 24)
            refine hK.out _ _ (below_over0 hH hbn) (fun hH => ?_)
            replace R5 := R5.below hbn (by omega)
            have R6 := row4_new Wq10 0 0 0 0
            have hz11 : Wq10.heap.size + 1 ≤ (Wq10.alloc (.cells #[.int .u64 0, .int .u64 0, .int .u64 0, .int .u64 0] 24)).heap.size := by simp
            clear hbn hK K
            generalize Wq10.alloc (.cells #[.int .u64 0, .int .u64 0, .int .u64 0, .int .u64 0] 24) = Wn11 at hH hz11 R5 R6 ⊢
            have hw11 := hH.size
            obtain ⟨e0, e1, e2, e3, e4, e5, e6, e7, ef⟩ := id R5
            have ef0 := ef 0 (by decide); have ef1 := ef 1 (by decide); have ef2 := ef 2 (by decide); have ef3 := ef 3 (by decide); have ef4 := ef 4 (by decide); have ef5 := ef 5 (by decide); have ef6 := ef 6 (by decide); have ef7 := ef 7 (by decide)
            clear ef
            have ho : Only Wn11 ((((((((Wn11.setCell ⟨Wq1.heap.size, 0, none⟩ (.int .u64 (lim ((a + b) / c) 0))).setCell ⟨Wq1.heap.size, 1, none⟩ (.int .u64 (lim ((a + b) / c) 1))).setCell ⟨Wq1.heap.size, 2, none⟩ (.int .u64 (lim ((a + b) / c) 2))).setCell ⟨Wq1.heap.size, 3, none⟩ (.int .u64 (lim ((a + b) / c) 3))).setCell ⟨Wq1.heap.size, 4, none⟩ (.int .u64 (lim ((a + b) / c) 4))).setCell ⟨Wq1.heap.size, 5, none⟩ (.int .u64 (lim ((a + b) / c) 5))).setCell ⟨Wq1.heap.size, 6, none⟩ (.int .u64 (lim ((a + b) / c) 6))).setCell ⟨Wq1.heap.size, 7, none⟩ (.int .u64 (lim ((a + b) / c) 7))) (Wq1.heap.size) 0 8 := ((((((((Only.refl _ _ _ _).setCell _ _ (by omega) (by omega)).setCell _ _ (by omega) (by omega)).setCell _ _ (by omega) (by omega)).setCell _ _ (by omega) (by omega)).setCell _ _ (by omega) (by omega)).setCell _ _ (by omega) (by omega)).setCell _ _ (by omega) (by omega)).setCell _ _ (by omega) (by omega)
            replace R5 := ((((((((R5.put0 (lim ((a + b) / c) 0)).put1 (lim ((a + b) / c) 1)).put2 (lim ((a + b) / c) 2)).put3 (lim ((a + b) / c) 3)).put4 (lim ((a + b) / c) 4)).put5 (lim ((a + b) / c) 5)).put6 (lim ((a + b) / c) 6)).put7 (lim ((a + b) / c) 7))
            replace R6 := R6.only ho (by omega)
            have hB9 := hH.trans (ho.below (by omega))
            have hz9 := Nat.le_of_eq ho.size.symm
            clear ho
            refine wpAnyH_ready (rs := [13]) (by kernel_rfl) (by simp) ?_
            refine AllReadyH.cons rfl (fun K hK => ?_) AllReadyH.nil
            go_simp
            refine hK.out _ _ hB9 (fun hH => ?_)
            clear hK K e0 e1 e2 e3 e4 e5 e6 e7 ef0 ef1 ef2 ef3 ef4 ef5 ef6 ef7 hB9
            generalize ((((((((Wn11.setCell ⟨Wq1.heap.size, 0, none⟩ (.int .u64 (lim ((a + b) / c) 0))).setCell ⟨Wq1.heap.size, 1, none⟩ (.int .u64 (lim ((a + b) / c) 1))).setCell ⟨Wq1.heap.size, 2, none⟩ (.int .u64 (lim ((a + b) / c) 2))).setCell ⟨Wq1.heap.size, 3, none⟩ (.int .u64 (lim ((a + b) / c) 3))).setCell ⟨Wq1.heap.size, 4, none⟩ (.int .u64 (lim ((a + b) / c) 4))).setCell ⟨Wq1.heap.size, 5, none⟩ (.int .u64 (lim ((a + b) / c) 5))).setCell ⟨Wq1.heap.size, 6, none⟩ (.int .u64 (lim ((a + b) / c) 6))).setCell ⟨Wq1.heap.size, 7, none⟩ (.int .u64 (lim ((a + b) / c) 7))) = Wx12 at hH R5 R6 hz9 ⊢
            obtain ⟨e0, e1, e2, e3, ef⟩ := id R6
            have ef0 := ef 0 (by decide); have ef1 := ef 1 (by decide); have ef2 := ef 2 (by decide); have ef3 := ef 3 (by decide)
            clear ef
            have ho : Only Wx12 ((((Wx12.setCell ⟨Wq10.heap.size, 0, none⟩ (.int .u64 (lim (rmod (a + b) c) 0))).setCell ⟨Wq10.heap.size, 1, none⟩ (.int .u64 (lim (rmod (a + b) c) 1))).setCell ⟨Wq10.heap.size, 2, none⟩ (.int .u64 (lim (rmod (a + b) c) 2))).setCell ⟨Wq10.heap.size, 3, none⟩ (.int .u64 (lim (rmod (a + b) c) 3))) (Wq10.heap.size) 0 4 := ((((Only.refl _ _ _ _).setCell _ _ (by omega) (by omega)).setCell _ _ (by omega) (by omega)).setCell _ _ (by omega) (by omega)).setCell _ _ (by omega) (by omega)
            replace R5 := R5.only ho (by omega)
            replace R6 : Row4 ((((Wx12.setCell ⟨Wq10.heap.size, 0, none⟩ (.int .u64 (lim (rmod (a + b) c) 0))).setCell ⟨Wq10.heap.size, 1, none⟩ (.int .u64 (lim (rmod (a + b) c) 1))).setCell ⟨Wq10.heap.size, 2, none⟩ (.int .u64 (lim (rmod (a + b) c) 2))).setCell ⟨Wq10.heap.size, 3, none⟩ (.int .u64 (lim (rmod (a + b) c) 3))) (Wq10.heap.size) (lim (rmod (a + b) c) 0) (lim (rmod (a + b) c) 1) (lim (rmod (a + b) c) 2) (lim (rmod (a + b) c) 3) := ⟨by simp [go_sem, e0], by simp [go_sem, e1], by simp [go_sem, e2], by simp [go_sem, e3], fun j hj => (ho.frozen j).trans (R6.fz j hj)⟩
            have hB9 := hH.trans (ho.below (by omega))
            clear ho hz9
            refine wpAnyH_ready (rs := [14]) (by kernel_rfl) (by simp) ?_
            refine AllReadyH.cons rfl (fun K hK => ?_) AllReadyH.nil
            go_simp
            refine hK.out _ _ hB9 (fun hH => ?_)
            clear hK K e0 e1 e2 e3 ef0 ef1 ef2 ef3 hB9
            generalize ((((Wx12.setCell ⟨Wq10.heap.size, 0, none⟩ (.int .u64 (lim (rmod (a + b) c) 0))).setCell ⟨Wq10.heap.size, 1, none⟩ (.int .u64 (lim (rmod (a + b) c) 1))).setCell ⟨Wq10.heap.size, 2, none⟩ (.int .u64 (lim (rmod (a + b) c) 2))).setCell ⟨Wq10.heap.size, 3, none⟩ (.int .u64 (lim (rmod (a + b) c) 3))) = Wy12 at hH R5 R6 ⊢
            refine wpAnyH_done (by kernel_rfl) ?_ _
            obtain ⟨e0, e1, e2, e3, -⟩ := R6
            obtain ⟨x0, x1, x2, x3, x4, x5, x6, x7⟩ := C2.below hH z4
            clear R5
            go_wp2
            simp [bodyPost, results, Try.results34, go_sem, x0, x1, x2, x3]
            exact set4_below (hB.trans (hH.mono hB.size)) (by omega) _
        · go_simp
          have hbn := below1 Wn9 (.cells #[.int .u64 0, .int .u64 0, .int .u64 0, .int .u64 0] 24)
          refine hK.out _ _ (below_over0 hH hbn) (fun hH => ?_)
          replace R5 := R5.below hbn (by omega)
          have R6 := row4_new Wn9 0 0 0 0
          have hz13 : Wn9.heap.size + 1 ≤ (Wn9.alloc (.cells #[.int .u64 0, .int .u64 0, .int .u64 0, .int .u64 0] 24)).heap.size := by simp
          clear hbn hK K
          generalize Wn9.alloc (.cells #[.int .u64 0, .int .u64 0, .int .u64 0, .int .u64 0] 24) = Wn13 at hH hz13 R5 R6 ⊢
          have hw13 := hH.size
          refine wpAnyH_ready (rs := [7]) (by kernel_rfl) (by simp) ?_
          refine (AllReadyH.cons rfl (fun K hK => ?_) AllReadyH.nil)
          · go_simp
            refine (HDV.out _).mono ?_
            rintro e Wq14 ⟨rfl, hbn⟩
            go_wp2_with fail
            refine hK.out _ _ (below_over0 hH hbn) (fun hH => ?_)
            replace R5 := R5.below hbn (by omega)
            replace R6 := R6.below hbn (by omega)
            have hz14 := hbn.size
            clear hbn hK K
            refine take_d (i := 8) (d := some 9) (v := .tuple #[.agg #[.int .u64 (lim ((a + b) / c) 0), .int .u64 (lim ((a + b) / c) 1), .int .u64 (lim ((a + b) / c) 2), .int .u64 (lim ((a + b) / c) 3), .int .u64 (lim ((a + b) / c) 4), .int .u64 (lim ((a + b) / c) 5), .int .u64 (lim ((a + b) / c) 6), .int .u64 (lim ((a + b) / c) 7)], .agg #[.int .u64 (lim (rmod (a + b) c) 0), .int .u64 (lim (rmod (a + b) c) 1), .int .u64 (lim (rmod (a + b) c) 2), .int .u64 (lim (rmod (a + b) c) 3)]]) rfl rfl (by kernel_rfl) (by kernel_rfl) (by kernel_rfl) (fun _ _ _ h => h) (Or.inl ⟨by rfl, fun W hW => ?_⟩) hH ?_
            · clear hW hH
              go_simp
            simp only [Act.put, List.setIfInBounds_toArray, List.set_cons_zero, List.set_cons_succ]
            refine take_d (i := 9) (d := some 18) (v := .agg #[.int .u64 (lim ((a + b) / c) 0), .int .u64 (lim ((a + b) / c) 1), .int .u64 (lim ((a + b) / c) 2), .int .u64 (lim ((a + b) / c) 3), .int .u64 (lim ((a + b) / c) 4), .int .u64 (lim ((a + b) / c) 5), .int .u64 (lim ((a + b) / c) 6), .int .u64 (lim ((a + b) / c) 7)]) rfl rfl (by kernel_rfl) (by kernel_rfl) (by kernel_rfl) (fun _ _ _ h => h) (Or.inl ⟨by rfl, fun W hW => ?_⟩) hH ?_
            · clear hW hH
              go_simp
            simp only [Act.put, List.setIfInBounds_toArray, List.set_cons_zero, List.set_cons_succ]
            refine take_d (i := 10) (d := some 19) (v := .agg #[.int .u64 (lim (rmod (a + b) c) 0), .int .u64 (lim (rmod (a + b) c) 1), .int .u64 (lim (rmod (a + b) c) 2), .int .u64 (lim (rmod (a + b) c) 3)]) rfl rfl (by kernel_rfl) (by kernel_rfl) (by kernel_rfl) (fun _ _ _ h => h) (Or.inl ⟨by rfl, fun W hW => ?_⟩) hH ?_
            · clear hW hH
              go_simp
            simp only [Act.put, List.setIfInBounds_toArray, List.set_cons_zero, List.set_cons_succ]
            obtain ⟨e0, e1, e2, e3, e4, e5, e6, e7, ef⟩ := id R5
            have ef0 := ef 0 (by decide); have ef1 := ef 1 (by decide); have ef2 := ef 2 (by decide); have ef3 := ef 3 (by decide); have ef4 := ef 4 (by decide); have ef5 := ef 5 (by decide); have ef6 := ef 6 (by decide); have ef7 := ef 7 (by decide)
            clear ef
            have ho : Only Wq14 ((((((((Wq14.setCell ⟨Wq1.heap.size, 0, none⟩ (.int .u64 (lim ((a + b) / c) 0))).setCell ⟨Wq1.heap.size, 1, none⟩ (.int .u64 (lim ((a + b) / c) 1))).setCell ⟨Wq1.heap.size, 2, none⟩ (.int .u64 (lim ((a + b) / c) 2))).setCell ⟨Wq1.heap.size, 3, none⟩ (.int .u64 (lim ((a + b) / c) 3))).setCell ⟨Wq1.heap.size, 4, none⟩ (.int .u64 (lim ((a + b) / c) 4))).setCell ⟨Wq1.heap.size, 5, none⟩ (.int .u64 (lim ((a + b) / c) 5))).setCell ⟨Wq1.heap.size, 6, none⟩ (.int .u64 (lim ((a + b) / c) 6))).setCell ⟨Wq1.heap.size, 7, none⟩ (.int .u64 (lim ((a + b) / c) 7))) (Wq1.heap.size) 0 8 := ((((((((Only.refl _ _ _ _).setCell _ _ (by omega) (by omega)).setCell _ _ (by omega) (by omega)).setCell _ _ (by omega) (by omega)).setCell _ _ (by omega) (by omega)).setCell _ _ (by omega) (by omega)).setCell _ _ (by omega) (by omega)).setCell _ _ (by omega) (by omega)).setCell _ _ (by omega) (by omega)
            replace R5 := ((((((((R5.put0 (lim ((a + b) / c) 0)).put1 (lim ((a + b) / c) 1)).put2 (lim ((a + b) / c) 2)).put3 (lim ((a + b) / c) 3)).put4 (lim ((a + b) / c) 4)).put5 (lim ((a + b) / c) 5)).put6 (lim ((a + b) / c) 6)).put7 (lim ((a + b) / c) 7))
            replace R6 := R6.only ho (by omega)
            have hB9 := hH.trans (ho.below (by omega))
            have hz9 := Nat.le_of_eq ho.size.symm
            clear ho
            refine wpAnyH_ready (rs := [13]) (by kernel_rfl) (by simp) ?_
            refine AllReadyH.cons rfl (fun K hK => ?_) AllReadyH.nil
            go_simp
            refine hK.out _ _ hB9 (fun hH => ?_)
            clear hK K e0 e1 e2 e3 e4 e5 e6 e7 ef0 ef1 ef2 ef3 ef4 ef5 ef6 ef7 hB9
            generalize ((((((((Wq14.setCell ⟨Wq1.heap.size, 0, none⟩ (.int .u64 (lim ((a + b) / c) 0))).setCell ⟨Wq1.heap.size, 1, none⟩ (.int .u64 (lim ((a + b) / c) 1))).setCell ⟨Wq1.heap.size, 2, none⟩ (.int .u64 (lim ((a + b) / c) 2))).setCell ⟨Wq1.heap.size, 3, none⟩ (.int .u64 (lim ((a + b) / c) 3))).setCell ⟨Wq1.heap.size, 4, none⟩ (.int .u64 (lim ((a + b) / c) 4))).setCell ⟨Wq1.heap.size, 5, none⟩ (.int .u64 (lim ((a + b) / c) 5))).setCell ⟨Wq1.heap.size, 6, none⟩ (.int .u64 (lim ((a + b) / c) 6))).setCell ⟨Wq1.heap.size, 7, none⟩ (.int .u64 (lim ((a + b) / c) 7))) = Wx15 at hH R5 R6 hz9 ⊢
            obtain ⟨e0, e1, e2, e3, ef⟩ := id R6
            have ef0 := ef 0 (by decide); have ef1 := ef 1 (by decide); have ef2 := ef 2 (by decide); have ef3 := ef 3 (by decide)
            clear ef
            have ho : Only Wx15 ((((Wx15.setCell ⟨Wn9.heap.size, 0, none⟩ (.int .u64 (lim (rmod (a + b) c) 0))).setCell ⟨Wn9.heap.size, 1, none⟩ (.int .u64 (lim (rmod (a + b) c) 1))).setCell ⟨Wn9.heap.size, 2, none⟩ (.int .u64 (lim (rmod (a + b) c) 2))).setCell ⟨Wn9.heap.size, 3, none⟩ (.int .u64 (lim (rmod (a + b) c) 3))) (Wn9.heap.size) 0 4 := ((((Only.refl _ _ _ _).setCell _ _ (by omega) (by omega)).setCell _ _ (by omega) (by omega)).setCell _ _ (by omega) (by omega)).setCell _ _ (by omega) (by omega)
            replace R5 := R5.only ho (by omega)
            replace R6 : Row4 ((((Wx15.setCell ⟨Wn9.heap.size, 0, none⟩ (.int .u64 (lim (rmod (a + b) c) 0))).setCell ⟨Wn9.heap.size, 1, none⟩ (.int .u64 (lim (rmod (a + b) c) 1))).setCell ⟨Wn9.heap.size, 2, none⟩ (.int .u64 (lim (rmod (a + b) c) 2))).setCell ⟨Wn9.heap.size, 3, none⟩ (.int .u64 (lim (rmod (a + b) c) 3))) (Wn9.heap.size) (lim (rmod (a + b) c) 0) (lim (rmod (a + b) c) 1) (lim (rmod (a + b) c) 2) (lim (rmod (a + b) c) 3) := ⟨by simp [go_sem, e0], by simp [go_sem, e1], by simp [go_sem, e2], by simp [go_sem, e3], fun j hj => (ho.frozen j).trans (R6.fz j hj)⟩
            have hB9 := hH.trans (ho.below (by omega))
            clear ho hz9
            refine wpAnyH_ready (rs := [14]) (by kernel_rfl) (by simp) ?_
            refine AllReadyH.cons rfl (fun K hK => ?_) AllReadyH.nil
            go_simp
            refine hK.out _ _ hB9 (fun hH => ?_)
            clear hK K e0 e1 e2 e3 ef0 ef1 ef2 ef3 hB9
            generalize ((((Wx15.setCell ⟨Wn9.heap.size, 0, none⟩ (.int .u64 (lim (rmod (a + b) c) 0))).setCell ⟨Wn9.heap.size, 1, none⟩ (.int .u64 (lim (rmod (a + b) c) 1))).setCell ⟨Wn9.heap.size, 2, none⟩ (.int .u64 (lim (rmod (a + b) c) 2))).setCell ⟨Wn9.heap.size, 3, none⟩ (.int .u64 (lim (rmod (a + b) c) 3))) = Wy15 at hH R5 R6 ⊢
            refine wpAnyH_done (by kernel_rfl) ?_ _
            obtain ⟨e0, e1, e2, e3, -⟩ := R6
            obtain ⟨x0, x1, x2, x3, x4, x5, x6, x7⟩ := C2.below hH z4
            clear R5
            go_wp2
            simp [bodyPost, results, Try.results34, go_sem, x0, x1, x2, x3]
            exact set4_below (hB.trans (hH.mono hB.size)) (by omega) _
      · go_simp
        have hbn := below1 Wq1 (.cells #[.int .u64 0, .int .u64 0, .int .u64 0, .int .u64 0] 24)
        refine hK.out _ _ (below_over0 hH hbn) (fun hH => ?_)
        have R6 := row4_new Wq1 0 0 0 0
        have hz16 : Wq1.heap.size + 1 ≤ (Wq1.alloc (.cells #[.int .u64 0, .int .u64 0, .int .u64 0, .int .u64 0] 24)).heap.size := by simp
        clear hbn hK K
        generalize Wq1.alloc (.cells #[.int .u64 0, .int .u64 0, .int .u64 0, .int .u64 0] 24) = Wn16 at hH hz16 R6 ⊢
        have hw16 := hH.size
        refine wpAnyH_ready (rs := [7, 11]) (by kernel_rfl) (by simp) ?_
        refine (AllReadyH.cons rfl (fun K hK => ?_) (AllReadyH.cons rfl (fun K hK => ?_) AllReadyH.nil))
        · go_simp
          refine (HDV.out _).mono ?_
          rintro e Wq17 ⟨rfl, hbn⟩
          go_wp2_with fail
          refine hK.out _ _ (below_over0 hH hbn) (fun hH => ?_)
          replace R6 := R6.below hbn (by omega)
          have hz17 := hbn.size
          clear hbn hK K
          refine take_d (i := 8) (d := some 9) (v := .tuple #[.agg #[.int .u64 (lim ((a + b) / c) 0), .int .u64 (lim ((a + b) / c) 1), .int .u64 (lim ((a + b) / c) 2), .int .u64 (lim ((a + b) / c) 3), .int .u64 (lim ((a + b) / c) 4), .int .u64 (lim ((a + b) / c) 5), .int .u64 (lim ((a + b) / c) 6), .int .u64 (lim ((a + b) / c) 7)], .agg #[.int .u64 (lim (rmod (a + b) c) 0), .int .u64 (lim (rmod (a + b) c) 1), .int .u64 (lim (rmod (a + b) c) 2), .int .u64 (lim (rmod (a + b) c) 3)]]) rfl rfl (by kernel_rfl) (by kernel_rfl) (by kernel_rfl) (fun _ _ _ h => h) (Or.inl ⟨by rfl, fun W hW => ?_⟩) hH ?_
          · clear hW hH
            go_simp
          simp only [Act.put, List.setIfInBounds_toArray, List.set_cons_zero, List.set_cons_succ]
          refine take_d (i := 9) (d := some 18) (v := .agg #[.int .u64 (lim ((a + b) / c) 0), .int .u64 (lim ((a + b) / c) 1), .int .u64 (lim ((a + b) / c) 2), .int .u64 (lim ((a + b) / c) 3), .int .u64 (lim ((a + b) / c) 4), .int .u64 (lim ((a + b) / c) 5), .int .u64 (lim ((a + b) / c) 6), .int .u64 (lim ((a + b) / c) 7)]) rfl rfl (by kernel_rfl) (by kernel_rfl) (by kernel_rfl) (fun _ _ _ h => h) (Or.inl ⟨by rfl, fun W hW => ?_⟩) hH ?_
          · clear hW hH
            go_simp
          simp only [Act.put, List.setIfInBounds_toArray, List.set_cons_zero, List.set_cons_succ]
          refine take_d (i := 10) (d := some 19) (v := .agg #[.int .u64 (lim (rmod (a + b) c) 0), .int .u64 (lim (rmod (a + b) c) 1), .int .u64 (lim (rmod (a + b) c) 2), .int .u64 (lim (rmod (a + b) c) 3)]) rfl rfl (by kernel_rfl) (by kernel_rfl) (by kernel_rfl) (fun _ _ _ h => h) (Or.inl ⟨by rfl, fun W hW => ?_⟩) hH ?_
          · clear hW hH
            go_simp
          simp only [Act.put, List.setIfInBounds_toArray, List.set_cons_zero, List.set_cons_succ]
          refine wpAnyH_ready (rs := [11]) (by kernel_rfl) (by simp) ?_
          refine (AllReadyH.cons rfl (fun K hK => ?_) AllReadyH.nil)
          · go_simp
            have hbn := below1 Wq17 (.cells #[.int .u64 0, .int .u64 0, .int .u64 0, .int .u64 0, .int .u64 0, .int .u64 0, .int .u64 0, .int .u64 0] 56)
            refine hK.out _ _ (below_over0 hH hbn) (fun hH => ?_)
            replace R6 := R6.below hbn (by omega)
            have R5 := row8_new Wq17 0 0 0 0 0 0 0 0
            have hz18 : Wq17.heap.size + 1 ≤ (Wq17.alloc (.cells #[.int .u64 0, .int .u64 0, .int .u64 0, .int .u64 0, .int .u64 0, .int .u64 0, .int .u64 0, .int .u64 0] 56)).heap.size := by simp
            clear hbn hK K
            generalize Wq17.alloc (.cells #[.int .u64 0, .int .u64 0, .int .u64 0, .int .u64 0, .int .u64 0, .int .u64 0, .int .u64 0, .int .u64 0] 56) = Wn18 at hH hz18 R5 R6 ⊢
            have hw18 := hH.size
            obtain ⟨e0, e1, e2, e3, e4, e5, e6, e7, ef⟩ := id R5
            have ef0 := ef 0 (by decide); have ef1 := ef 1 (by decide); have ef2 := ef 2 (by decide); have ef3 := ef 3 (by decide); have ef4 := ef 4 (by decide); have ef5 := ef 5 (by decide); have ef6 := ef 6 (by decide); have ef7 := ef 7 (by decide)
            clear ef
            have ho : Only Wn18 ((((((((Wn18.setCell ⟨Wq17.heap.size, 0, none⟩ (.int .u64 (lim ((a + b) / c) 0))).setCell ⟨Wq17.heap.size, 1, none⟩ (.int .u64 (lim ((a + b) / c) 1))).setCell ⟨Wq17.heap.size, 2, none⟩ (.int .u64 (lim ((a + b) / c) 2))).setCell ⟨Wq17.heap.size, 3, none⟩ (.int .u64 (lim ((a + b) / c) 3))).setCell ⟨Wq17.heap.size, 4, none⟩ (.int .u64 (lim ((a + b) / c) 4))).setCell ⟨Wq17.heap.size, 5, none⟩ (.int .u64 (lim ((a + b) / c) 5))).setCell ⟨Wq17.heap.size, 6, none⟩ (.int .u64 (lim ((a + b) / c) 6))).setCell ⟨Wq17.heap.size, 7, none⟩ (.int .u64 (lim ((a + b) / c) 7))) (Wq17.heap.size) 0 8 := ((((((((Only.refl _ _ _ _).setCell _ _ (by omega) (by omega)).setCell _ _ (by omega) (by omega)).setCell _ _ (by omega) (by omega)).setCell _ _ (by omega) (by omega)).setCell _ _ (by omega) (by omega)).setCell _ _ (by omega) (by omega)).setCell _ _ (by omega) (by omega)).setCell _ _ (by omega) (by omega)
            replace R5 := ((((((((R5.put0 (lim ((a + b) / c) 0)).put1 (lim ((a + b) / c) 1)).put2 (lim ((a + b) / c) 2)).put3 (lim ((a + b) / c) 3)).put4 (lim ((a + b) / c) 4)).put5 (lim ((a + b) / c) 5)).put6 (lim ((a + b) / c) 6)).put7 (lim ((a + b) / c) 7))
            replace R6 := R6.only ho (by omega)
            have hB9 := hH.trans (ho.below (by omega))
            have hz9 := Nat.le_of_eq ho.size.symm
            clear ho
            refine wpAnyH_ready (rs := [13]) (by kernel_rfl) (by simp) ?_
            refine AllReadyH.cons rfl (fun K hK => ?_) AllReadyH.nil
            go_simp
            refine hK.out _ _ hB9 (fun hH => ?_)
            clear hK K e0 e1 e2 e3 e4 e5 e6 e7 ef0 ef1 ef2 ef3 ef4 ef5 ef6 ef7 hB9
            generalize ((((((((Wn18.setCell ⟨Wq17.heap.size, 0, none⟩ (.int .u64 (lim ((a + b) / c) 0))).setCell ⟨Wq17.heap.size, 1, none⟩ (.int .u64 (lim ((a + b) / c) 1))).setCell ⟨Wq17.heap.size, 2, none⟩ (.int .u64 (lim ((a + b) / c) 2))).setCell ⟨Wq17.heap.size, 3, none⟩ (.int .u64 (lim ((a + b) / c) 3))).setCell ⟨Wq17.heap.size, 4, none⟩ (.int .u64 (lim ((a + b) / c) 4))).setCell ⟨Wq17.heap.size, 5, none⟩ (.int .u64 (lim ((a + b) / c) 5))).setCell ⟨Wq17.heap.size, 6, none⟩ (.int .u64 (lim ((a + b) / c) 6))).setCell ⟨Wq17.heap.size, 7, none⟩ (.int .u64 (lim ((a + b) / c) 7))) = Wx19 at hH R5 R6 hz9 ⊢
            obtain ⟨e0, e1, e2, e3, ef⟩ := id R6
            have ef0 := ef 0 (by decide); have ef1 := ef 1 (by decide); have ef2 := ef 2 (by decide); have ef3 := ef 3 (by decide)
            clear ef
            have ho : Only Wx19 ((((Wx19.setCell ⟨Wq1.heap.size, 0, none⟩ (.int .u64 (lim (rmod (a + b) c) 0))).setCell ⟨Wq1.heap.size, 1, none⟩ (.int .u64 (lim (rmod (a + b) c) 1))).setCell ⟨Wq1.heap.size, 2, none⟩ (.int .u64 (lim (rmod (a + b) c) 2))).setCell ⟨Wq1.heap.size, 3, none⟩ (.int .u64 (lim (rmod (a + b) c) 3))) (Wq1.heap.size) 0 4 := ((((Only.refl _ _ _ _).setCell _ _ (by omega) (by omega)).setCell _ _ (by omega) (by omega)).setCell _ _ (by omega) (by omega)).setCell _ _ (by omega) (by omega)
            replace R5 := R5.only ho (by omega)
            replace R6 : Row4 ((((Wx19.setCell ⟨Wq1.heap.size, 0, none⟩ (.int .u64 (lim (rmod (a + b) c) 0))).setCell ⟨Wq1.heap.size, 1, none⟩ (.int .u64 (lim (rmod (a + b) c) 1))).setCell ⟨Wq1.heap.size, 2, none⟩ (.int .u64 (lim (rmod (a + b) c) 2))).setCell ⟨Wq1.heap.size, 3, none⟩ (.int .u64 (lim (rmod (a + b) c) 3))) (Wq1.heap.size) (lim (rmod (a + b) c) 0) (lim (rmod (a + b) c) 1) (lim (rmod (a + b) c) 2) (lim (rmod (a + b) c) 3) := ⟨by simp [go_sem, e0], by simp [go_sem, e1], by simp [go_sem, e2], by simp [go_sem, e3], fun j hj => (ho.frozen j).trans (R6.fz j hj)⟩
            have hB9 := hH.trans (ho.below (by omega))
            clear ho hz9
            refine wpAnyH_ready (rs := [14]) (by kernel_rfl) (by simp) ?_
            refine AllReadyH.cons rfl (fun K hK => ?_) AllReadyH.nil
            go_simp
            refine hK.out _ _ hB9 (fun hH => ?_)
            clear hK K e0 e1 e2 e3 ef0 ef1 ef2 ef3 hB9
            generalize ((((Wx19.setCell ⟨Wq1.heap.size, 0, none⟩ (.int .u64 (lim (rmod (a + b) c) 0))).setCell ⟨Wq1.heap.size, 1, none⟩ (.int .u64 (lim (rmod (a + b) c) 1))).setCell ⟨Wq1.heap.size, 2, none⟩ (.int .u64 (lim (rmod (a + b) c) 2))).setCell ⟨Wq1.heap.size, 3, none⟩ (.int .u64 (lim (rmod (a + b) c) 3))) = Wy19 at hH R5 R6 ⊢
            refine wpAnyH_done (by kernel_rfl) ?_ _
            obtain ⟨e0, e1, e2, e3, -⟩ := R6
            obtain ⟨x0, x1, x2, x3, x4, x5, x6, x7⟩ := C2.below hH z4
            clear R5
            go_wp2
            simp [bodyPost, results, Try.results34, go_sem, x0, x1, x2, x3]
            exact set4_below (hB.trans (hH.mono hB.size)) (by omega) _
        · go_simp
          have hbn := below1 Wn16 (.cells #[.int .u64 0, .int .u64 0, .int .u64 0, .int .u64 0, .int .u64 0, .int .u64 0, .int .u64 0, .int .u64 0] 56)
          refine hK.out _ _ (below_over0 hH hbn) (fun hH => ?_)
          replace R6 := R6.below hbn (by omega)
          have R5 := row8_new Wn16 0 0 0 0 0 0 0 0
          have hz20 : Wn16.heap.size + 1 ≤ (Wn16.alloc (.cells #[.int .u64 0, .int .u64 0, .int .u64 0, .int .u64 0, .int .u64 0, .int .u64 0, .int .u64 0, .int .u64 0] 56)).heap.size := by simp
          clear hbn hK K
          generalize Wn16.alloc (.cells #[.int .u64 0, .int .u64 0, .int .u64 0, .int .u64 0, .int .u64 0, .int .u64 0, .int .u64 0, .int .u64 0] 56) = Wn20 at hH hz20 R5 R6 ⊢
          have hw20 := hH.size
          refine wpAnyH_ready (rs := [7]) (by kernel_rfl) (by simp) ?_
          refine (AllReadyH.cons rfl (fun K hK => ?_) AllReadyH.nil)
          · go_simp
            refine (HDV.out _).mono ?_
            rintro e Wq21 ⟨rfl, hbn⟩
            go_wp2_with fail
            refine hK.out _ _ (below_over0 hH hbn) (fun hH => ?_)
            replace R5 := R5.below hbn (by omega)
            replace R6 := R6.below hbn (by omega)
            have hz21 := hbn.size
            clear hbn hK K
            refine take_d (i := 8) (d := some 9) (v := .tuple #[.agg #[.int .u64 (lim ((a + b) / c) 0), .int .u64 (lim ((a + b) / c) 1), .int .u64 (lim ((a + b) / c) 2), .int .u64 (lim ((a + b) / c) 3), .int .u64 (lim ((a + b) / c) 4), .int .u64 (lim ((a + b) / c) 5), .int .u64 (lim ((a + b) / c) 6), .int .u64 (lim ((a + b) / c) 7)], .agg #[.int .u64 (lim (rmod (a + b) c) 0), .int .u64 (lim (rmod (a + b) c) 1), .int .u64 (lim (rmod (a + b) c) 2), .int .u64 (lim (rmod (a + b) c) 3)]]) rfl rfl (by kernel_rfl) (by kernel_rfl) (by kernel_rfl) (fun _ _ _ h => h) (Or.inl ⟨by rfl, fun W hW => ?_⟩) hH ?_
            · clear hW hH
              go_simp
            simp only [Act.put, List.setIfInBounds_toArray, List.set_cons_zero, List.set_cons_succ]
            refine take_d (i := 9) (d := some 18) (v := .agg #[.int .u64 (lim ((a + b) / c) 0), .int .u64 (lim ((a + b) / c) 1), .int .u64 (lim ((a + b) / c) 2), .int .u64 (lim ((a + b) / c) 3), .int .u64 (lim ((a + b) / c) 4), .int .u64 (lim ((a + b) / c) 5), .int .u64 (lim ((a + b) / c) 6), .int .u64 (lim ((a + b) / c) 7)]) rfl rfl (by kernel_rfl) (by kernel_rfl) (by kernel_rfl) (fun _ _ _ h => h) (Or.inl ⟨by rfl, fun W hW => ?_⟩) hH ?_
            · clear hW hH
              go_simp
            simp only [Act.put, List.setIfInBounds_toArray, List.set_cons_zero, List.set_cons_succ]
            refine take_d (i := 10) (d := some 19) (v := .agg #[.int .u64 (lim (rmod (a + b) c) 0), .int .u64 (lim (rmod (a + b) c) 1), .int .u64 (lim (rmod (a + b) c) 2), .int .u64 (lim (rmod (a + b) c) 3)]) rfl rfl (by kernel_rfl) (by kernel_rfl) (by kernel_rfl) (fun _ _ _ h => h) (Or.inl ⟨by rfl, fun W hW => ?_⟩) hH ?_
            · clear hW hH
              go_simp
            simp only [Act.put, List.setIfInBounds_toArray, List.set_cons_zero, List.set_cons_succ]
            obtain ⟨e0, e1, e2, e3, e4, e5, e6, e7, ef⟩ := id R5
            have ef0 := ef 0 (by decide); have ef1 := ef 1 (by decide); have ef2 := ef 2 (by decide); have ef3 := ef 3 (by decide); have ef4 := ef 4 (by decide); have ef5 := ef 5 (by decide); have ef6 := ef 6 (by decide); have ef7 := ef 7 (by decide)
            clear ef
            have ho : Only Wq21 ((((((((Wq21.setCell ⟨Wn16.heap.size, 0, none⟩ (.int .u64 (lim ((a + b) / c) 0))).setCell ⟨Wn16.heap.size, 1, none⟩ (.int .u64 (lim ((a + b) / c) 1))).setCell ⟨Wn16.heap.size, 2, none⟩ (.int .u64 (lim ((a + b) / c) 2))).setCell ⟨Wn16.heap.size, 3, none⟩ (.int .u64 (lim ((a + b) / c) 3))).setCell ⟨Wn16.heap.size, 4, none⟩ (.int .u64 (lim ((a + b) / c) 4))).setCell ⟨Wn16.heap.size, 5, none⟩ (.int .u64 (lim ((a + b) / c) 5))).setCell ⟨Wn16.heap.size, 6, none⟩ (.int .u64 (lim ((a + b) / c) 6))).setCell ⟨Wn16.heap.size, 7, none⟩ (.int .u64 (lim ((a + b) / c) 7))) (Wn16.heap.size) 0 8 := ((((((((Only.refl _ _ _ _).setCell _ _ (by omega) (by omega)).setCell _ _ (by omega) (by omega)).setCell _ _ (by omega) (by omega)).setCell _ _ (by omega) (by omega)).setCell _ _ (by omega) (by omega)).setCell _ _ (by omega) (by omega)).setCell _ _ (by omega) (by omega)).setCell _ _ (by omega) (by omega)
            replace R5 := ((((((((R5.put0 (lim ((a + b) / c) 0)).put1 (lim ((a + b) / c) 1)).put2 (lim ((a + b) / c) 2)).put3 (lim ((a + b) / c) 3)).put4 (lim ((a + b) / c) 4)).put5 (lim ((a + b) / c) 5)).put6 (lim ((a + b) / c) 6)).put7 (lim ((a + b) / c) 7))
            replace R6 := R6.only ho (by omega)
            have hB9 := hH.trans (ho.below (by omega))
            have hz9 := Nat.le_of_eq ho.size.symm
            clear ho
            refine wpAnyH_ready (rs := [13]) (by kernel_rfl) (by simp) ?_
            refine AllReadyH.cons rfl (fun K hK => ?_) AllReadyH.nil
            go_simp
            refine hK.out _ _ hB9 (fun hH => ?_)
            clear hK K e0 e1 e2 e3 e4 e5 e6 e7 ef0 ef1 ef2 ef3 ef4 ef5 ef6 ef7 hB9
            generalize ((((((((Wq21.setCell ⟨Wn16.heap.size, 0, none⟩ (.int .u64 (lim ((a + b) / c) 0))).setCell ⟨Wn16.heap.size, 1, none⟩ (.int .u64 (lim ((a + b) / c) 1))).setCell ⟨Wn16.heap.size, 2, none⟩ (.int .u64 (lim ((a + b) / c) 2))).setCell ⟨Wn16.heap.size, 3, none⟩ (.int .u64 (lim ((a + b) / c) 3))).setCell ⟨Wn16.heap.size, 4, none⟩ (.int .u64 (lim ((a + b) / c) 4))).setCell ⟨Wn16.heap.size, 5, none⟩ (.int .u64 (lim ((a + b) / c) 5))).setCell ⟨Wn16.heap.size, 6, none⟩ (.int .u64 (lim ((a + b) / c) 6))).setCell ⟨Wn16.heap.size, 7, none⟩ (.int .u64 (lim ((a + b) / c) 7))) = Wx22 at hH R5 R6 hz9 ⊢
            obtain ⟨e0, e1, e2, e3, ef⟩ := id R6
            have ef0 := ef 0 (by decide); have ef1 := ef 1 (by decide); have ef2 := ef 2 (by decide); have ef3 := ef 3 (by decide)
            clear ef
            have ho : Only Wx22 ((((Wx22.setCell ⟨Wq1.heap.size, 0, none⟩ (.int .u64 (lim (rmod (a + b) c) 0))).setCell ⟨Wq1.heap.size, 1, none⟩ (.int .u64 (lim (rmod (a + b) c) 1))).setCell ⟨Wq1.heap.size, 2, none⟩ (.int .u64 (lim (rmod (a + b) c) 2))).setCell ⟨Wq1.heap.size, 3, none⟩ (.int .u64 (lim (rmod (a + b) c) 3))) (Wq1.heap.size) 0 4 := ((((Only.refl _ _ _ _).setCell _ _ (by omega) (by omega)).setCell _ _ (by omega) (by omega)).setCell _ _ (by omega) (by omega)).setCell _ _ (by omega) (by omega)
            replace R5 := R5.only ho (by omega)
            replace R6 : Row4 ((((Wx22.setCell ⟨Wq1.heap.size, 0, none⟩ (.int .u64 (lim (rmod (a + b) c) 0))).setCell ⟨Wq1.heap.size, 1, none⟩ (.int .u64 (lim (rmod (a + b) c) 1))).setCell ⟨Wq1.heap.size, 2, none⟩ (.int .u64 (lim (rmod (a + b) c) 2))).setCell ⟨Wq1.heap.size, 3, none⟩ (.int .u64 (lim (rmod (a + b) c) 3))) (Wq1.heap.size) (lim (rmod (a + b) c) 0) (lim (rmod (a + b) c) 1) (lim (rmod (a + b) c) 2) (lim (rmod (a + b) c) 3) := ⟨by simp [go_sem, e0], by simp [go_sem, e1], by simp [go_sem, e2], by simp [go_sem, e3], fun j hj => (ho.frozen j).trans (R6.fz j hj)⟩
            have hB9 := hH.trans (ho.below (by omega))
            clear ho hz9
            refine wpAnyH_ready (rs := [14]) (by kernel_rfl) (by simp) ?_
            refine AllReadyH.cons rfl (fun K hK => ?_) AllReadyH.nil
            go_simp
            refine hK.out _ _ hB9 (fun hH => ?_)
            clear hK K e0 e1 e2 e3 ef0 ef1 ef2 ef3 hB9
            generalize ((((Wx22.setCell ⟨Wq1.heap.size, 0, none⟩ (.int .u64 (lim (rmod (a + b) c) 0))).setCell ⟨Wq1.heap.size, 1, none⟩ (.int .u64 (lim (rmod (a + b) c) 1))).setCell ⟨Wq1.heap.size, 2, none⟩ (.int .u64 (lim (rmod (a + b) c) 2))).setCell ⟨Wq1.heap.size, 3, none⟩ (.int .u64 (lim (rmod (a + b) c) 3))) = Wy22 at hH R5 R6 ⊢
            refine wpAnyH_done (by kernel_rfl) ?_ _
            obtain ⟨e0, e1, e2, e3, -⟩ := R6
            obtain ⟨x0, x1, x2, x3, x4, x5, x6, x7⟩ := C2.below hH z4
            clear R5
            go_wp2
            simp [bodyPost, results, Try.results34, go_sem, x0, x1, x2, x3]
            exact set4_below (hB.trans (hH.mono hB.size)) (by omega) _
    · go_simp
      have hbn := below1 Wq0 (.cells #[.int .u64 0, .int .u64 0, .int .u64 0, .int .u64 0, .int .u64 0, .int .u64 0, .int .u64 0, .int .u64 0] 56)
      refine hK.out _ _ (below_over0 hH hbn) (fun hH => ?_)
      have R5 := row8_new Wq0 0 0 0 0 0 0 0 0
      have hz23 : Wq0.heap.size + 1 ≤ (Wq0.alloc (.cells #[.int .u64 0, .int .u64 0, .int .u64 0, .int .u64 0, .int .u64 0, .int .u64 0, .int .u64 0, .int .u64 0] 56)).heap.size := by simp
      clear hbn hK K
      generalize Wq0.alloc (.cells #[.int .u64 0, .int .u64 0, .int .u64 0, .int .u64 0, .int .u64 0, .int .u64 0, .int .u64 0, .int .u64 0] 56) = Wn23 at hH hz23 R5 ⊢
      have hw23 := hH.size
      refine wpAnyH_ready (rs := [5, 12]) (by kernel_rfl) (by simp) ?_
      refine (AllReadyH.cons rfl (fun K hK => ?_) (AllReadyH.cons rfl (fun K hK => ?_) AllReadyH.nil))
      · go_simp
        refine (HWI.out _).mono ?_
        rintro e Wq24 ⟨rfl, hbn⟩
        go_wp2_with fail
        refine hK.out _ _ (below_over0 hH hbn) (fun hH => ?_)
        replace R5 := R5.below hbn (by omega)
        have hz24 := hbn.size
        clear hbn hK K
        refine wpAnyH_ready (rs := [7, 12]) (by kernel_rfl) (by simp) ?_
        refine (AllReadyH.cons rfl (fun K hK => ?_) (AllReadyH.cons rfl (fun K hK => ?_) AllReadyH.nil))
        · go_simp
          refine (HDV.out _).mono ?_
          rintro e Wq25 ⟨rfl, hbn⟩
          go_wp2_with fail
          refine hK.out _ _ (below_over0 hH hbn) (fun hH => ?_)
          replace R5 := R5.below hbn (by omega)
          have hz25 := hbn.size
          clear hbn hK K
          refine take_d (i := 8) (d := some 9) (v := .tuple #[.agg #[.int .u64 (lim ((a + b) / c) 0), .int .u64 (lim ((a + b) / c) 1), .int .u64 (lim ((a + b) / c) 2), .int .u64 (lim ((a + b) / c) 3), .int .u64 (lim ((a + b) / c) 4), .int .u64 (lim ((a + b) / c) 5), .int .u64 (lim ((a + b) / c) 6), .int .u64 (lim ((a + b) / c) 7)], .agg #[.int .u64 (lim (rmod (a + b) c) 0), .int .u64 (lim (rmod (a + b) c) 1), .int .u64 (lim (rmod (a + b) c) 2), .int .u64 (lim (rmod (a + b) c) 3)]]) rfl rfl (by kernel_rfl) (by kernel_rfl) (by kernel_rfl) (fun _ _ _ h => h) (Or.inl ⟨by rfl, fun W hW => ?_⟩) hH ?_
          · clear hW hH
            go_simp
          simp only [Act.put, List.setIfInBounds_toArray, List.set_cons_zero, List.set_cons_succ]
          refine take_d (i := 9) (d := some 18) (v := .agg #[.int .u64 (lim ((a + b) / c) 0), .int .u64 (lim ((a + b) / c) 1), .int .u64 (lim ((a + b) / c) 2), .int .u64 (lim ((a + b) / c) 3), .int .u64 (lim ((a + b) / c) 4), .int .u64 (lim ((a + b) / c) 5), .int .u64 (lim ((a + b) / c) 6), .int .u64 (lim ((a + b) / c) 7)]) rfl rfl (by kernel_rfl) (by kernel_rfl) (by kernel_rfl) (fun _ _ _ h => h) (Or.inl ⟨by rfl, fun W hW => ?_⟩) hH ?_
          · clear hW hH
            go_simp
          simp only [Act.put, List.setIfInBounds_toArray, List.set_cons_zero, List.set_cons_succ]
          refine take_d (i := 10) (d := some 19) (v := .agg #[.int .u64 (lim (rmod (a + b) c) 0), .int .u64 (lim (rmod (a + b) c) 1), .int .u64 (lim (rmod (a + b) c) 2), .int .u64 (lim (rmod (a + b) c) 3)]) rfl rfl (by kernel_rfl) (by kernel_rfl) (by kernel_rfl) (fun _ _ _ h => h) (Or.inl ⟨by rfl, fun W hW => ?_⟩) hH ?_
          · clear hW hH
            go_simp
          simp only [Act.put, List.setIfInBounds_toArray, List.set_cons_zero, List.set_cons_succ]
          refine wpAnyH_ready (rs := [12]) (by kernel_rfl) (by simp) ?_
          refine (AllReadyH.cons rfl (fun K hK => ?_) AllReadyH.nil)
          · go_simp
            have hbn := below1 Wq25 (.cells #[.int .u64 0, .int .u64 0, .int .u64 0, .int .u64 0] 24)
            refine hK.out _ _ (below_over0 hH hbn) (fun hH => ?_)
            replace R5 := R5.below hbn (by omega)
            have R6 := row4_new Wq25 0 0 0 0
            have hz26 : Wq25.heap.size + 1 ≤ (Wq25.alloc (.cells #[.int .u64 0, .int .u64 0, .int .u64 0, .int .u64 0] 24)).heap.size := by simp
            clear hbn hK K
            generalize Wq25.alloc (.cells #[.int .u64 0, .int .u64 0, .int .u64 0, .int .u64 0] 24) = Wn26 at hH hz26 R5 R6 ⊢
            have hw26 := hH.size
            obtain ⟨e0, e1, e2, e3, e4, e5, e6, e7, ef⟩ := id R5
            have ef0 := ef 0 (by decide); have ef1 := ef 1 (by decide); have ef2 := ef 2 (by decide); have ef3 := ef 3 (by decide); have ef4 := ef 4 (by decide); have ef5 := ef 5 (by decide); have ef6 := ef 6 (by decide); have ef7 := ef 7 (by decide)
            clear ef
            have ho : Only Wn26 ((((((((Wn26.setCell ⟨Wq0.heap.size, 0, none⟩ (.int .u64 (lim ((a + b) / c) 0))).setCell ⟨Wq0.heap.size, 1, none⟩ (.int .u64 (lim ((a + b) / c) 1))).setCell ⟨Wq0.heap.size, 2, none⟩ (.int .u64 (lim ((a + b) / c) 2))).setCell ⟨Wq0.heap.size, 3, none⟩ (.int .u64 (lim ((a + b) / c) 3))).setCell ⟨Wq0.heap.size, 4, none⟩ (.int .u64 (lim ((a + b) / c) 4))).setCell ⟨Wq0.heap.size, 5, none⟩ (.int .u64 (lim ((a + b) / c) 5))).setCell ⟨Wq0.heap.size, 6, none⟩ (.int .u64 (lim ((a + b) / c) 6))).setCell ⟨Wq0.heap.size, 7, none⟩ (.int .u64 (lim ((a + b) / c) 7))) (Wq0.heap.size) 0 8 := ((((((((Only.refl _ _ _ _).setCell _ _ (by omega) (by omega)).setCell _ _ (by omega) (by omega)).setCell _ _ (by omega) (by omega)).setCell _ _ (by omega) (by omega)).setCell _ _ (by omega) (by omega)).setCell _ _ (by omega) (by omega)).setCell _ _ (by omega) (by omega)).setCell _ _ (by omega) (by omega)
            replace R5 := ((((((((R5.put0 (lim ((a + b) / c) 0)).put1 (lim ((a + b) / c) 1)).put2 (lim ((a + b) / c) 2)).put3 (lim ((a + b) / c) 3)).put4 (lim ((a + b) / c) 4)).put5 (lim ((a + b) / c) 5)).put6 (lim ((a + b) / c) 6)).put7 (lim ((a + b) / c) 7))
            replace R6 := R6.only ho (by omega)
            have hB9 := hH.trans (ho.below (by omega))
            have hz9 := Nat.le_of_eq ho.size.symm
            clear ho
            refine wpAnyH_ready (rs := [13]) (by kernel_rfl) (by simp) ?_
            refine AllReadyH.cons rfl (fun K hK => ?_) AllReadyH.nil
            go_simp
            refine hK.out _ _ hB9 (fun hH => ?_)
            clear hK K e0 e1 e2 e3 e4 e5 e6 e7 ef0 ef1 ef2 ef3 ef4 ef5 ef6 ef7 hB9
            generalize ((((((((Wn26.setCell ⟨Wq0.heap.size, 0, none⟩ (.int .u64 (lim ((a + b) / c) 0))).setCell ⟨Wq0.heap.size, 1, none⟩ (.int .u64 (lim ((a + b) / c) 1))).setCell ⟨Wq0.heap.size, 2, none⟩ (.int .u64 (lim ((a + b) / c) 2))).setCell ⟨Wq0.heap.size, 3, none⟩ (.int .u64 (lim ((a + b) / c) 3))).setCell ⟨Wq0.heap.size, 4, none⟩ (.int .u64 (lim ((a + b) / c) 4))).setCell ⟨Wq0.heap.size, 5, none⟩ (.int .u64 (lim ((a + b) / c) 5))).setCell ⟨Wq0.heap.size, 6, none⟩ (.int .u64 (lim ((a + b) / c) 6))).setCell ⟨Wq0.heap.size, 7, none⟩ (.int .u64 (lim ((a + b) / c) 7))) = Wx27 at hH R5 R6 hz9 ⊢
            obtain ⟨e0, e1, e2, e3, ef⟩ := id R6
            have ef0 := ef 0 (by decide); have ef1 := ef 1 (by decide); have ef2 := ef 2 (by decide); have ef3 := ef 3 (by decide)
            clear ef
            have ho : Only Wx27 ((((Wx27.setCell ⟨Wq25.heap.size, 0, none⟩ (.int .u64 (lim (rmod (a + b) c) 0))).setCell ⟨Wq25.heap.size, 1, none⟩ (.int .u64 (lim (rmod (a + b) c) 1))).setCell ⟨Wq25.heap.size, 2, none⟩ (.int .u64 (lim (rmod (a + b) c) 2))).setCell ⟨Wq25.heap.size, 3, none⟩ (.int .u64 (lim (rmod (a + b) c) 3))) (Wq25.heap.size) 0 4 := ((((Only.refl _ _ _ _).setCell _ _ (by omega) (by omega)).setCell _ _ (by omega) (by omega)).setCell _ _ (by omega) (by omega)).setCell _ _ (by omega) (by omega)
            replace R5 := R5.only ho (by omega)
            replace R6 : Row4 ((((Wx27.setCell ⟨Wq25.heap.size, 0, none⟩ (.int .u64 (lim (rmod (a + b) c) 0))).setCell ⟨Wq25.heap.size, 1, none⟩ (.int .u64 (lim (rmod (a + b) c) 1))).setCell ⟨Wq25.heap.size, 2, none⟩ (.int .u64 (lim (rmod (a + b) c) 2))).setCell ⟨Wq25.heap.size, 3, none⟩ (.int .u64 (lim (rmod (a + b) c) 3))) (Wq25.heap.size) (lim (rmod (a + b) c) 0) (lim (rmod (a + b) c) 1) (lim (rmod (a + b) c) 2) (lim (rmod (a + b) c) 3) := ⟨by simp [go_sem, e0], by simp [go_sem, e1], by simp [go_sem, e2], by simp [go_sem, e3], fun j hj => (ho.frozen j).trans (R6.fz j hj)⟩
            have hB9 := hH.trans (ho.below (by omega))
            clear ho hz9
            refine wpAnyH_ready (rs := [14]) (by kernel_rfl) (by simp) ?_
            refine AllReadyH.cons rfl (fun K hK => ?_) AllReadyH.nil
            go_simp
            refine hK.out _ _ hB9 (fun hH => ?_)
            clear hK K e0 e1 e2 e3 ef0 ef1 ef2 ef3 hB9
            generalize ((((Wx27.setCell ⟨Wq25.heap.size, 0, none⟩ (.int .u64 (lim (rmod (a + b) c) 0))).setCell ⟨Wq25.heap.size, 1, none⟩ (.int .u64 (lim (rmod (a + b) c) 1))).setCell ⟨Wq25.heap.size, 2, none⟩ (.int .u64 (lim (rmod (a + b) c) 2))).setCell ⟨Wq25.heap.size, 3, none⟩ (.int .u64 (lim (rmod (a + b) c) 3))) = Wy27 at hH R5 R6 ⊢
            refine wpAnyH_done (by kernel_rfl) ?_ _
            obtain ⟨e0, e1, e2, e3, -⟩ := R6
            obtain ⟨x0, x1, x2, x3, x4, x5, x6, x7⟩ := C2.below hH z4
            clear R5
            go_wp2
            simp [bodyPost, results, Try.results34, go_sem, x0, x1, x2, x3]
            exact set4_below (hB.trans (hH.mono hB.size)) (by omega) _
        · go_simp
          have hbn := below1 Wq24 (.cells #[.int .u64 0, .int .u64 0, .int .u64 0, .int .u64 0] 24)
          refine hK.out _ _ (below_over0 hH hbn) (fun hH => ?_)
          replace R5 := R5.below hbn (by omega)
          have R6 := row4_new Wq24 0 0 0 0
          have hz28 : Wq24.heap.size + 1 ≤ (Wq24.alloc (.cells #[.int .u64 0, .int .u64 0, .int .u64 0, .int .u64 0] 24)).heap.size := by simp
          clear hbn hK K
          generalize Wq24.alloc (.cells #[.int .u64 0, .int .u64 0, .int .u64 0, .int .u64 0] 24) = Wn28 at hH hz28 R5 R6 ⊢
          have hw28 := hH.size
          refine wpAnyH_ready (rs := [7]) (by kernel_rfl) (by simp) ?_
          refine (AllReadyH.cons rfl (fun K hK => ?_) AllReadyH.nil)
          · go_simp
            refine (HDV.out _).mono ?_
            rintro e Wq29 ⟨rfl, hbn⟩
            go_wp2_with fail
            refine hK.out _ _ (below_over0 hH hbn) (fun hH => ?_)
            replace R5 := R5.below hbn (by omega)
            replace R6 := R6.below hbn (by omega)
            have hz29 := hbn.size
            clear hbn hK K
            refine take_d (i := 8) (d := some 9) (v := .tuple #[.agg #[.int .u64 (lim ((a + b) / c) 0), .int .u64 (lim ((a + b) / c) 1), .int .u64 (lim ((a + b) / c) 2), .int .u64 (lim ((a + b) / c) 3), .int .u64 (lim ((a + b) / c) 4), .int .u64 (lim ((a + b) / c) 5), .int .u64 (lim ((a + b) / c) 6), .int .u64 (lim ((a + b) / c) 7)], .agg #[.int .u64 (lim (rmod (a + b) c) 0), .int .u64 (lim (rmod (a + b) c) 1), .int .u64 (lim (rmod (a + b) c) 2), .int .u64 (lim (rmod (a + b) c) 3)]]) rfl rfl (by kernel_rfl) (by kernel_rfl) (by kernel_rfl) (fun _ _ _ h => h) (Or.inl ⟨by rfl, fun W hW => ?_⟩) hH ?_
            · clear hW hH
              go_simp
            simp only [Act.put, List.setIfInBounds_toArray, List.set_cons_zero, List.set_cons_succ]
            refine take_d (i := 9) (d := some 18) (v := .agg #[.int .u64 (lim ((a + b) / c) 0), .int .u64 (lim ((a + b) / c) 1), .int .u64 (lim ((a + b) / c) 2), .int .u64 (lim ((a + b) / c) 3), .int .u64 (lim ((a + b) / c) 4), .int .u64 (lim ((a + b) / c) 5), .int .u64 (lim ((a + b) / c) 6), .int .u64 (lim ((a + b) / c) 7)]) rfl rfl (by kernel_rfl) (by kernel_rfl) (by kernel_rfl) (fun _ _ _ h => h) (Or.inl ⟨by rfl, fun W hW => ?_⟩) hH ?_
            · clear hW hH
              go_simp
            simp only [Act.put, List.setIfInBounds_toArray, List.set_cons_zero, List.set_cons_succ]
            refine take_d (i := 10) (d := some 19) (v := .agg #[.int .u64 (lim (rmod (a + b) c) 0), .int .u64 (lim (rmod (a + b) c) 1), .int .u64 (lim (rmod (a + b) c) 2), .int .u64 (lim (rmod (a + b) c) 3)]) rfl rfl (by kernel_rfl) (by kernel_rfl) (by kernel_rfl) (fun _ _ _ h => h) (Or.inl ⟨by rfl, fun W hW => ?_⟩) hH ?_
            · clear hW hH
              go_simp
            simp only [Act.put, List.setIfInBounds_toArray, List.set_cons_zero, List.set_cons_succ]
            obtain ⟨e0, e1, e2, e3, e4, e5, e6, e7, ef⟩ := id R5
            have ef0 := ef 0 (by decide); have ef1 := ef 1 (by decide); have ef2 := ef 2 (by decide); have ef3 := ef 3 (by decide); have ef4 := ef 4 (by decide); have ef5 := ef 5 (by decide); have ef6 := ef 6 (by decide); have ef7 := ef 7 (by decide)
            clear ef
            have ho : Only Wq29 ((((((((Wq29.setCell ⟨Wq0.heap.size, 0, none⟩ (.int .u64 (lim ((a + b) / c) 0))).setCell ⟨Wq0.heap.size, 1, none⟩ (.int .u64 (lim ((a + b) / c) 1))).setCell ⟨Wq0.heap.size, 2, none⟩ (.int .u64 (lim ((a + b) / c) 2))).setCell ⟨Wq0.heap.size, 3, none⟩ (.int .u64 (lim ((a + b) / c) 3))).setCell ⟨Wq0.heap.size, 4, none⟩ (.int .u64 (lim ((a + b) / c) 4))).setCell ⟨Wq0.heap.size, 5, none⟩ (.int .u64 (lim ((a + b) / c) 5))).setCell ⟨Wq0.heap.size, 6, none⟩ (.int .u64 (lim ((a + b) / c) 6))).setCell ⟨Wq0.heap.size, 7, none⟩ (.int .u64 (lim ((a + b) / c) 7))) (Wq0.heap.size) 0 8 := ((((((((Only.refl _ _ _ _).setCell _ _ (by omega) (by omega)).setCell _ _ (by omega) (by omega)).setCell _ _ (by omega) (by omega)).setCell _ _ (by omega) (by omega)).setCell _ _ (by omega) (by omega)).setCell _ _ (by omega) (by omega)).setCell _ _ (by omega) (by omega)).setCell _ _ (by omega) (by omega)
            replace R5 := ((((((((R5.put0 (lim ((a + b) / c) 0)).put1 (lim ((a + b) / c) 1)).put2 (lim ((a + b) / c) 2)).put3 (lim ((a + b) / c) 3)).put4 (lim ((a + b) / c) 4)).put5 (lim ((a + b) / c) 5)).put6 (lim ((a + b) / c) 6)).put7 (lim ((a + b) / c) 7))
            replace R6 := R6.only ho (by omega)
            have hB9 := hH.trans (ho.below (by omega))
            have hz9 := Nat.le_of_eq ho.size.symm
            clear ho
            refine wpAnyH_ready (rs := [13]) (by kernel_rfl) (by simp) ?_
            refine AllReadyH.cons rfl (fun K hK => ?_) AllReadyH.nil
            go_simp
            refine hK.out _ _ hB9 (fun hH => ?_)
            clear hK K e0 e1 e2 e3 e4 e5 e6 e7 ef0 ef1 ef2 ef3 ef4 ef5 ef6 ef7 hB9
            generalize ((((((((Wq29.setCell ⟨Wq0.heap.size, 0, none⟩ (.int .u64 (lim ((a + b) / c) 0))).setCell ⟨Wq0.heap.size, 1, none⟩ (.int .u64 (lim ((a + b) / c) 1))).setCell ⟨Wq0.heap.size, 2, none⟩ (.int .u64 (lim ((a + b) / c) 2))).setCell ⟨Wq0.heap.size, 3, none⟩ (.int .u64 (lim ((a + b) / c) 3))).setCell ⟨Wq0.heap.size, 4, none⟩ (.int .u64 (lim ((a + b) / c) 4))).setCell ⟨Wq0.heap.size, 5, none⟩ (.int .u64 (lim ((a + b) / c) 5))).setCell ⟨Wq0.heap.size, 6, none⟩ (.int .u64 (lim ((a + b) / c) 6))).setCell ⟨Wq0.heap.size, 7, none⟩ (.int .u64 (lim ((a + b) / c) 7))) = Wx30 at hH R5 R6 hz9 ⊢
            obtain ⟨e0, e1, e2, e3, ef⟩ := id R6
            have ef0 := ef 0 (by decide); have ef1 := ef 1 (by decide); have ef2 := ef 2 (by decide); have ef3 := ef 3 (by decide)
            clear ef
            have ho : Only Wx30 ((((Wx30.setCell ⟨Wq24.heap.size, 0, none⟩ (.int .u64 (lim (rmod (a + b) c) 0))).setCell ⟨Wq24.heap.size, 1, none⟩ (.int .u64 (lim (rmod (a + b) c) 1))).setCell ⟨Wq24.heap.size, 2, none⟩ (.int .u64 (lim (rmod (a + b) c) 2))).setCell ⟨Wq24.heap.size, 3, none⟩ (.int .u64 (lim (rmod (a + b) c) 3))) (Wq24.heap.size) 0 4 := ((((Only.refl _ _ _ _).setCell _ _ (by omega) (by omega)).setCell _ _ (by omega) (by omega)).setCell _ _ (by omega) (by omega)).setCell _ _ (by omega) (by omega)
            replace R5 := R5.only ho (by omega)
            replace R6 : Row4 ((((Wx30.setCell ⟨Wq24.heap.size, 0, none⟩ (.int .u64 (lim (rmod (a + b) c) 0))).setCell ⟨Wq24.heap.size, 1, none⟩ (.int .u64 (lim (rmod (a + b) c) 1))).setCell ⟨Wq24.heap.size, 2, none⟩ (.int .u64 (lim (rmod (a + b) c) 2))).setCell ⟨Wq24.heap.size, 3, none⟩ (.int .u64 (lim (rmod (a + b) c) 3))) (Wq24.heap.size) (lim (rmod (a + b) c) 0) (lim (rmod (a + b) c) 1) (lim (rmod (a + b) c) 2) (lim (rmod (a + b) c) 3) := ⟨by simp [go_sem, e0], by simp [go_sem, e1], by simp [go_sem, e2], by simp [go_sem, e3], fun j hj => (ho.frozen j).trans (R6.fz j hj)⟩
            have hB9 := hH.trans (ho.below (by omega))
            clear ho hz9
            refine wpAnyH_ready (rs := [14]) (by kernel_rfl) (by simp) ?_
            refine AllReadyH.cons rfl (fun K hK => ?_) AllReadyH.nil
            go_simp
            refine hK.out _ _ hB9 (fun hH => ?_)
            clear hK K e0 e1 e2 e3 ef0 ef1 ef2 ef3 hB9
            generalize ((((Wx30.setCell ⟨Wq24.heap.size, 0, none⟩ (.int .u64 (lim (rmod (a + b) c) 0))).setCell ⟨Wq24.heap.size, 1, none⟩ (.int .u64 (lim (rmod (a + b) c) 1))).setCell ⟨Wq24.heap.size, 2, none⟩ (.int .u64 (lim (rmod (a + b) c) 2))).setCell ⟨Wq24.heap.size, 3, none⟩ (.int .u64 (lim (rmod (a + b) c) 3))) = Wy30 at hH R5 R6 ⊢
            refine wpAnyH_done (by kernel_rfl) ?_ _
            obtain ⟨e0, e1, e2, e3, -⟩ := R6
            obtain ⟨x0, x1, x2, x3, x4, x5, x6, x7⟩ := C2.below hH z4
            clear R5
            go_wp2
            simp [bodyPost, results, Try.results34, go_sem, x0, x1, x2, x3]
            exact set4_below (hB.trans (hH.mono hB.size)) (by omega) _
      · go_simp
        have hbn := below1 Wn23 (.cells #[.int .u64 0, .int .u64 0, .int .u64 0, .int .u64 0] 24)
        refine hK.out _ _ (below_over0 hH hbn) (fun hH => ?_)
        replace R5 := R5.below hbn (by omega)
        have R6 := row4_new Wn23 0 0 0 0
        have hz31 : Wn23.heap.size + 1 ≤ (Wn23.alloc (.cells #[.int .u64 0, .int .u64 0, .int .u64 0, .int .u64 0] 24)).heap.size := by simp
        clear hbn hK K
        generalize Wn23.alloc (.cells #[.int .u64 0, .int .u64 0, .int .u64 0, .int .u64 0] 24) = Wn31 at hH hz31 R5 R6 ⊢
        have hw31 := hH.size
        refine wpAnyH_ready (rs := [5]) (by kernel_rfl) (by simp) ?_
        refine (AllReadyH.cons rfl (fun K hK => ?_) AllReadyH.nil)
        · go_simp
          refine (HWI.out _).mono ?_
          rintro e Wq32 ⟨rfl, hbn⟩
          go_wp2_with fail
          refine hK.out _ _ (below_over0 hH hbn) (fun hH => ?_)
          replace R5 := R5.below hbn (by omega)
          replace R6 := R6.below hbn (by omega)
          have hz32 := hbn.size
          clear hbn hK K
          refine wpAnyH_ready (rs := [7]) (by kernel_rfl) (by simp) ?_
          refine (AllReadyH.cons rfl (fun K hK => ?_) AllReadyH.nil)
          · go_simp
            refine (HDV.out _).mono ?_
            rintro e Wq33 ⟨rfl, hbn⟩
            go_wp2_with fail
            refine hK.out _ _ (below_over0 hH hbn) (fun hH => ?_)
            replace R5 := R5.below hbn (by omega)
            replace R6 := R6.below hbn (by omega)
            have hz33 := hbn.size
            clear hbn hK K
            refine take_d (i := 8) (d := some 9) (v := .tuple #[.agg #[.int .u64 (lim ((a + b) / c) 0), .int .u64 (lim ((a + b) / c) 1), .int .u64 (lim ((a + b) / c) 2), .int .u64 (lim ((a + b) / c) 3), .int .u64 (lim ((a + b) / c) 4), .int .u64 (lim ((a + b) / c) 5), .int .u64 (lim ((a + b) / c) 6), .int .u64 (lim ((a + b) / c) 7)], .agg #[.int .u64 (lim (rmod (a + b) c) 0), .int .u64 (lim (rmod (a + b) c) 1), .int .u64 (lim (rmod (a + b) c) 2), .int .u64 (lim (rmod (a + b) c) 3)]]) rfl rfl (by kernel_rfl) (by kernel_rfl) (by kernel_rfl) (fun _ _ _ h => h) (Or.inl ⟨by rfl, fun W hW => ?_⟩) hH ?_
            · clear hW hH
              go_simp
            simp only [Act.put, List.setIfInBounds_toArray, List.set_cons_zero, List.set_cons_succ]
            refine take_d (i := 9) (d := some 18) (v := .agg #[.int .u64 (lim ((a + b) / c) 0), .int .u64 (lim ((a + b) / c) 1), .int .u64 (lim ((a + b) / c) 2), .int .u64 (lim ((a + b) / c) 3), .int .u64 (lim ((a + b) / c) 4), .int .u64 (lim ((a + b) / c) 5), .int .u64 (lim ((a + b) / c) 6), .int .u64 (lim ((a + b) / c) 7)]) rfl rfl (by kernel_rfl) (by kernel_rfl) (by kernel_rfl) (fun _ _ _ h => h) (Or.inl ⟨by rfl, fun W hW => ?_⟩) hH ?_
            · clear hW hH
              go_simp
            simp only [Act.put, List.setIfInBounds_toArray, List.set_cons_zero, List.set_cons_succ]
            refine take_d (i := 10) (d := some 19) (v := .agg #[.int .u64 (lim (rmod (a + b) c) 0), .int .u64 (lim (rmod (a + b) c) 1), .int .u64 (lim (rmod (a + b) c) 2), .int .u64 (lim (rmod (a + b) c) 3)]) rfl rfl (by kernel_rfl) (by kernel_rfl) (by kernel_rfl) (fun _ _ _ h => h) (Or.inl ⟨by rfl, fun W hW => ?_⟩) hH ?_
            · clear hW hH
              go_simp
            simp only [Act.put, List.setIfInBounds_toArray, List.set_cons_zero, List.set_cons_succ]
            obtain ⟨e0, e1, e2, e3, e4, e5, e6, e7, ef⟩ := id R5
            have ef0 := ef 0 (by decide); have ef1 := ef 1 (by decide); have ef2 := ef 2 (by decide); have ef3 := ef 3 (by decide); have ef4 := ef 4 (by decide); have ef5 := ef 5 (by decide); have ef6 := ef 6 (by decide); have ef7 := ef 7 (by decide)
            clear ef
            have ho : Only Wq33 ((((((((Wq33.setCell ⟨Wq0.heap.size, 0, none⟩ (.int .u64 (lim ((a + b) / c) 0))).setCell ⟨Wq0.heap.size, 1, none⟩ (.int .u64 (lim ((a + b) / c) 1))).setCell ⟨Wq0.heap.size, 2, none⟩ (.int .u64 (lim ((a + b) / c) 2))).setCell ⟨Wq0.heap.size, 3, none⟩ (.int .u64 (lim ((a + b) / c) 3))).setCell ⟨Wq0.heap.size, 4, none⟩ (.int .u64 (lim ((a + b) / c) 4))).setCell ⟨Wq0.heap.size, 5, none⟩ (.int .u64 (lim ((a + b) / c) 5))).setCell ⟨Wq0.heap.size, 6, none⟩ (.int .u64 (lim ((a + b) / c) 6))).setCell ⟨Wq0.heap.size, 7, none⟩ (.int .u64 (lim ((a + b) / c) 7))) (Wq0.heap.size) 0 8 := ((((((((Only.refl _ _ _ _).setCell _ _ (by omega) (by omega)).setCell _ _ (by omega) (by omega)).setCell _ _ (by omega) (by omega)).setCell _ _ (by omega) (by omega)).setCell _ _ (by omega) (by omega)).setCell _ _ (by omega) (by omega)).setCell _ _ (by omega) (by omega)).setCell _ _ (by omega) (by omega)
            replace R5 := ((((((((R5.put0 (lim ((a + b) / c) 0)).put1 (lim ((a + b) / c) 1)).put2 (lim ((a + b) / c) 2)).put3 (lim ((a + b) / c) 3)).put4 (lim ((a + b) / c) 4)).put5 (lim ((a + b) / c) 5)).put6 (lim ((a + b) / c) 6)).put7 (lim ((a + b) / c) 7))
            replace R6 := R6.only ho (by omega)
            have hB9 := hH.trans (ho.below (by omega))
            have hz9 := Nat.le_of_eq ho.size.symm
            clear ho
            refine wpAnyH_ready (rs := [13]) (by kernel_rfl) (by simp) ?_
            refine AllReadyH.cons rfl (fun K hK => ?_) AllReadyH.nil
            go_simp
            refine hK.out _ _ hB9 (fun hH => ?_)
            clear hK K e0 e1 e2 e3 e4 e5 e6 e7 ef0 ef1 ef2 ef3 ef4 ef5 ef6 ef7 hB9
            generalize ((((((((Wq33.setCell ⟨Wq0.heap.size, 0, none⟩ (.int .u64 (lim ((a + b) / c) 0))).setCell ⟨Wq0.heap.size, 1, none⟩ (.int .u64 (lim ((a + b) / c) 1))).setCell ⟨Wq0.heap.size, 2, none⟩ (.int .u64 (lim ((a + b) / c) 2))).setCell ⟨Wq0.heap.size, 3, none⟩ (.int .u64 (lim ((a + b) / c) 3))).setCell ⟨Wq0.heap.size, 4, none⟩ (.int .u64 (lim ((a + b) / c) 4))).setCell ⟨Wq0.heap.size, 5, none⟩ (.int .u64 (lim ((a + b) / c) 5))).setCell ⟨Wq0.heap.size, 6, none⟩ (.int .u64 (lim ((a + b) / c) 6))).setCell ⟨Wq0.heap.size, 7, none⟩ (.int .u64 (lim ((a + b) / c) 7))) = Wx34 at hH R5 R6 hz9 ⊢
            obtain ⟨e0, e1, e2, e3, ef⟩ := id R6
            have ef0 := ef 0 (by decide); have ef1 := ef 1 (by decide); have ef2 := ef 2 (by decide); have ef3 := ef 3 (by decide)
            clear ef
            have ho : Only Wx34 ((((Wx34.setCell ⟨Wn23.heap.size, 0, none⟩ (.int .u64 (lim (rmod (a + b) c) 0))).setCell ⟨Wn23.heap.size, 1, none⟩ (.int .u64 (lim (rmod (a + b) c) 1))).setCell ⟨Wn23.heap.size, 2, none⟩ (.int .u64 (lim (rmod (a + b) c) 2))).setCell ⟨Wn23.heap.size, 3, none⟩ (.int .u64 (lim (rmod (a + b) c) 3))) (Wn23.heap.size) 0 4 := ((((Only.refl _ _ _ _).setCell _ _ (by omega) (by omega)).setCell _ _ (by omega) (by omega)).setCell _ _ (by omega) (by omega)).setCell _ _ (by omega) (by omega)
            replace R5 := R5.only ho (by omega)
            replace R6 : Row4 ((((Wx34.setCell ⟨Wn23.heap.size, 0, none⟩ (.int .u64 (lim (rmod (a + b) c) 0))).setCell ⟨Wn23.heap.size, 1, none⟩ (.int .u64 (lim (rmod (a + b) c) 1))).setCell ⟨Wn23.heap.size, 2, none⟩ (.int .u64 (lim (rmod (a + b) c) 2))).setCell ⟨Wn23.heap.size, 3, none⟩ (.int .u64 (lim (rmod (a + b) c) 3))) (Wn23.heap.size) (lim (rmod (a + b) c) 0) (lim (rmod (a + b) c) 1) (lim (rmod (a + b) c) 2) (lim (rmod (a + b) c) 3) := ⟨by simp [go_sem, e0], by simp [go_sem, e1], by simp [go_sem, e2], by simp [go_sem, e3], fun j hj => (ho.frozen j).trans (R6.fz j hj)⟩
            have hB9 := hH.trans (ho.below (by omega))
            clear ho hz9
            refine wpAnyH_ready (rs := [14]) (by kernel_rfl) (by simp) ?_
            refine AllReadyH.cons rfl (fun K hK => ?_) AllReadyH.nil
            go_simp
            refine hK.out _ _ hB9 (fun hH => ?_)
            clear hK K e0 e1 e2 e3 ef0 ef1 ef2 ef3 hB9
            generalize ((((Wx34.setCell ⟨Wn23.heap.size, 0, none⟩ (.int .u64 (lim (rmod (a + b) c) 0))).setCell ⟨Wn23.heap.size, 1, none⟩ (.int .u64 (lim (rmod (a + b) c) 1))).setCell ⟨Wn23.heap.size, 2, none⟩ (.int .u64 (lim (rmod (a + b) c) 2))).setCell ⟨Wn23.heap.size, 3, none⟩ (.int .u64 (lim (rmod (a + b) c) 3))) = Wy34 at hH R5 R6 ⊢
            refine wpAnyH_done (by kernel_rfl) ?_ _
            obtain ⟨e0, e1, e2, e3, -⟩ := R6
            obtain ⟨x0, x1, x2, x3, x4, x5, x6, x7⟩ := C2.below hH z4
            clear R5
            go_wp2
            simp [bodyPost, results, Try.results34, go_sem, x0, x1, x2, x3]
            exact set4_below (hB.trans (hH.mono hB.size)) (by omega) _
    · go_simp
      have hbn := below1 Wq0 (.cells #[.int .u64 0, .int .u64 0, .int .u64 0, .int .u64 0] 24)
      refine hK.out _ _ (below_over0 hH hbn) (fun hH => ?_)
      have R6 := row4_new Wq0 0 0 0 0
      have hz35 : Wq0.heap.size + 1 ≤ (Wq0.alloc (.cells #[.int .u64 0, .int .u64 0, .int .u64 0, .int .u64 0] 24)).heap.size := by simp
      clear hbn hK K
      generalize Wq0.alloc (.cells #[.int .u64 0, .int .u64 0, .int .u64 0, .int .u64 0] 24) = Wn35 at hH hz35 R6 ⊢
      have hw35 := hH.size
      refine wpAnyH_ready (rs := [5, 11]) (by kernel_rfl) (by simp) ?_
      refine (AllReadyH.cons rfl (fun K hK => ?_) (AllReadyH.cons rfl (fun K hK => ?_) AllReadyH.nil))
      · go_simp
        refine (HWI.out _).mono ?_
        rintro e Wq36 ⟨rfl, hbn⟩
        go_wp2_with fail
        refine hK.out _ _ (below_over0 hH hbn) (fun hH => ?_)
        replace R6 := R6.below hbn (by omega)
        have hz36 := hbn.size
        clear hbn hK K
        refine wpAnyH_ready (rs := [7, 11]) (by kernel_rfl) (by simp) ?_
        refine (AllReadyH.cons rfl (fun K hK => ?_) (AllReadyH.cons rfl (fun K hK => ?_) AllReadyH.nil))
        · go_simp
          refine (HDV.out _).mono ?_
          rintro e Wq37 ⟨rfl, hbn⟩
          go_wp2_with fail
          refine hK.out _ _ (below_over0 hH hbn) (fun hH => ?_)
          replace R6 := R6.below hbn (by omega)
          have hz37 := hbn.size
          clear hbn hK K
          refine take_d (i := 8) (d := some 9) (v := .tuple #[.agg #[.int .u64 (lim ((a + b) / c) 0), .int .u64 (lim ((a + b) / c) 1), .int .u64 (lim ((a + b) / c) 2), .int .u64 (lim ((a + b) / c) 3), .int .u64 (lim ((a + b) / c) 4), .int .u64 (lim ((a + b) / c) 5), .int .u64 (lim ((a + b) / c) 6), .int .u64 (lim ((a + b) / c) 7)], .agg #[.int .u64 (lim (rmod (a + b) c) 0), .int .u64 (lim (rmod (a + b) c) 1), .int .u64 (lim (rmod (a + b) c) 2), .int .u64 (lim (rmod (a + b) c) 3)]]) rfl rfl (by kernel_rfl) (by kernel_rfl) (by kernel_rfl) (fun _ _ _ h => h) (Or.inl ⟨by rfl, fun W hW => ?_⟩) hH ?_
          · clear hW hH
            go_simp
          simp only [Act.put, List.setIfInBounds_toArray, List.set_cons_zero, List.set_cons_succ]
          refine take_d (i := 9) (d := some 18) (v := .agg #[.int .u64 (lim ((a + b) / c) 0), .int .u64 (lim ((a + b) / c) 1), .int .u64 (lim ((a + b) / c) 2), .int .u64 (lim ((a + b) / c) 3), .int .u64 (lim ((a + b) / c) 4), .int .u64 (lim ((a + b) / c) 5), .int .u64 (lim ((a + b) / c) 6), .int .u64 (lim ((a + b) / c) 7)]) rfl rfl (by kernel_rfl) (by kernel_rfl) (by kernel_rfl) (fun _ _ _ h => h) (Or.inl ⟨by rfl, fun W hW => ?_⟩) hH ?_
          · clear hW hH
            go_simp
          simp only [Act.put, List.setIfInBounds_toArray, List.set_cons_zero, List.set_cons_succ]
          refine take_d (i := 10) (d := some 19) (v := .agg #[.int .u64 (lim (rmod (a + b) c) 0), .int .u64 (lim (rmod (a + b) c) 1), .int .u64 (lim (rmod (a + b) c) 2), .int .u64 (lim (rmod (a + b) c) 3)]) rfl rfl (by kernel_rfl) (by kernel_rfl) (by kernel_rfl) (fun _ _ _ h => h) (Or.inl ⟨by rfl, fun W hW => ?_⟩) hH ?_
          · clear hW hH
            go_simp
          simp only [Act.put, List.setIfInBounds_toArray, List.set_cons_zero, List.set_cons_succ]
          refine wpAnyH_ready (rs := [11]) (by kernel_rfl) (by simp) ?_
          refine (AllReadyH.cons rfl (fun K hK => ?_) AllReadyH.nil)
          · go_simp
            have hbn := below1 Wq37 (.cells #[.int .u64 0, .int .u64 0, .int .u64 0, .int .u64 0, .int .u64 0, .int .u64 0, .int .u64 0, .int .u64 0] 56)
            refine hK.out _ _ (below_over0 hH hbn) (fun hH => ?_)
            replace R6 := R6.below hbn (by omega)
            have R5 := row8_new Wq37 0 0 0 0 0 0 0 0
            have hz38 : Wq37.heap.size + 1 ≤ (Wq37.alloc (.cells #[.int .u64 0, .int .u64 0, .int .u64 0, .int .u64 0, .int .u64 0, .int .u64 0, .int .u64 0, .int .u64 0] 56)).heap.size := by simp
            clear hbn hK K
            generalize Wq37.alloc (.cells #[.int .u64 0, .int .u64 0, .int .u64 0, .int .u64 0, .int .u64 0, .int .u64 0, .int .u64 0, .int .u64 0] 56) = Wn38 at hH hz38 R5 R6 ⊢
            have hw38 := hH.size
            obtain ⟨e0, e1, e2, e3, e4, e5, e6, e7, ef⟩ := id R5
            have ef0 := ef 0 (by decide); have ef1 := ef 1 (by decide); have ef2 := ef 2 (by decide); have ef3 := ef 3 (by decide); have ef4 := ef 4 (by decide); have ef5 := ef 5 (by decide); have ef6 := ef 6 (by decide); have ef7 := ef 7 (by decide)
            clear ef
            have ho : Only Wn38 ((((((((Wn38.setCell ⟨Wq37.heap.size, 0, none⟩ (.int .u64 (lim ((a + b) / c) 0))).setCell ⟨Wq37.heap.size, 1, none⟩ (.int .u64 (lim ((a + b) / c) 1))).setCell ⟨Wq37.heap.size, 2, none⟩ (.int .u64 (lim ((a + b) / c) 2))).setCell ⟨Wq37.heap.size, 3, none⟩ (.int .u64 (lim ((a + b) / c) 3))).setCell ⟨Wq37.heap.size, 4, none⟩ (.int .u64 (lim ((a + b) / c) 4))).setCell ⟨Wq37.heap.size, 5, none⟩ (.int .u64 (lim ((a + b) / c) 5))).setCell ⟨Wq37.heap.size, 6, none⟩ (.int .u64 (lim ((a + b) / c) 6))).setCell ⟨Wq37.heap.size, 7, none⟩ (.int .u64 (lim ((a + b) / c) 7))) (Wq37.heap.size) 0 8 := ((((((((Only.refl _ _ _ _).setCell _ _ (by omega) (by omega)).setCell _ _ (by omega) (by omega)).setCell _ _ (by omega) (by omega)).setCell _ _ (by omega) (by omega)).setCell _ _ (by omega) (by omega)).setCell _ _ (by omega) (by omega)).setCell _ _ (by omega) (by omega)).setCell _ _ (by omega) (by omega)
            replace R5 := ((((((((R5.put0 (lim ((a + b) / c) 0)).put1 (lim ((a + b) / c) 1)).put2 (lim ((a + b) / c) 2)).put3 (lim ((a + b) / c) 3)).put4 (lim ((a + b) / c) 4)).put5 (lim ((a + b) / c) 5)).put6 (lim ((a + b) / c) 6)).put7 (lim ((a + b) / c) 7))
            replace R6 := R6.only ho (by omega)
            have hB9 := hH.trans (ho.below (by omega))
            have hz9 := Nat.le_of_eq ho.size.symm
            clear ho
            refine wpAnyH_ready (rs := [13]) (by kernel_rfl) (by simp) ?_
            refine AllReadyH.cons rfl (fun K hK => ?_) AllReadyH.nil
            go_simp
            refine hK.out _ _ hB9 (fun hH => ?_)
            clear hK K e0 e1 e2 e3 e4 e5 e6 e7 ef0 ef1 ef2 ef3 ef4 ef5 ef6 ef7 hB9
            generalize ((((((((Wn38.setCell ⟨Wq37.heap.size, 0, none⟩ (.int .u64 (lim ((a + b) / c) 0))).setCell ⟨Wq37.heap.size, 1, none⟩ (.int .u64 (lim ((a + b) / c) 1))).setCell ⟨Wq37.heap.size, 2, none⟩ (.int .u64 (lim ((a + b) / c) 2))).setCell ⟨Wq37.heap.size, 3, none⟩ (.int .u64 (lim ((a + b) / c) 3))).setCell ⟨Wq37.heap.size, 4, none⟩ (.int .u64 (lim ((a + b) / c) 4))).setCell ⟨Wq37.heap.size, 5, none⟩ (.int .u64 (lim ((a + b) / c) 5))).setCell ⟨Wq37.heap.size, 6, none⟩ (.int .u64 (lim ((a + b) / c) 6))).setCell ⟨Wq37.heap.size, 7, none⟩ (.int .u64 (lim ((a + b) / c) 7))) = Wx39 at hH R5 R6 hz9 ⊢
            obtain ⟨e0, e1, e2, e3, ef⟩ := id R6
            have ef0 := ef 0 (by decide); have ef1 := ef 1 (by decide); have ef2 := ef 2 (by decide); have ef3 := ef 3 (by decide)
            clear ef
            have ho : Only Wx39 ((((Wx39.setCell ⟨Wq0.heap.size, 0, none⟩ (.int .u64 (lim (rmod (a + b) c) 0))).setCell ⟨Wq0.heap.size, 1, none⟩ (.int .u64 (lim (rmod (a + b) c) 1))).setCell ⟨Wq0.heap.size, 2, none⟩ (.int .u64 (lim (rmod (a + b) c) 2))).setCell ⟨Wq0.heap.size, 3, none⟩ (.int .u64 (lim (rmod (a + b) c) 3))) (Wq0.heap.size) 0 4 := ((((Only.refl _ _ _ _).setCell _ _ (by omega) (by omega)).setCell _ _ (by omega) (by omega)).setCell _ _ (by omega) (by omega)).setCell _ _ (by omega) (by omega)
            replace R5 := R5.only ho (by omega)
            replace R6 : Row4 ((((Wx39.setCell ⟨Wq0.heap.size, 0, none⟩ (.int .u64 (lim (rmod (a + b) c) 0))).setCell ⟨Wq0.heap.size, 1, none⟩ (.int .u64 (lim (rmod (a + b) c) 1))).setCell ⟨Wq0.heap.size, 2, none⟩ (.int .u64 (lim (rmod (a + b) c) 2))).setCell ⟨Wq0.heap.size, 3, none⟩ (.int .u64 (lim (rmod (a + b) c) 3))) (Wq0.heap.size) (lim (rmod (a + b) c) 0) (lim (rmod (a + b) c) 1) (lim (rmod (a + b) c) 2) (lim (rmod (a + b) c) 3) := ⟨by simp [go_sem, e0], by simp [go_sem, e1], by simp [go_sem, e2], by simp [go_sem, e3], fun j hj => (ho.frozen j).trans (R6.fz j hj)⟩
            have hB9 := hH.trans (ho.below (by omega))
            clear ho hz9
            refine wpAnyH_ready (rs := [14]) (by kernel_rfl) (by simp) ?_
            refine AllReadyH.cons rfl (fun K hK => ?_) AllReadyH.nil
            go_simp
            refine hK.out _ _ hB9 (fun hH => ?_)
            clear hK K e0 e1 e2 e3 ef0 ef1 ef2 ef3 hB9
            generalize ((((Wx39.setCell ⟨Wq0.heap.size, 0, none⟩ (.int .u64 (lim (rmod (a + b) c) 0))).setCell ⟨Wq0.heap.size, 1, none⟩ (.int .u64 (lim (rmod (a + b) c) 1))).setCell ⟨Wq0.heap.size, 2, none⟩ (.int .u64 (lim (rmod (a + b) c) 2))).setCell ⟨Wq0.heap.size, 3, none⟩ (.int .u64 (lim (rmod (a + b) c) 3))) = Wy39 at hH R5 R6 ⊢
            refine wpAnyH_done (by kernel_rfl) ?_ _
            obtain ⟨e0, e1, e2, e3, -⟩ := R6
            obtain ⟨x0, x1, x2, x3, x4, x5, x6, x7⟩ := C2.below hH z4
            clear R5
            go_wp2
            simp [bodyPost, results, Try.results34, go_sem, x0, x1, x2, x3]
            exact set4_below (hB.trans (hH.mono hB.size)) (by omega) _
        · go_simp
          have hbn := below1 Wq36 (.cells #[.int .u64 0, .int .u64 0, .int .u64 0, .int .u64 0, .int .u64 0, .int .u64 0, .int .u64 0, .int .u64 0] 56)
          refine hK.out _ _ (below_over0 hH hbn) (fun hH => ?_)
          replace R6 := R6.below hbn (by omega)
          have R5 := row8_new Wq36 0 0 0 0 0 0 0 0
          have hz40 : Wq36.heap.size + 1 ≤ (Wq36.alloc (.cells #[.int .u64 0, .int .u64 0, .int .u64 0, .int .u64 0, .int .u64 0, .int .u64 0, .int .u64 0, .int .u64 0] 56)).heap.size := by simp
          clear hbn hK K
          generalize Wq36.alloc (.cells #[.int .u64 0, .int .u64 0, .int .u64 0, .int .u64 0, .int .u64 0, .int .u64 0, .int .u64 0, .int .u64 0] 56) = Wn40 at hH hz40 R5 R6 ⊢
          have hw40 := hH.size
          refine wpAnyH_ready (rs := [7]) (by kernel_rfl) (by simp) ?_
          refine (AllReadyH.cons rfl (fun K hK => ?_) AllReadyH.nil)
          · go_simp
            refine (HDV.out _).mono ?_
            rintro e Wq41 ⟨rfl, hbn⟩
            go_wp2_with fail
            refine hK.out _ _ (below_over0 hH hbn) (fun hH => ?_)
            replace R5 := R5.below hbn (by omega)
            replace R6 := R6.below hbn (by omega)
            have hz41 := hbn.size
            clear hbn hK K
            refine take_d (i := 8) (d := some 9) (v := .tuple #[.agg #[.int .u64 (lim ((a + b) / c) 0), .int .u64 (lim ((a + b) / c) 1), .int .u64 (lim ((a + b) / c) 2), .int .u64 (lim ((a + b) / c) 3), .int .u64 (lim ((a + b) / c) 4), .int .u64 (lim ((a + b) / c) 5), .int .u64 (lim ((a + b) / c) 6), .int .u64 (lim ((a + b) / c) 7)], .agg #[.int .u64 (lim (rmod (a + b) c) 0), .int .u64 (lim (rmod (a + b) c) 1), .int .u64 (lim (rmod (a + b) c) 2), .int .u64 (lim (rmod (a + b) c) 3)]]) rfl rfl (by kernel_rfl) (by kernel_rfl) (by kernel_rfl) (fun _ _ _ h => h) (Or.inl ⟨by rfl, fun W hW => ?_⟩) hH ?_
            · clear hW hH
              go_simp
            simp only [Act.put, List.setIfInBounds_toArray, List.set_cons_zero, List.set_cons_succ]
            refine take_d (i := 9) (d := some 18) (v := .agg #[.int .u64 (lim ((a + b) / c) 0), .int .u64 (lim ((a + b) / c) 1), .int .u64 (lim ((a + b) / c) 2), .int .u64 (lim ((a + b) / c) 3), .int .u64 (lim ((a + b) / c) 4), .int .u64 (lim ((a + b) / c) 5), .int .u64 (lim ((a + b) / c) 6), .int .u64 (lim ((a + b) / c) 7)]) rfl rfl (by kernel_rfl) (by kernel_rfl) (by kernel_rfl) (fun _ _ _ h => h) (Or.inl ⟨by rfl, fun W hW => ?_⟩) hH ?_
            · clear hW hH
              go_simp
            simp only [Act.put, List.setIfInBounds_toArray, List.set_cons_zero, List.set_cons_succ]
            refine take_d (i := 10) (d := some 19) (v := .agg #[.int .u64 (lim (rmod (a + b) c) 0), .int .u64 (lim (rmod (a + b) c) 1), .int .u64 (lim (rmod (a + b) c) 2), .int .u64 (lim (rmod (a + b) c) 3)]) rfl rfl (by kernel_rfl) (by kernel_rfl) (by kernel_rfl) (fun _ _ _ h => h) (Or.inl ⟨by rfl, fun W hW => ?_⟩) hH ?_
            · clear hW hH
              go_simp
            simp only [Act.put, List.setIfInBounds_toArray, List.set_cons_zero, List.set_cons_succ]
            obtain ⟨e0, e1, e2, e3, e4, e5, e6, e7, ef⟩ := id R5
            have ef0 := ef 0 (by decide); have ef1 := ef 1 (by decide); have ef2 := ef 2 (by decide); have ef3 := ef 3 (by decide); have ef4 := ef 4 (by decide); have ef5 := ef 5 (by decide); have ef6 := ef 6 (by decide); have ef7 := ef 7 (by decide)
            clear ef
            have ho : Only Wq41 ((((((((Wq41.setCell ⟨Wq36.heap.size, 0, none⟩ (.int .u64 (lim ((a + b) / c) 0))).setCell ⟨Wq36.heap.size, 1, none⟩ (.int .u64 (lim ((a + b) / c) 1))).setCell ⟨Wq36.heap.size, 2, none⟩ (.int .u64 (lim ((a + b) / c) 2))).setCell ⟨Wq36.heap.size, 3, none⟩ (.int .u64 (lim ((a + b) / c) 3))).setCell ⟨Wq36.heap.size, 4, none⟩ (.int .u64 (lim ((a + b) / c) 4))).setCell ⟨Wq36.heap.size, 5, none⟩ (.int .u64 (lim ((a + b) / c) 5))).setCell ⟨Wq36.heap.size, 6, none⟩ (.int .u64 (lim ((a + b) / c) 6))).setCell ⟨Wq36.heap.size, 7, none⟩ (.int .u64 (lim ((a + b) / c) 7))) (Wq36.heap.size) 0 8 := ((((((((Only.refl _ _ _ _).setCell _ _ (by omega) (by omega)).setCell _ _ (by omega) (by omega)).setCell _ _ (by omega) (by omega)).setCell _ _ (by omega) (by omega)).setCell _ _ (by omega) (by omega)).setCell _ _ (by omega) (by omega)).setCell _ _ (by omega) (by omega)).setCell _ _ (by omega) (by omega)
            replace R5 := ((((((((R5.put0 (lim ((a + b) / c) 0)).put1 (lim ((a + b) / c) 1)).put2 (lim ((a + b) / c) 2)).put3 (lim ((a + b) / c) 3)).put4 (lim ((a + b) / c) 4)).put5 (lim ((a + b) / c) 5)).put6 (lim ((a + b) / c) 6)).put7 (lim ((a + b) / c) 7))
            replace R6 := R6.only ho (by omega)
            have hB9 := hH.trans (ho.below (by omega))
            have hz9 := Nat.le_of_eq ho.size.symm
            clear ho
            refine wpAnyH_ready (rs := [13]) (by kernel_rfl) (by simp) ?_
            refine AllReadyH.cons rfl (fun K hK => ?_) AllReadyH.nil
            go_simp
            refine hK.out _ _ hB9 (fun hH => ?_)
            clear hK K e0 e1 e2 e3 e4 e5 e6 e7 ef0 ef1 ef2 ef3 ef4 ef5 ef6 ef7 hB9
            generalize ((((((((Wq41.setCell ⟨Wq36.heap.size, 0, none⟩ (.int .u64 (lim ((a + b) / c) 0))).setCell ⟨Wq36.heap.size, 1, none⟩ (.int .u64 (lim ((a + b) / c) 1))).setCell ⟨Wq36.heap.size, 2, none⟩ (.int .u64 (lim ((a + b) / c) 2))).setCell ⟨Wq36.heap.size, 3, none⟩ (.int .u64 (lim ((a + b) / c) 3))).setCell ⟨Wq36.heap.size, 4, none⟩ (.int .u64 (lim ((a + b) / c) 4))).setCell ⟨Wq36.heap.size, 5, none⟩ (.int .u64 (lim ((a + b) / c) 5))).setCell ⟨Wq36.heap.size, 6, none⟩ (.int .u64 (lim ((a + b) / c) 6))).setCell ⟨Wq36.heap.size, 7, none⟩ (.int .u64 (lim ((a + b) / c) 7))) = Wx42 at hH R5 R6 hz9 ⊢
            obtain ⟨e0, e1, e2, e3, ef⟩ := id R6
            have ef0 := ef 0 (by decide); have ef1 := ef 1 (by decide); have ef2 := ef 2 (by decide); have ef3 := ef 3 (by decide)
            clear ef
            have ho : Only Wx42 ((((Wx42.setCell ⟨Wq0.heap.size, 0, none⟩ (.int .u64 (lim (rmod (a + b) c) 0))).setCell ⟨Wq0.heap.size, 1, none⟩ (.int .u64 (lim (rmod (a + b) c) 1))).setCell ⟨Wq0.heap.size, 2, none⟩ (.int .u64 (lim (rmod (a + b) c) 2))).setCell ⟨Wq0.heap.size, 3, none⟩ (.int .u64 (lim (rmod (a + b) c) 3))) (Wq0.heap.size) 0 4 := ((((Only.refl _ _ _ _).setCell _ _ (by omega) (by omega)).setCell _ _ (by omega) (by omega)).setCell _ _ (by omega) (by omega)).setCell _ _ (by omega) (by omega)
            replace R5 := R5.only ho (by omega)
            replace R6 : Row4 ((((Wx42.setCell ⟨Wq0.heap.size, 0, none⟩ (.int .u64 (lim (rmod (a + b) c) 0))).setCell ⟨Wq0.heap.size, 1, none⟩ (.int .u64 (lim (rmod (a + b) c) 1))).setCell ⟨Wq0.heap.size, 2, none⟩ (.int .u64 (lim (rmod (a + b) c) 2))).setCell ⟨Wq0.heap.size, 3, none⟩ (.int .u64 (lim (rmod (a + b) c) 3))) (Wq0.heap.size) (lim (rmod (a + b) c) 0) (lim (rmod (a + b) c) 1) (lim (rmod (a + b) c) 2) (lim (rmod (a + b) c) 3) := ⟨by simp [go_sem, e0], by simp [go_sem, e1], by simp [go_sem, e2], by simp [go_sem, e3], fun j hj => (ho.frozen j).trans (R6.fz j hj)⟩
            have hB9 := hH.trans (ho.below (by omega))
            clear ho hz9
            refine wpAnyH_ready (rs := [14]) (by kernel_rfl) (by simp) ?_
            refine AllReadyH.cons rfl (fun K hK => ?_) AllReadyH.nil
            go_simp
            refine hK.out _ _ hB9 (fun hH => ?_)
            clear hK K e0 e1 e2 e3 ef0 ef1 ef2 ef3 hB9
            generalize ((((Wx42.setCell ⟨Wq0.heap.size, 0, none⟩ (.int .u64 (lim (rmod (a + b) c) 0))).setCell ⟨Wq0.heap.size, 1, none⟩ (.int .u64 (lim (rmod (a + b) c) 1))).setCell ⟨Wq0.heap.size, 2, none⟩ (.int .u64 (lim (rmod (a + b) c) 2))).setCell ⟨Wq0.heap.size, 3, none⟩ (.int .u64 (lim (rmod (a + b) c) 3))) = Wy42 at hH R5 R6 ⊢
            refine wpAnyH_done (by kernel_rfl) ?_ _
            obtain ⟨e0, e1, e2, e3, -⟩ := R6
            obtain ⟨x0, x1, x2, x3, x4, x5, x6, x7⟩ := C2.below hH z4
            clear R5
            go_wp2
            simp [bodyPost, results, Try.results34, go_sem, x0, x1, x2, x3]
            exact set4_below (hB.trans (hH.mono hB.size)) (by omega) _
      · go_simp
        have hbn := below1 Wn35 (.cells #[.int .u64 0, .int .u64 0, .int .u64 0, .int .u64 0, .int .u64 0, .int .u64 0, .int .u64 0, .int .u64 0] 56)
        refine hK.out _ _ (below_over0 hH hbn) (fun hH => ?_)
        replace R6 := R6.below hbn (by omega)
        have R5 := row8_new Wn35 0 0 0 0 0 0 0 0
        have hz43 : Wn35.heap.size + 1 ≤ (Wn35.alloc (.cells #[.int .u64 0, .int .u64 0, .int .u64 0, .int .u64 0, .int .u64 0, .int .u64 0, .int .u64 0, .int .u64 0] 56)).heap.size := by simp
        clear hbn hK K
        generalize Wn35.alloc (.cells #[.int .u64 0, .int .u64 0, .int .u64 0, .int .u64 0, .int .u64 0, .int .u64 0, .int .u64 0, .int .u64 0] 56) = Wn43 at hH hz43 R5 R6 ⊢
        have hw43 := hH.size
        refine wpAnyH_ready (rs := [5]) (by kernel_rfl) (by simp) ?_
        refine (AllReadyH.cons rfl (fun K hK => ?_) AllReadyH.nil)
        · go_simp
          refine (HWI.out _).mono ?_
          rintro e Wq44 ⟨rfl, hbn⟩
          go_wp2_with fail
          refine hK.out _ _ (below_over0 hH hbn) (fun hH => ?_)
          replace R5 := R5.below hbn (by omega)
          replace R6 := R6.below hbn (by omega)
          have hz44 := hbn.size
          clear hbn hK K
          refine wpAnyH_ready (rs := [7]) (by kernel_rfl) (by simp) ?_
          refine (AllReadyH.cons rfl (fun K hK => ?_) AllReadyH.nil)
          · go_simp
            refine (HDV.out _).mono ?_
            rintro e Wq45 ⟨rfl, hbn⟩
            go_wp2_with fail
            refine hK.out _ _ (below_over0 hH hbn) (fun hH => ?_)
            replace R5 := R5.below hbn (by omega)
            replace R6 := R6.below hbn (by omega)
            have hz45 := hbn.size
            clear hbn hK K
            refine take_d (i := 8) (d := some 9) (v := .tuple #[.agg #[.int .u64 (lim ((a + b) / c) 0), .int .u64 (lim ((a + b) / c) 1), .int .u64 (lim ((a + b) / c) 2), .int .u64 (lim ((a + b) / c) 3), .int .u64 (lim ((a + b) / c) 4), .int .u64 (lim ((a + b) / c) 5), .int .u64 (lim ((a + b) / c) 6), .int .u64 (lim ((a + b) / c) 7)], .agg #[.int .u64 (lim (rmod (a + b) c) 0), .int .u64 (lim (rmod (a + b) c) 1), .int .u64 (lim (rmod (a + b) c) 2), .int .u64 (lim (rmod (a + b) c) 3)]]) rfl rfl (by kernel_rfl) (by kernel_rfl) (by kernel_rfl) (fun _ _ _ h => h) (Or.inl ⟨by rfl, fun W hW => ?_⟩) hH ?_
            · clear hW hH
              go_simp
            simp only [Act.put, List.setIfInBounds_toArray, List.set_cons_zero, List.set_cons_succ]
            refine take_d (i := 9) (d := some 18) (v := .agg #[.int .u64 (lim ((a + b) / c) 0), .int .u64 (lim ((a + b) / c) 1), .int .u64 (lim ((a + b) / c) 2), .int .u64 (lim ((a + b) / c) 3), .int .u64 (lim ((a + b) / c) 4), .int .u64 (lim ((a + b) / c) 5), .int .u64 (lim ((a + b) / c) 6), .int .u64 (lim ((a + b) / c) 7)]) rfl rfl (by kernel_rfl) (by kernel_rfl) (by kernel_rfl) (fun _ _ _ h => h) (Or.inl ⟨by rfl, fun W hW => ?_⟩) hH ?_
            · clear hW hH
              go_simp
            simp only [Act.put, List.setIfInBounds_toArray, List.set_cons_zero, List.set_cons_succ]
            refine take_d (i := 10) (d := some 19) (v := .agg #[.int .u64 (lim (rmod (a + b) c) 0), .int .u64 (lim (rmod (a + b) c) 1), .int .u64 (lim (rmod (a + b) c) 2), .int .u64 (lim (rmod (a + b) c) 3)]) rfl rfl (by kernel_rfl) (by kernel_rfl) (by kernel_rfl) (fun _ _ _ h => h) (Or.inl ⟨by rfl, fun W hW => ?_⟩) hH ?_
            · clear hW hH
              go_simp
            simp only [Act.put, List.setIfInBounds_toArray, List.set_cons_zero, List.set_cons_succ]
            obtain ⟨e0, e1, e2, e3, e4, e5, e6, e7, ef⟩ := id R5
            have ef0 := ef 0 (by decide); have ef1 := ef 1 (by decide); have ef2 := ef 2 (by decide); have ef3 := ef 3 (by decide); have ef4 := ef 4 (by decide); have ef5 := ef 5 (by decide); have ef6 := ef 6 (by decide); have ef7 := ef 7 (by decide)
            clear ef
            have ho : Only Wq45 ((((((((Wq45.setCell ⟨Wn35.heap.size, 0, none⟩ (.int .u64 (lim ((a + b) / c) 0))).setCell ⟨Wn35.heap.size, 1, none⟩ (.int .u64 (lim ((a + b) / c) 1))).setCell ⟨Wn35.heap.size, 2, none⟩ (.int .u64 (lim ((a + b) / c) 2))).setCell ⟨Wn35.heap.size, 3, none⟩ (.int .u64 (lim ((a + b) / c) 3))).setCell ⟨Wn35.heap.size, 4, none⟩ (.int .u64 (lim ((a + b) / c) 4))).setCell ⟨Wn35.heap.size, 5, none⟩ (.int .u64 (lim ((a + b) / c) 5))).setCell ⟨Wn35.heap.size, 6, none⟩ (.int .u64 (lim ((a + b) / c) 6))).setCell ⟨Wn35.heap.size, 7, none⟩ (.int .u64 (lim ((a + b) / c) 7))) (Wn35.heap.size) 0 8 := ((((((((Only.refl _ _ _ _).setCell _ _ (by omega) (by omega)).setCell _ _ (by omega) (by omega)).setCell _ _ (by omega) (by omega)).setCell _ _ (by omega) (by omega)).setCell _ _ (by omega) (by omega)).setCell _ _ (by omega) (by omega)).setCell _ _ (by omega) (by omega)).setCell _ _ (by omega) (by omega)
            replace R5 := ((((((((R5.put0 (lim ((a + b) / c) 0)).put1 (lim ((a + b) / c) 1)).put2 (lim ((a + b) / c) 2)).put3 (lim ((a + b) / c) 3)).put4 (lim ((a + b) / c) 4)).put5 (lim ((a + b) / c) 5)).put6 (lim ((a + b) / c) 6)).put7 (lim ((a + b) / c) 7))
            replace R6 := R6.only ho (by omega)
            have hB9 := hH.trans (ho.below (by omega))
            have hz9 := Nat.le_of_eq ho.size.symm
            clear ho
            refine wpAnyH_ready (rs := [13]) (by kernel_rfl) (by simp) ?_
            refine AllReadyH.cons rfl (fun K hK => ?_) AllReadyH.nil
            go_simp
            refine hK.out _ _ hB9 (fun hH => ?_)
            clear hK K e0 e1 e2 e3 e4 e5 e6 e7 ef0 ef1 ef2 ef3 ef4 ef5 ef6 ef7 hB9
            generalize ((((((((Wq45.setCell ⟨Wn35.heap.size, 0, none⟩ (.int .u64 (lim ((a + b) / c) 0))).setCell ⟨Wn35.heap.size, 1, none⟩ (.int .u64 (lim ((a + b) / c) 1))).setCell ⟨Wn35.heap.size, 2, none⟩ (.int .u64 (lim ((a + b) / c) 2))).setCell ⟨Wn35.heap.size, 3, none⟩ (.int .u64 (lim ((a + b) / c) 3))).setCell ⟨Wn35.heap.size, 4, none⟩ (.int .u64 (lim ((a + b) / c) 4))).setCell ⟨Wn35.heap.size, 5, none⟩ (.int .u64 (lim ((a + b) / c) 5))).setCell ⟨Wn35.heap.size, 6, none⟩ (.int .u64 (lim ((a + b) / c) 6))).setCell ⟨Wn35.heap.size, 7, none⟩ (.int .u64 (lim ((a + b) / c) 7))) = Wx46 at hH R5 R6 hz9 ⊢
            obtain ⟨e0, e1, e2, e3, ef⟩ := id R6
            have ef0 := ef 0 (by decide); have ef1 := ef 1 (by decide); have ef2 := ef 2 (by decide); have ef3 := ef 3 (by decide)
            clear ef
            have ho : Only Wx46 ((((Wx46.setCell ⟨Wq0.heap.size, 0, none⟩ (.int .u64 (lim (rmod (a + b) c) 0))).setCell ⟨Wq0.heap.size, 1, none⟩ (.int .u64 (lim (rmod (a + b) c) 1))).setCell ⟨Wq0.heap.size, 2, none⟩ (.int .u64 (lim (rmod (a + b) c) 2))).setCell ⟨Wq0.heap.size, 3, none⟩ (.int .u64 (lim (rmod (a + b) c) 3))) (Wq0.heap.size) 0 4 := ((((Only.refl _ _ _ _).setCell _ _ (by omega) (by omega)).setCell _ _ (by omega) (by omega)).setCell _ _ (by omega) (by omega)).setCell _ _ (by omega) (by omega)
            replace R5 := R5.only ho (by omega)
            replace R6 : Row4 ((((Wx46.setCell ⟨Wq0.heap.size, 0, none⟩ (.int .u64 (lim (rmod (a + b) c) 0))).setCell ⟨Wq0.heap.size, 1, none⟩ (.int .u64 (lim (rmod (a + b) c) 1))).setCell ⟨Wq0.heap.size, 2, none⟩ (.int .u64 (lim (rmod (a + b) c) 2))).setCell ⟨Wq0.heap.size, 3, none⟩ (.int .u64 (lim (rmod (a + b) c) 3))) (Wq0.heap.size) (lim (rmod (a + b) c) 0) (lim (rmod (a + b) c) 1) (lim (rmod (a + b) c) 2) (lim (rmod (a + b) c) 3) := ⟨by simp [go_sem, e0], by simp [go_sem, e1], by simp [go_sem, e2], by simp [go_sem, e3], fun j hj => (ho.frozen j).trans (R6.fz j hj)⟩
            have hB9 := hH.trans (ho.below (by omega))
            clear ho hz9
            refine wpAnyH_ready (rs := [14]) (by kernel_rfl) (by simp) ?_
            refine AllReadyH.cons rfl (fun K hK => ?_) AllReadyH.nil
            go_simp
            refine hK.out _ _ hB9 (fun hH => ?_)
            clear hK K e0 e1 e2 e3 ef0 ef1 ef2 ef3 hB9
            generalize ((((Wx46.setCell ⟨Wq0.heap.size, 0, none⟩ (.int .u64 (lim (rmod (a + b) c) 0))).setCell ⟨Wq0.heap.size, 1, none⟩ (.int .u64 (lim (rmod (a + b) c) 1))).setCell ⟨Wq0.heap.size, 2, none⟩ (.int .u64 (lim (rmod (a + b) c) 2))).setCell ⟨Wq0.heap.size, 3, none⟩ (.int .u64 (lim (rmod (a + b) c) 3))) = Wy46 at hH R5 R6 ⊢
            refine wpAnyH_done (by kernel_rfl) ?_ _
            obtain ⟨e0, e1, e2, e3, -⟩ := R6
            obtain ⟨x0, x1, x2, x3, x4, x5, x6, x7⟩ := C2.below hH z4
            clear R5
            go_wp2
            simp [bodyPost, results, Try.results34, go_sem, x0, x1, x2, x3]
            exact set4_below (hB.trans (hH.mono hB.size)) (by omega) _
  · go_simp
    have hbn := below1 Wa (.cells #[.int .u64 0, .int .u64 0, .int .u64 0, .int .u64 0, .int .u64 0, .int .u64 0, .int .u64 0, .int .u64 0] 56)
    refine hK.out _ _ (below_over0 hH hbn) (fun hH => ?_)
    have R5 := row8_new Wa 0 0 0 0 0 0 0 0
    have hz47 : Wa.heap.size + 1 ≤ (Wa.alloc (.cells #[.int .u64 0, .int .u64 0, .int .u64 0, .int .u64 0, .int .u64 0, .int .u64 0, .int .u64 0, .int .u64 0] 56)).heap.size := by simp
    clear hbn hK K
    generalize Wa.alloc (.cells #[.int .u64 0, .int .u64 0, .int .u64 0, .int .u64 0, .int .u64 0, .int .u64 0, .int .u64 0, .int .u64 0] 56) = Wn47 at hH hz47 R5 ⊢
    have hw47 := hH.size
    refine wpAnyH_ready (rs := [2, 12]) (by kernel_rfl) (by simp) ?_
    refine (AllReadyH.cons rfl (fun K hK => ?_) (AllReadyH.cons rfl (fun K hK => ?_) AllReadyH.nil))
    · go_simp
      refine (HSU.out _).mono ?_
      rintro e Wq48 ⟨rfl, hbn⟩
      go_wp2_with fail
      refine hK.out _ _ (below_over0 hH hbn) (fun hH => ?_)
      replace R5 := R5.below hbn (by omega)
      have hz48 := hbn.size
      clear hbn hK K
      refine take_d (i := 3) (d := some 13) (v := .agg #[.int .u64 (lim ((a + b) % M) 0), .int .u64 (lim ((a + b) % M) 1), .int .u64 (lim ((a + b) % M) 2), .int .u64 (lim ((a + b) % M) 3)]) rfl rfl (by kernel_rfl) (by kernel_rfl) (by kernel_rfl) (fun _ _ _ h => h) (Or.inl ⟨by rfl, fun W hW => ?_⟩) hH ?_
      · clear hW hH
        go_simp
      simp only [Act.put, List.setIfInBounds_toArray, List.set_cons_zero, List.set_cons_succ]
      refine take_d (i := 4) (d := some 14) (v := .int .u64 (((a + b) / M : Nat) : Int)) rfl rfl (by kernel_rfl) (by kernel_rfl) (by kernel_rfl) (fun _ _ _ h => h) (Or.inl ⟨by rfl, fun W hW => ?_⟩) hH ?_
      · clear hW hH
        go_simp
      simp only [Act.put, List.setIfInBounds_toArray, List.set_cons_zero, List.set_cons_succ]
      refine wpAnyH_ready (rs := [5, 12]) (by kernel_rfl) (by simp) ?_
      refine (AllReadyH.cons rfl (fun K hK => ?_) (AllReadyH.cons rfl (fun K hK => ?_) AllReadyH.nil))
      · go_simp
        refine (HWI.out _).mono ?_
        rintro e Wq49 ⟨rfl, hbn⟩
        go_wp2_with fail
        refine hK.out _ _ (below_over0 hH hbn) (fun hH => ?_)
        replace R5 := R5.below hbn (by omega)
        have hz49 := hbn.size
        clear hbn hK K
        refine wpAnyH_ready (rs := [7, 12]) (by kernel_rfl) (by simp) ?_
        refine (AllReadyH.cons rfl (fun K hK => ?_) (AllReadyH.cons rfl (fun K hK => ?_) AllReadyH.nil))
        · go_simp
          refine (HDV.out _).mono ?_
          rintro e Wq50 ⟨rfl, hbn⟩
          go_wp2_with fail
          refine hK.out _ _ (below_over0 hH hbn) (fun hH => ?_)
          replace R5 := R5.below hbn (by omega)
          have hz50 := hbn.size
          clear hbn hK K
          refine take_d (i := 8) (d := some 9) (v := .tuple #[.agg #[.int .u64 (lim ((a + b) / c) 0), .int .u64 (lim ((a + b) / c) 1), .int .u64 (lim ((a + b) / c) 2), .int .u64 (lim ((a + b) / c) 3), .int .u64 (lim ((a + b) / c) 4), .int .u64 (lim ((a + b) / c) 5), .int .u64 (lim ((a + b) / c) 6), .int .u64 (lim ((a + b) / c) 7)], .agg #[.int .u64 (lim (rmod (a + b) c) 0), .int .u64 (lim (rmod (a + b) c) 1), .int .u64 (lim (rmod (a + b) c) 2), .int .u64 (lim (rmod (a + b) c) 3)]]) rfl rfl (by kernel_rfl) (by kernel_rfl) (by kernel_rfl) (fun _ _ _ h => h) (Or.inl ⟨by rfl, fun W hW => ?_⟩) hH ?_
          · clear hW hH
            go_simp
          simp only [Act.put, List.setIfInBounds_toArray, List.set_cons_zero, List.set_cons_succ]
          refine take_d (i := 9) (d := some 18) (v := .agg #[.int .u64 (lim ((a + b) / c) 0), .int .u64 (lim ((a + b) / c) 1), .int .u64 (lim ((a + b) / c) 2), .int .u64 (lim ((a + b) / c) 3), .int .u64 (lim ((a + b) / c) 4), .int .u64 (lim ((a + b) / c) 5), .int .u64 (lim ((a + b) / c) 6), .int .u64 (lim ((a + b) / c) 7)]) rfl rfl (by kernel_rfl) (by kernel_rfl) (by kernel_rfl) (fun _ _ _ h => h) (Or.inl ⟨by rfl, fun W hW => ?_⟩) hH ?_
          · clear hW hH
            go_simp
          simp only [Act.put, List.setIfInBounds_toArray, List.set_cons_zero, List.set_cons_succ]
          refine take_d (i := 10) (d := some 19) (v := .agg #[.int .u64 (lim (rmod (a + b) c) 0), .int .u64 (lim (rmod (a + b) c) 1), .int .u64 (lim (rmod (a + b) c) 2), .int .u64 (lim (rmod (a + b) c) 3)]) rfl rfl (by kernel_rfl) (by kernel_rfl) (by kernel_rfl) (fun _ _ _ h => h) (Or.inl ⟨by rfl, fun W hW => ?_⟩) hH ?_
          · clear hW hH
            go_simp
          simp only [Act.put, List.setIfInBounds_toArray, List.set_cons_zero, List.set_cons_succ]
          refine wpAnyH_ready (rs := [12]) (by kernel_rfl) (by simp) ?_
          refine (AllReadyH.cons rfl (fun K hK => ?_) AllReadyH.nil)
          · go_simp
            have hbn := below1 Wq50 (.cells #[.int .u64 0, .int .u64 0, .int .u64 0, .int .u64 0] 24)
            refine hK.out _ _ (below_over0 hH hbn) (fun hH => ?_)
            replace R5 := R5.below hbn (by omega)
            have R6 := row4_new Wq50 0 0 0 0
            have hz51 : Wq50.heap.size + 1 ≤ (Wq50.alloc (.cells #[.int .u64 0, .int .u64 0, .int .u64 0, .int .u64 0] 24)).heap.size := by simp
            clear hbn hK K
            generalize Wq50.alloc (.cells #[.int .u64 0, .int .u64 0, .int .u64 0, .int .u64 0] 24) = Wn51 at hH hz51 R5 R6 ⊢
            have hw51 := hH.size
            obtain ⟨e0, e1, e2, e3, e4, e5, e6, e7, ef⟩ := id R5
            have ef0 := ef 0 (by decide); have ef1 := ef 1 (by decide); have ef2 := ef 2 (by decide); have ef3 := ef 3 (by decide); have ef4 := ef 4 (by decide); have ef5 := ef 5 (by decide); have ef6 := ef 6 (by decide); have ef7 := ef 7 (by decide)
            clear ef
            have ho : Only Wn51 ((((((((Wn51.setCell ⟨Wa.heap.size, 0, none⟩ (.int .u64 (lim ((a + b) / c) 0))).setCell ⟨Wa.heap.size, 1, none⟩ (.int .u64 (lim ((a + b) / c) 1))).setCell ⟨Wa.heap.size, 2, none⟩ (.int .u64 (lim ((a + b) / c) 2))).setCell ⟨Wa.heap.size, 3, none⟩ (.int .u64 (lim ((a + b) / c) 3))).setCell ⟨Wa.heap.size, 4, none⟩ (.int .u64 (lim ((a + b) / c) 4))).setCell ⟨Wa.heap.size, 5, none⟩ (.int .u64 (lim ((a + b) / c) 5))).setCell ⟨Wa.heap.size, 6, none⟩ (.int .u64 (lim ((a + b) / c) 6))).setCell ⟨Wa.heap.size, 7, none⟩ (.int .u64 (lim ((a + b) / c) 7))) (Wa.heap.size) 0 8 := ((((((((Only.refl _ _ _ _).setCell _ _ (by omega) (by omega)).setCell _ _ (by omega) (by omega)).setCell _ _ (by omega) (by omega)).setCell _ _ (by omega) (by omega)).setCell _ _ (by omega) (by omega)).setCell _ _ (by omega) (by omega)).setCell _ _ (by omega) (by omega)).setCell _ _ (by omega) (by omega)
            replace R5 := ((((((((R5.put0 (lim ((a + b) / c) 0)).put1 (lim ((a + b) / c) 1)).put2 (lim ((a + b) / c) 2)).put3 (lim ((a + b) / c) 3)).put4 (lim ((a + b) / c) 4)).put5 (lim ((a + b) / c) 5)).put6 (lim ((a + b) / c) 6)).put7 (lim ((a + b) / c) 7))
            replace R6 := R6.only ho (by omega)
            have hB9 := hH.trans (ho.below (by omega))
            have hz9 := Nat.le_of_eq ho.size.symm
            clear ho
            refine wpAnyH_ready (rs := [13]) (by kernel_rfl) (by simp) ?_
            refine AllReadyH.cons rfl (fun K hK => ?_) AllReadyH.nil
            go_simp
            refine hK.out _ _ hB9 (fun hH => ?_)
            clear hK K e0 e1 e2 e3 e4 e5 e6 e7 ef0 ef1 ef2 ef3 ef4 ef5 ef6 ef7 hB9
            generalize ((((((((Wn51.setCell ⟨Wa.heap.size, 0, none⟩ (.int .u64 (lim ((a + b) / c) 0))).setCell ⟨Wa.heap.size, 1, none⟩ (.int .u64 (lim ((a + b) / c) 1))).setCell ⟨Wa.heap.size, 2, none⟩ (.int .u64 (lim ((a + b) / c) 2))).setCell ⟨Wa.heap.size, 3, none⟩ (.int .u64 (lim ((a + b) / c) 3))).setCell ⟨Wa.heap.size, 4, none⟩ (.int .u64 (lim ((a + b) / c) 4))).setCell ⟨Wa.heap.size, 5, none⟩ (.int .u64 (lim ((a + b) / c) 5))).setCell ⟨Wa.heap.size, 6, none⟩ (.int .u64 (lim ((a + b) / c) 6))).setCell ⟨Wa.heap.size, 7, none⟩ (.int .u64 (lim ((a + b) / c) 7))) = Wx52 at hH R5 R6 hz9 ⊢
            obtain ⟨e0, e1, e2, e3, ef⟩ := id R6
            have ef0 := ef 0 (by decide); have ef1 := ef 1 (by decide); have ef2 := ef 2 (by decide); have ef3 := ef 3 (by decide)
            clear ef
            have ho : Only Wx52 ((((Wx52.setCell ⟨Wq50.heap.size, 0, none⟩ (.int .u64 (lim (rmod (a + b) c) 0))).setCell ⟨Wq50.heap.size, 1, none⟩ (.int .u64 (lim (rmod (a + b) c) 1))).setCell ⟨Wq50.heap.size, 2, none⟩ (.int .u64 (lim (rmod (a + b) c) 2))).setCell ⟨Wq50.heap.size, 3, none⟩ (.int .u64 (lim (rmod (a + b) c) 3))) (Wq50.heap.size) 0 4 := ((((Only.refl _ _ _ _).setCell _ _ (by omega) (by omega)).setCell _ _ (by omega) (by omega)).setCell _ _ (by omega) (by omega)).setCell _ _ (by omega) (by omega)
            replace R5 := R5.only ho (by omega)
            replace R6 : Row4 ((((Wx52.setCell ⟨Wq50.heap.size, 0, none⟩ (.int .u64 (lim (rmod (a + b) c) 0))).setCell ⟨Wq50.heap.size, 1, none⟩ (.int .u64 (lim (rmod (a + b) c) 1))).setCell ⟨Wq50.heap.size, 2, none⟩ (.int .u64 (lim (rmod (a + b) c) 2))).setCell ⟨Wq50.heap.size, 3, none⟩ (.int .u64 (lim (rmod (a + b) c) 3))) (Wq50.heap.size) (lim (rmod (a + b) c) 0) (lim (rmod (a + b) c) 1) (lim (rmod (a + b) c) 2) (lim (rmod (a + b) c) 3) := ⟨by simp [go_sem, e0], by simp [go_sem, e1], by simp [go_sem, e2], by simp [go_sem, e3], fun j hj => (ho.frozen j).trans (R6.fz j hj)⟩
            have hB9 := hH.trans (ho.below (by omega))
            clear ho hz9
            refine wpAnyH_ready (rs := [14]) (by kernel_rfl) (by simp) ?_
            refine AllReadyH.cons rfl (fun K hK => ?_) AllReadyH.nil
            go_simp
            refine hK.out _ _ hB9 (fun hH => ?_)
            clear hK K e0 e1 e2 e3 ef0 ef1 ef2 ef3 hB9
            generalize ((((Wx52.setCell ⟨Wq50.heap.size, 0, none⟩ (.int .u64 (lim (rmod (a + b) c) 0))).setCell ⟨Wq50.heap.size, 1, none⟩ (.int .u64 (lim (rmod (a + b) c) 1))).setCell ⟨Wq50.heap.size, 2, none⟩ (.int .u64 (lim (rmod (a + b) c) 2))).setCell ⟨Wq50.heap.size, 3, none⟩ (.int .u64 (lim (rmod (a + b) c) 3))) = Wy52 at hH R5 R6 ⊢
            refine wpAnyH_done (by kernel_rfl) ?_ _
            obtain ⟨e0, e1, e2, e3, -⟩ := R6
            obtain ⟨x0, x1, x2, x3, x4, x5, x6, x7⟩ := C2.below hH z4
            clear R5
            go_wp2
            simp [bodyPost, results, Try.results34, go_sem, x0, x1, x2, x3]
            exact set4_below (hB.trans (hH.mono hB.size)) (by omega) _
        · go_simp
          have hbn := below1 Wq49 (.cells #[.int .u64 0, .int .u64 0, .int .u64 0, .int .u64 0] 24)
          refine hK.out _ _ (below_over0 hH hbn) (fun hH => ?_)
          replace R5 := R5.below hbn (by omega)
          have R6 := row4_new Wq49 0 0 0 0
          have hz53 : Wq49.heap.size + 1 ≤ (Wq49.alloc (.cells #[.int .u64 0, .int .u64 0, .int .u64 0, .int .u64 0] 24)).heap.size := by simp
          clear hbn hK K
          generalize Wq49.alloc (.cells #[.int .u64 0, .int .u64 0, .int .u64 0, .int .u64 0] 24) = Wn53 at hH hz53 R5 R6 ⊢
          have hw53 := hH.size
          refine wpAnyH_ready (rs := [7]) (by kernel_rfl) (by simp) ?_
          refine (AllReadyH.cons rfl (fun K hK => ?_) AllReadyH.nil)
          · go_simp
            refine (HDV.out _).mono ?_
            rintro e Wq54 ⟨rfl, hbn⟩
            go_wp2_with fail
            refine hK.out _ _ (below_over0 hH hbn) (fun hH => ?_)
            replace R5 := R5.below hbn (by omega)
            replace R6 := R6.below hbn (by omega)
            have hz54 := hbn.size
            clear hbn hK K
            refine take_d (i := 8) (d := some 9) (v := .tuple #[.agg #[.int .u64 (lim ((a + b) / c) 0), .int .u64 (lim ((a + b) / c) 1), .int .u64 (lim ((a + b) / c) 2), .int .u64 (lim ((a + b) / c) 3), .int .u64 (lim ((a + b) / c) 4), .int .u64 (lim ((a + b) / c) 5), .int .u64 (lim ((a + b) / c) 6), .int .u64 (lim ((a + b) / c) 7)], .agg #[.int .u64 (lim (rmod (a + b) c) 0), .int .u64 (lim (rmod (a + b) c) 1), .int .u64 (lim (rmod (a + b) c) 2), .int .u64 (lim (rmod (a + b) c) 3)]]) rfl rfl (by kernel_rfl) (by kernel_rfl) (by kernel_rfl) (fun _ _ _ h => h) (Or.inl ⟨by rfl, fun W hW => ?_⟩) hH ?_
            · clear hW hH
              go_simp
            simp only [Act.put, List.setIfInBounds_toArray, List.set_cons_zero, List.set_cons_succ]
            refine take_d (i := 9) (d := some 18) (v := .agg #[.int .u64 (lim ((a + b) / c) 0), .int .u64 (lim ((a + b) / c) 1), .int .u64 (lim ((a + b) / c) 2), .int .u64 (lim ((a + b) / c) 3), .int .u64 (lim ((a + b) / c) 4), .int .u64 (lim ((a + b) / c) 5), .int .u64 (lim ((a + b) / c) 6), .int .u64 (lim ((a + b) / c) 7)]) rfl rfl (by kernel_rfl) (by kernel_rfl) (by kernel_rfl) (fun _ _ _ h => h) (Or.inl ⟨by rfl, fun W hW => ?_⟩) hH ?_
            · clear hW hH
              go_simp
            simp only [Act.put, List.setIfInBounds_toArray, List.set_cons_zero, List.set_cons_succ]
            refine take_d (i := 10) (d := some 19) (v := .agg #[.int .u64 (lim (rmod (a + b) c) 0), .int .u64 (lim (rmod (a + b) c) 1), .int .u64 (lim (rmod (a + b) c) 2), .int .u64 (lim (rmod (a + b) c) 3)]) rfl rfl (by kernel_rfl) (by kernel_rfl) (by kernel_rfl) (fun _ _ _ h => h) (Or.inl ⟨by rfl, fun W hW => ?_⟩) hH ?_
            · clear hW hH
              go_simp
            simp only [Act.put, List.setIfInBounds_toArray, List.set_cons_zero, List.set_cons_succ]
            obtain ⟨e0, e1, e2, e3, e4, e5, e6, e7, ef⟩ := id R5
            have ef0 := ef 0 (by decide); have ef1 := ef 1 (by decide); have ef2 := ef 2 (by decide); have ef3 := ef 3 (by decide); have ef4 := ef 4 (by decide); have ef5 := ef 5 (by decide); have ef6 := ef 6 (by decide); have ef7 := ef 7 (by decide)
            clear ef
            have ho : Only Wq54 ((((((((Wq54.setCell ⟨Wa.heap.size, 0, none⟩ (.int .u64 (lim ((a + b) / c) 0))).setCell ⟨Wa.heap.size, 1, none⟩ (.int .u64 (lim ((a + b) / c) 1))).setCell ⟨Wa.heap.size, 2, none⟩ (.int .u64 (lim ((a + b) / c) 2))).setCell ⟨Wa.heap.size, 3, none⟩ (.int .u64 (lim ((a + b) / c) 3))).setCell ⟨Wa.heap.size, 4, none⟩ (.int .u64 (lim ((a + b) / c) 4))).setCell ⟨Wa.heap.size, 5, none⟩ (.int .u64 (lim ((a + b) / c) 5))).setCell ⟨Wa.heap.size, 6, none⟩ (.int .u64 (lim ((a + b) / c) 6))).setCell ⟨Wa.heap.size, 7, none⟩ (.int .u64 (lim ((a + b) / c) 7))) (Wa.heap.size) 0 8 := ((((((((Only.refl _ _ _ _).setCell _ _ (by omega) (by omega)).setCell _ _ (by omega) (by omega)).setCell _ _ (by omega) (by omega)).setCell _ _ (by omega) (by omega)).setCell _ _ (by omega) (by omega)).setCell _ _ (by omega) (by omega)).setCell _ _ (by omega) (by omega)).setCell _ _ (by omega) (by omega)
            replace R5 := ((((((((R5.put0 (lim ((a + b) / c) 0)).put1 (lim ((a + b) / c) 1)).put2 (lim ((a + b) / c) 2)).put3 (lim ((a + b) / c) 3)).put4 (lim ((a + b) / c) 4)).put5 (lim ((a + b) / c) 5)).put6 (lim ((a + b) / c) 6)).put7 (lim ((a + b) / c) 7))
            replace R6 := R6.only ho (by omega)
            have hB9 := hH.trans (ho.below (by omega))
            have hz9 := Nat.le_of_eq ho.size.symm
            clear ho
            refine wpAnyH_ready (rs := [13]) (by kernel_rfl) (by simp) ?_
            refine AllReadyH.cons rfl (fun K hK => ?_) AllReadyH.nil
            go_simp
            refine hK.out _ _ hB9 (fun hH => ?_)
            clear hK K e0 e1 e2 e3 e4 e5 e6 e7 ef0 ef1 ef2 ef3 ef4 ef5 ef6 ef7 hB9
            generalize ((((((((Wq54.setCell ⟨Wa.heap.size, 0, none⟩ (.int .u64 (lim ((a + b) / c) 0))).setCell ⟨Wa.heap.size, 1, none⟩ (.int .u64 (lim ((a + b) / c) 1))).setCell ⟨Wa.heap.size, 2, none⟩ (.int .u64 (lim ((a + b) / c) 2))).setCell ⟨Wa.heap.size, 3, none⟩ (.int .u64 (lim ((a + b) / c) 3))).setCell ⟨Wa.heap.size, 4, none⟩ (.int .u64 (lim ((a + b) / c) 4))).setCell ⟨Wa.heap.size, 5, none⟩ (.int .u64 (lim ((a + b) / c) 5))).setCell ⟨Wa.heap.size, 6, none⟩ (.int .u64 (lim ((a + b) / c) 6))).setCell ⟨Wa.heap.size, 7, none⟩ (.int .u64 (lim ((a + b) / c) 7))) = Wx55 at hH R5 R6 hz9 ⊢
            obtain ⟨e0, e1, e2, e3, ef⟩ := id R6
            have ef0 := ef 0 (by decide); have ef1 := ef 1 (by decide); have ef2 := ef 2 (by decide); have ef3 := ef 3 (by decide)
            clear ef
            have ho : Only Wx55 ((((Wx55.setCell ⟨Wq49.heap.size, 0, none⟩ (.int .u64 (lim (rmod (a + b) c) 0))).setCell ⟨Wq49.heap.size, 1, none⟩ (.int .u64 (lim (rmod (a + b) c) 1))).setCell ⟨Wq49.heap.size, 2, none⟩ (.int .u64 (lim (rmod (a + b) c) 2))).setCell ⟨Wq49.heap.size, 3, none⟩ (.int .u64 (lim (rmod (a + b) c) 3))) (Wq49.heap.size) 0 4 := ((((Only.refl _ _ _ _).setCell _ _ (by omega) (by omega)).setCell _ _ (by omega) (by omega)).setCell _ _ (by omega) (by omega)).setCell _ _ (by omega) (by omega)
            replace R5 := R5.only ho (by omega)
            replace R6 : Row4 ((((Wx55.setCell ⟨Wq49.heap.size, 0, none⟩ (.int .u64 (lim (rmod (a + b) c) 0))).setCell ⟨Wq49.heap.size, 1, none⟩ (.int .u64 (lim (rmod (a + b) c) 1))).setCell ⟨Wq49.heap.size, 2, none⟩ (.int .u64 (lim (rmod (a + b) c) 2))).setCell ⟨Wq49.heap.size, 3, none⟩ (.int .u64 (lim (rmod (a + b) c) 3))) (Wq49.heap.size) (lim (rmod (a + b) c) 0) (lim (rmod (a + b) c) 1) (lim (rmod (a + b) c) 2) (lim (rmod (a + b) c) 3) := ⟨by simp [go_sem, e0], by simp [go_sem, e1], by simp [go_sem, e2], by simp [go_sem, e3], fun j hj => (ho.frozen j).trans (R6.fz j hj)⟩
            have hB9 := hH.trans (ho.below (by omega))
            clear ho hz9
            refine wpAnyH_ready (rs := [14]) (by kernel_rfl) (by simp) ?_
            refine AllReadyH.cons rfl (fun K hK => ?_) AllReadyH.nil
            go_simp
            refine hK.out _ _ hB9 (fun hH => ?_)
            clear hK K e0 e1 e2 e3 ef0 ef1 ef2 ef3 hB9
            generalize ((((Wx55.setCell ⟨Wq49.heap.size, 0, none⟩ (.int .u64 (lim (rmod (a + b) c) 0))).setCell ⟨Wq49.heap.size, 1, none⟩ (.int .u64 (lim (rmod (a + b) c) 1))).setCell ⟨Wq49.heap.size, 2, none⟩ (.int .u64 (lim (rmod (a + b) c) 2))).setCell ⟨Wq49.heap.size, 3, none⟩ (.int .u64 (lim (rmod (a + b) c) 3))) = Wy55 at hH R5 R6 ⊢
            refine wpAnyH_done (by kernel_rfl) ?_ _
            obtain ⟨e0, e1, e2, e3, -⟩ := R6
            obtain ⟨x0, x1, x2, x3, x4, x5, x6, x7⟩ := C2.below hH z4
            clear R5
            go_wp2
            simp [bodyPost, results, Try.results34, go_sem, x0, x1, x2, x3]
            exact set4_below (hB.trans (hH.mono hB.size)) (by omega) _
      · go_simp
        have hbn := below1 Wq48 (.cells #[.int .u64 0, .int .u64 0, .int .u64 0, .int .u64 0] 24)
        refine hK.out _ _ (below_over0 hH hbn) (fun hH => ?_)
        replace R5 := R5.below hbn (by omega)
        have R6 := row4_new Wq48 0 0 0 0
        have hz56 : Wq48.heap.size + 1 ≤ (Wq48.alloc (.cells #[.int .u64 0, .int .u64 0, .int .u64 0, .int .u64 0] 24)).heap.size := by simp
        clear hbn hK K
        generalize Wq48.alloc (.cells #[.int .u64 0, .int .u64 0, .int .u64 0, .int .u64 0] 24) = Wn56 at hH hz56 R5 R6 ⊢
        have hw56 := hH.size
        refine wpAnyH_ready (rs := [5]) (by kernel_rfl) (by simp) ?_
        refine (AllReadyH.cons rfl (fun K hK => ?_) AllReadyH.nil)
        · go_simp
          refine (HWI.out _).mono ?_
          rintro e Wq57 ⟨rfl, hbn⟩
          go_wp2_with fail
          refine hK.out _ _ (below_over0 hH hbn) (fun hH => ?_)
          replace R5 := R5.below hbn (by omega)
          replace R6 := R6.below hbn (by omega)
          have hz57 := hbn.size
          clear hbn hK K
          refine wpAnyH_ready (rs := [7]) (by kernel_rfl) (by simp) ?_
          refine (AllReadyH.cons rfl (fun K hK => ?_) AllReadyH.nil)
          · go_simp
            refine (HDV.out _).mono ?_
            rintro e Wq58 ⟨rfl, hbn⟩
            go_wp2_with fail
            refine hK.out _ _ (below_over0 hH hbn) (fun hH => ?_)
            replace R5 := R5.below hbn (by omega)
            replace R6 := R6.below hbn (by omega)
            have hz58 := hbn.size
            clear hbn hK K
            refine take_d (i := 8) (d := some 9) (v := .tuple #[.agg #[.int .u64 (lim ((a + b) / c) 0), .int .u64 (lim ((a + b) / c) 1), .int .u64 (lim ((a + b) / c) 2), .int .u64 (lim ((a + b) / c) 3), .int .u64 (lim ((a + b) / c) 4), .int .u64 (lim ((a + b) / c) 5), .int .u64 (lim ((a + b) / c) 6), .int .u64 (lim ((a + b) / c) 7)], .agg #[.int .u64 (lim (rmod (a + b) c) 0), .int .u64 (lim (rmod (a + b) c) 1), .int .u64 (lim (rmod (a + b) c) 2), .int .u64 (lim (rmod (a + b) c) 3)]]) rfl rfl (by kernel_rfl) (by kernel_rfl) (by kernel_rfl) (fun _ _ _ h => h) (Or.inl ⟨by rfl, fun W hW => ?_⟩) hH ?_
            · clear hW hH
              go_simp
            simp only [Act.put, List.setIfInBounds_toArray, List.set_cons_zero, List.set_cons_succ]
            refine take_d (i := 9) (d := some 18) (v := .agg #[.int .u64 (lim ((a + b) / c) 0), .int .u64 (lim ((a + b) / c) 1), .int .u64 (lim ((a + b) / c) 2), .int .u64 (lim ((a + b) / c) 3), .int .u64 (lim ((a + b) / c) 4), .int .u64 (lim ((a + b) / c) 5), .int .u64 (lim ((a + b) / c) 6), .int .u64 (lim ((a + b) / c) 7)]) rfl rfl (by kernel_rfl) (by kernel_rfl) (by kernel_rfl) (fun _ _ _ h => h) (Or.inl ⟨by rfl, fun W hW => ?_⟩) hH ?_
            · clear hW hH
              go_simp
            simp only [Act.put, List.setIfInBounds_toArray, List.set_cons_zero, List.set_cons_succ]
            refine take_d (i := 10) (d := some 19) (v := .agg #[.int .u64 (lim (rmod (a + b) c) 0), .int .u64 (lim (rmod (a + b) c) 1), .int .u64 (lim (rmod (a + b) c) 2), .int .u64 (lim (rmod (a + b) c) 3)]) rfl rfl (by kernel_rfl) (by kernel_rfl) (by kernel_rfl) (fun _ _ _ h => h) (Or.inl ⟨by rfl, fun W hW => ?_⟩) hH ?_
            · clear hW hH
              go_simp
            simp only [Act.put, List.setIfInBounds_toArray, List.set_cons_zero, List.set_cons_succ]
            obtain ⟨e0, e1, e2, e3, e4, e5, e6, e7, ef⟩ := id R5
            have ef0 := ef 0 (by decide); have ef1 := ef 1 (by decide); have ef2 := ef 2 (by decide); have ef3 := ef 3 (by decide); have ef4 := ef 4 (by decide); have ef5 := ef 5 (by decide); have ef6 := ef 6 (by decide); have ef7 := ef 7 (by decide)
            clear ef
            have ho : Only Wq58 ((((((((Wq58.setCell ⟨Wa.heap.size, 0, none⟩ (.int .u64 (lim ((a + b) / c) 0))).setCell ⟨Wa.heap.size, 1, none⟩ (.int .u64 (lim ((a + b) / c) 1))).setCell ⟨Wa.heap.size, 2, none⟩ (.int .u64 (lim ((a + b) / c) 2))).setCell ⟨Wa.heap.size, 3, none⟩ (.int .u64 (lim ((a + b) / c) 3))).setCell ⟨Wa.heap.size, 4, none⟩ (.int .u64 (lim ((a + b) / c) 4))).setCell ⟨Wa.heap.size, 5, none⟩ (.int .u64 (lim ((a + b) / c) 5))).setCell ⟨Wa.heap.size, 6, none⟩ (.int .u64 (lim ((a + b) / c) 6))).setCell ⟨Wa.heap.size, 7, none⟩ (.int .u64 (lim ((a + b) / c) 7))) (Wa.heap.size) 0 8 := ((((((((Only.refl _ _ _ _).setCell _ _ (by omega) (by omega)).setCell _ _ (by omega) (by omega)).setCell _ _ (by omega) (by omega)).setCell _ _ (by omega) (by omega)).setCell _ _ (by omega) (by omega)).setCell _ _ (by omega) (by omega)).setCell _ _ (by omega) (by omega)).setCell _ _ (by omega) (by omega)
            replace R5 := ((((((((R5.put0 (lim ((a + b) / c) 0)).put1 (lim ((a + b) / c) 1)).put2 (lim ((a + b) / c) 2)).put3 (lim ((a + b) / c) 3)).put4 (lim ((a + b) / c) 4)).put5 (lim ((a + b) / c) 5)).put6 (lim ((a + b) / c) 6)).put7 (lim ((a + b) / c) 7))
            replace R6 := R6.only ho (by omega)
            have hB9 := hH.trans (ho.below (by omega))
            have hz9 := Nat.le_of_eq ho.size.symm
            clear ho
            refine wpAnyH_ready (rs := [13]) (by kernel_rfl) (by simp) ?_
            refine AllReadyH.cons rfl (fun K hK => ?_) AllReadyH.nil
            go_simp
            refine hK.out _ _ hB9 (fun hH => ?_)
            clear hK K e0 e1 e2 e3 e4 e5 e6 e7 ef0 ef1 ef2 ef3 ef4 ef5 ef6 ef7 hB9
            generalize ((((((((Wq58.setCell ⟨Wa.heap.size, 0, none⟩ (.int .u64 (lim ((a + b) / c) 0))).setCell ⟨Wa.heap.size, 1, none⟩ (.int .u64 (lim ((a + b) / c) 1))).setCell ⟨Wa.heap.size, 2, none⟩ (.int .u64 (lim ((a + b) / c) 2))).setCell ⟨Wa.heap.size, 3, none⟩ (.int .u64 (lim ((a + b) / c) 3))).setCell ⟨Wa.heap.size, 4, none⟩ (.int .u64 (lim ((a + b) / c) 4))).setCell ⟨Wa.heap.size, 5, none⟩ (.int .u64 (lim ((a + b) / c) 5))).setCell ⟨Wa.heap.size, 6, none⟩ (.int .u64 (lim ((a + b) / c) 6))).setCell ⟨Wa.heap.size, 7, none⟩ (.int .u64 (lim ((a + b) / c) 7))) = Wx59 at hH R5 R6 hz9 ⊢
            obtain ⟨e0, e1, e2, e3, ef⟩ := id R6
            have ef0 := ef 0 (by decide); have ef1 := ef 1 (by decide); have ef2 := ef 2 (by decide); have ef3 := ef 3 (by decide)
            clear ef
            have ho : Only Wx59 ((((Wx59.setCell ⟨Wq48.heap.size, 0, none⟩ (.int .u64 (lim (rmod (a + b) c) 0))).setCell ⟨Wq48.heap.size, 1, none⟩ (.int .u64 (lim (rmod (a + b) c) 1))).setCell ⟨Wq48.heap.size, 2, none⟩ (.int .u64 (lim (rmod (a + b) c) 2))).setCell ⟨Wq48.heap.size, 3, none⟩ (.int .u64 (lim (rmod (a + b) c) 3))) (Wq48.heap.size) 0 4 := ((((Only.refl _ _ _ _).setCell _ _ (by omega) (by omega)).setCell _ _ (by omega) (by omega)).setCell _ _ (by omega) (by omega)).setCell _ _ (by omega) (by omega)
            replace R5 := R5.only ho (by omega)
            replace R6 : Row4 ((((Wx59.setCell ⟨Wq48.heap.size, 0, none⟩ (.int .u64 (lim (rmod (a + b) c) 0))).setCell ⟨Wq48.heap.size, 1, none⟩ (.int .u64 (lim (rmod (a + b) c) 1))).setCell ⟨Wq48.heap.size, 2, none⟩ (.int .u64 (lim (rmod (a + b) c) 2))).setCell ⟨Wq48.heap.size, 3, none⟩ (.int .u64 (lim (rmod (a + b) c) 3))) (Wq48.heap.size) (lim (rmod (a + b) c) 0) (lim (rmod (a + b) c) 1) (lim (rmod (a + b) c) 2) (lim (rmod (a + b) c) 3) := ⟨by simp [go_sem, e0], by simp [go_sem, e1], by simp [go_sem, e2], by simp [go_sem, e3], fun j hj => (ho.frozen j).trans (R6.fz j hj)⟩
            have hB9 := hH.trans (ho.below (by omega))
            clear ho hz9
            refine wpAnyH_ready (rs := [14]) (by kernel_rfl) (by simp) ?_
            refine AllReadyH.cons rfl (fun K hK => ?_) AllReadyH.nil
            go_simp
            refine hK.out _ _ hB9 (fun hH => ?_)
            clear hK K e0 e1 e2 e3 ef0 ef1 ef2 ef3 hB9
            generalize ((((Wx59.setCell ⟨Wq48.heap.size, 0, none⟩ (.int .u64 (lim (rmod (a + b) c) 0))).setCell ⟨Wq48.heap.size, 1, none⟩ (.int .u64 (lim (rmod (a + b) c) 1))).setCell ⟨Wq48.heap.size, 2, none⟩ (.int .u64 (lim (rmod (a + b) c) 2))).setCell ⟨Wq48.heap.size, 3, none⟩ (.int .u64 (lim (rmod (a + b) c) 3))) = Wy59 at hH R5 R6 ⊢
            refine wpAnyH_done (by kernel_rfl) ?_ _
            obtain ⟨e0, e1, e2, e3, -⟩ := R6
            obtain ⟨x0, x1, x2, x3, x4, x5, x6, x7⟩ := C2.below hH z4
            clear R5
            go_wp2
            simp [bodyPost, results, Try.results34, go_sem, x0, x1, x2, x3]
            exact set4_below (hB.trans (hH.mono hB.size)) (by omega) _
    · go_simp
      have hbn := below1 Wn47 (.cells #[.int .u64 0, .int .u64 0, .int .u64 0, .int .u64 0] 24)
      refine hK.out _ _ (below_over0 hH hbn) (fun hH => ?_)
      replace R5 := R5.below hbn (by omega)
      have R6 := row4_new Wn47 0 0 0 0
      have hz60 : Wn47.heap.size + 1 ≤ (Wn47.alloc (.cells #[.int .u64 0, .int .u64 0, .int .u64 0, .int .u64 0] 24)).heap.size := by simp
      clear hbn hK K
      generalize Wn47.alloc (.cells #[.int .u64 0, .int .u64 0, .int .u64 0, .int .u64 0] 24) = Wn60 at hH hz60 R5 R6 ⊢
      have hw60 := hH.size
      refine wpAnyH_ready (rs := [2]) (by kernel_rfl) (by simp) ?_
      refine (AllReadyH.cons rfl (fun K hK => ?_) AllReadyH.nil)
      · go_simp
        refine (HSU.out _).mono ?_
        rintro e Wq61 ⟨rfl, hbn⟩
        go_wp2_with fail
        refine hK.out _ _ (below_over0 hH hbn) (fun hH => ?_)
        replace R5 := R5.below hbn (by omega)
        replace R6 := R6.below hbn (by omega)
        have hz61 := hbn.size
        clear hbn hK K
        refine take_d (i := 3) (d := some 13) (v := .agg #[.int .u64 (lim ((a + b) % M) 0), .int .u64 (lim ((a + b) % M) 1), .int .u64 (lim ((a + b) % M) 2), .int .u64 (lim ((a + b) % M) 3)]) rfl rfl (by kernel_rfl) (by kernel_rfl) (by kernel_rfl) (fun _ _ _ h => h) (Or.inl ⟨by rfl, fun W hW => ?_⟩) hH ?_
        · clear hW hH
          go_simp
        simp only [Act.put, List.setIfInBounds_toArray, List.set_cons_zero, List.set_cons_succ]
        refine take_d (i := 4) (d := some 14) (v := .int .u64 (((a + b) / M : Nat) : Int)) rfl rfl (by kernel_rfl) (by kernel_rfl) (by kernel_rfl) (fun _ _ _ h => h) (Or.inl ⟨by rfl, fun W hW => ?_⟩) hH ?_
        · clear hW hH
          go_simp
        simp only [Act.put, List.setIfInBounds_toArray, List.set_cons_zero, List.set_cons_succ]
        refine wpAnyH_ready (rs := [5]) (by kernel_rfl) (by simp) ?_
        refine (AllReadyH.cons rfl (fun K hK => ?_) AllReadyH.nil)
        · go_simp
          refine (HWI.out _).mono ?_
          rintro e Wq62 ⟨rfl, hbn⟩
          go_wp2_with fail
          refine hK.out _ _ (below_over0 hH hbn) (fun hH => ?_)
          replace R5 := R5.below hbn (by omega)
          replace R6 := R6.below hbn (by omega)
          have hz62 := hbn.size
          clear hbn hK K
          refine wpAnyH_ready (rs := [7]) (by kernel_rfl) (by simp) ?_
          refine (AllReadyH.cons rfl (fun K hK => ?_) AllReadyH.nil)
          · go_simp
            refine (HDV.out _).mono ?_
            rintro e Wq63 ⟨rfl, hbn⟩
            go_wp2_with fail
            refine hK.out _ _ (below_over0 hH hbn) (fun hH => ?_)
            replace R5 := R5.below hbn (by omega)
            replace R6 := R6.below hbn (by omega)
            have hz63 := hbn.size
            clear hbn hK K
            refine take_d (i := 8) (d := some 9) (v := .tuple #[.agg #[.int .u64 (lim ((a + b) / c) 0), .int .u64 (lim ((a + b) / c) 1), .int .u64 (lim ((a + b) / c) 2), .int .u64 (lim ((a + b) / c) 3), .int .u64 (lim ((a + b) / c) 4), .int .u64 (lim ((a + b) / c) 5), .int .u64 (lim ((a + b) / c) 6), .int .u64 (lim ((a + b) / c) 7)], .agg #[.int .u64 (lim (rmod (a + b) c) 0), .int .u64 (lim (rmod (a + b) c) 1), .int .u64 (lim (rmod (a + b) c) 2), .int .u64 (lim (rmod (a + b) c) 3)]]) rfl rfl (by kernel_rfl) (by kernel_rfl) (by kernel_rfl) (fun _ _ _ h => h) (Or.inl ⟨by rfl, fun W hW => ?_⟩) hH ?_
            · clear hW hH
              go_simp
            simp only [Act.put, List.setIfInBounds_toArray, List.set_cons_zero, List.set_cons_succ]
            refine take_d (i := 9) (d := some 18) (v := .agg #[.int .u64 (lim ((a + b) / c) 0), .int .u64 (lim ((a + b) / c) 1), .int .u64 (lim ((a + b) / c) 2), .int .u64 (lim ((a + b) / c) 3), .int .u64 (lim ((a + b) / c) 4), .int .u64 (lim ((a + b) / c) 5), .int .u64 (lim ((a + b) / c) 6), .int .u64 (lim ((a + b) / c) 7)]) rfl rfl (by kernel_rfl) (by kernel_rfl) (by kernel_rfl) (fun _ _ _ h => h) (Or.inl ⟨by rfl, fun W hW => ?_⟩) hH ?_
            · clear hW hH
              go_simp
            simp only [Act.put, List.setIfInBounds_toArray, List.set_cons_zero, List.set_cons_succ]
            refine take_d (i := 10) (d := some 19) (v := .agg #[.int .u64 (lim (rmod (a + b) c) 0), .int .u64 (lim (rmod (a + b) c) 1), .int .u64 (lim (rmod (a + b) c) 2), .int .u64 (lim (rmod (a + b) c) 3)]) rfl rfl (by kernel_rfl) (by kernel_rfl) (by kernel_rfl) (fun _ _ _ h => h) (Or.inl ⟨by rfl, fun W hW => ?_⟩) hH ?_
            · clear hW hH
              go_simp
            simp only [Act.put, List.setIfInBounds_toArray, List.set_cons_zero, List.set_cons_succ]
            obtain ⟨e0, e1, e2, e3, e4, e5, e6, e7, ef⟩ := id R5
            have ef0 := ef 0 (by decide); have ef1 := ef 1 (by decide); have ef2 := ef 2 (by decide); have ef3 := ef 3 (by decide); have ef4 := ef 4 (by decide); have ef5 := ef 5 (by decide); have ef6 := ef 6 (by decide); have ef7 := ef 7 (by decide)
            clear ef
            have ho : Only Wq63 ((((((((Wq63.setCell ⟨Wa.heap.size, 0, none⟩ (.int .u64 (lim ((a + b) / c) 0))).setCell ⟨Wa.heap.size, 1, none⟩ (.int .u64 (lim ((a + b) / c) 1))).setCell ⟨Wa.heap.size, 2, none⟩ (.int .u64 (lim ((a + b) / c) 2))).setCell ⟨Wa.heap.size, 3, none⟩ (.int .u64 (lim ((a + b) / c) 3))).setCell ⟨Wa.heap.size, 4, none⟩ (.int .u64 (lim ((a + b) / c) 4))).setCell ⟨Wa.heap.size, 5, none⟩ (.int .u64 (lim ((a + b) / c) 5))).setCell ⟨Wa.heap.size, 6, none⟩ (.int .u64 (lim ((a + b) / c) 6))).setCell ⟨Wa.heap.size, 7, none⟩ (.int .u64 (lim ((a + b) / c) 7))) (Wa.heap.size) 0 8 := ((((((((Only.refl _ _ _ _).setCell _ _ (by omega) (by omega)).setCell _ _ (by omega) (by omega)).setCell _ _ (by omega) (by omega)).setCell _ _ (by omega) (by omega)).setCell _ _ (by omega) (by omega)).setCell _ _ (by omega) (by omega)).setCell _ _ (by omega) (by omega)).setCell _ _ (by omega) (by omega)
            replace R5 := ((((((((R5.put0 (lim ((a + b) / c) 0)).put1 (lim ((a + b) / c) 1)).put2 (lim ((a + b) / c) 2)).put3 (lim ((a + b) / c) 3)).put4 (lim ((a + b) / c) 4)).put5 (lim ((a + b) / c) 5)).put6 (lim ((a + b) / c) 6)).put7 (lim ((a + b) / c) 7))
            replace R6 := R6.only ho (by omega)
            have hB9 := hH.trans (ho.below (by omega))
            have hz9 := Nat.le_of_eq ho.size.symm
            clear ho
            refine wpAnyH_ready (rs := [13]) (by kernel_rfl) (by simp) ?_
            refine AllReadyH.cons rfl (fun K hK => ?_) AllReadyH.nil
            go_simp
            refine hK.out _ _ hB9 (fun hH => ?_)
            clear hK K e0 e1 e2 e3 e4 e5 e6 e7 ef0 ef1 ef2 ef3 ef4 ef5 ef6 ef7 hB9
            generalize ((((((((Wq63.setCell ⟨Wa.heap.size, 0, none⟩ (.int .u64 (lim ((a + b) / c) 0))).setCell ⟨Wa.heap.size, 1, none⟩ (.int .u64 (lim ((a + b) / c) 1))).setCell ⟨Wa.heap.size, 2, none⟩ (.int .u64 (lim ((a + b) / c) 2))).setCell ⟨Wa.heap.size, 3, none⟩ (.int .u64 (lim ((a + b) / c) 3))).setCell ⟨Wa.heap.size, 4, none⟩ (.int .u64 (lim ((a + b) / c) 4))).setCell ⟨Wa.heap.size, 5, none⟩ (.int .u64 (lim ((a + b) / c) 5))).setCell ⟨Wa.heap.size, 6, none⟩ (.int .u64 (lim ((a + b) / c) 6))).setCell ⟨Wa.heap.size, 7, none⟩ (.int .u64 (lim ((a + b) / c) 7))) = Wx64 at hH R5 R6 hz9 ⊢
            obtain ⟨e0, e1, e2, e3, ef⟩ := id R6
            have ef0 := ef 0 (by decide); have ef1 := ef 1 (by decide); have ef2 := ef 2 (by decide); have ef3 := ef 3 (by decide)
            clear ef
            have ho : Only Wx64 ((((Wx64.setCell ⟨Wn47.heap.size, 0, none⟩ (.int .u64 (lim (rmod (a + b) c) 0))).setCell ⟨Wn47.heap.size, 1, none⟩ (.int .u64 (lim (rmod (a + b) c) 1))).setCell ⟨Wn47.heap.size, 2, none⟩ (.int .u64 (lim (rmod (a + b) c) 2))).setCell ⟨Wn47.heap.size, 3, none⟩ (.int .u64 (lim (rmod (a + b) c) 3))) (Wn47.heap.size) 0 4 := ((((Only.refl _ _ _ _).setCell _ _ (by omega) (by omega)).setCell _ _ (by omega) (by omega)).setCell _ _ (by omega) (by omega)).setCell _ _ (by omega) (by omega)
            replace R5 := R5.only ho (by omega)
            replace R6 : Row4 ((((Wx64.setCell ⟨Wn47.heap.size, 0, none⟩ (.int .u64 (lim (rmod (a + b) c) 0))).setCell ⟨Wn47.heap.size, 1, none⟩ (.int .u64 (lim (rmod (a + b) c) 1))).setCell ⟨Wn47.heap.size, 2, none⟩ (.int .u64 (lim (rmod (a + b) c) 2))).setCell ⟨Wn47.heap.size, 3, none⟩ (.int .u64 (lim (rmod (a + b) c) 3))) (Wn47.heap.size) (lim (rmod (a + b) c) 0) (lim (rmod (a + b) c) 1) (lim (rmod (a + b) c) 2) (lim (rmod (a + b) c) 3) := ⟨by simp [go_sem, e0], by simp [go_sem, e1], by simp [go_sem, e2], by simp [go_sem, e3], fun j hj => (ho.frozen j).trans (R6.fz j hj)⟩
            have hB9 := hH.trans (ho.below (by omega))
            clear ho hz9
            refine wpAnyH_ready (rs := [14]) (by kernel_rfl) (by simp) ?_
            refine AllReadyH.cons rfl (fun K hK => ?_) AllReadyH.nil
            go_simp
            refine hK.out _ _ hB9 (fun hH => ?_)
            clear hK K e0 e1 e2 e3 ef0 ef1 ef2 ef3 hB9
            generalize ((((Wx64.setCell ⟨Wn47.heap.size, 0, none⟩ (.int .u64 (lim (rmod (a + b) c) 0))).setCell ⟨Wn47.heap.size, 1, none⟩ (.int .u64 (lim (rmod (a + b) c) 1))).setCell ⟨Wn47.heap.size, 2, none⟩ (.int .u64 (lim (rmod (a + b) c) 2))).setCell ⟨Wn47.heap.size, 3, none⟩ (.int .u64 (lim (rmod (a + b) c) 3))) = Wy64 at hH R5 R6 ⊢
            refine wpAnyH_done (by kernel_rfl) ?_ _
            obtain ⟨e0, e1, e2, e3, -⟩ := R6
            obtain ⟨x0, x1, x2, x3, x4, x5, x6, x7⟩ := C2.below hH z4
            clear R5
            go_wp2
            simp [bodyPost, results, Try.results34, go_sem, x0, x1, x2, x3]
            exact set4_below (hB.trans (hH.mono hB.size)) (by omega) _
  · go_simp
    have hbn := below1 Wa (.cells #[.int .u64 0, .int .u64 0, .int .u64 0, .int .u64 0] 24)
    refine hK.out _ _ (below_over0 hH hbn) (fun hH => ?_)
    have R6 := row4_new Wa 0 0 0 0
    have hz65 : Wa.heap.size + 1 ≤ (Wa.alloc (.cells #[.int .u64 0, .int .u64 0, .int .u64 0, .int .u64 0] 24)).heap.size := by simp
    clear hbn hK K
    generalize Wa.alloc (.cells #[.int .u64 0, .int .u64 0, .int .u64 0, .int .u64 0] 24) = Wn65 at hH hz65 R6 ⊢
    have hw65 := hH.size
    refine wpAnyH_ready (rs := [2, 11]) (by kernel_rfl) (by simp) ?_
    refine (AllReadyH.cons rfl (fun K hK => ?_) (AllReadyH.cons rfl (fun K hK => ?_) AllReadyH.nil))
    · go_simp
      refine (HSU.out _).mono ?_
      rintro e Wq66 ⟨rfl, hbn⟩
      go_wp2_with fail
      refine hK.out _ _ (below_over0 hH hbn) (fun hH => ?_)
      replace R6 := R6.below hbn (by omega)
      have hz66 := hbn.size
      clear hbn hK K
      refine take_d (i := 3) (d := some 13) (v := .agg #[.int .u64 (lim ((a + b) % M) 0), .int .u64 (lim ((a + b) % M) 1), .int .u64 (lim ((a + b) % M) 2), .int .u64 (lim ((a + b) % M) 3)]) rfl rfl (by kernel_rfl) (by kernel_rfl) (by kernel_rfl) (fun _ _ _ h => h) (Or.inl ⟨by rfl, fun W hW => ?_⟩) hH ?_
      · clear hW hH
        go_simp
      simp only [Act.put, List.setIfInBounds_toArray, List.set_cons_zero, List.set_cons_succ]
      refine take_d (i := 4) (d := some 14) (v := .int .u64 (((a + b) / M : Nat) : Int)) rfl rfl (by kernel_rfl) (by kernel_rfl) (by kernel_rfl) (fun _ _ _ h => h) (Or.inl ⟨by rfl, fun W hW => ?_⟩) hH ?_
      · clear hW hH
        go_simp
      simp only [Act.put, List.setIfInBounds_toArray, List.set_cons_zero, List.set_cons_succ]
      refine wpAnyH_ready (rs := [5, 11]) (by kernel_rfl) (by simp) ?_
      refine (AllReadyH.cons rfl (fun K hK => ?_) (AllReadyH.cons rfl (fun K hK => ?_) AllReadyH.nil))
      · go_simp
        refine (HWI.out _).mono ?_
        rintro e Wq67 ⟨rfl, hbn⟩
        go_wp2_with fail
        refine hK.out _ _ (below_over0 hH hbn) (fun hH => ?_)
        replace R6 := R6.below hbn (by omega)
        have hz67 := hbn.size
        clear hbn hK K
        refine wpAnyH_ready (rs := [7, 11]) (by kernel_rfl) (by simp) ?_
        refine (AllReadyH.cons rfl (fun K hK => ?_) (AllReadyH.cons rfl (fun K hK => ?_) AllReadyH.nil))
        · go_simp
          refine (HDV.out _).mono ?_
          rintro e Wq68 ⟨rfl, hbn⟩
          go_wp2_with fail
          refine hK.out _ _ (below_over0 hH hbn) (fun hH => ?_)
          replace R6 := R6.below hbn (by omega)
          have hz68 := hbn.size
          clear hbn hK K
          refine take_d (i := 8) (d := some 9) (v := .tuple #[.agg #[.int .u64 (lim ((a + b) / c) 0), .int .u64 (lim ((a + b) / c) 1), .int .u64 (lim ((a + b) / c) 2), .int .u64 (lim ((a + b) / c) 3), .int .u64 (lim ((a + b) / c) 4), .int .u64 (lim ((a + b) / c) 5), .int .u64 (lim ((a + b) / c) 6), .int .u64 (lim ((a + b) / c) 7)], .agg #[.int .u64 (lim (rmod (a + b) c) 0), .int .u64 (lim (rmod (a + b) c) 1), .int .u64 (lim (rmod (a + b) c) 2), .int .u64 (lim (rmod (a + b) c) 3)]]) rfl rfl (by kernel_rfl) (by kernel_rfl) (by kernel_rfl) (fun _ _ _ h => h) (Or.inl ⟨by rfl, fun W hW => ?_⟩) hH ?_
          · clear hW hH
            go_simp
          simp only [Act.put, List.setIfInBounds_toArray, List.set_cons_zero, List.set_cons_succ]
          refine take_d (i := 9) (d := some 18) (v := .agg #[.int .u64 (lim ((a + b) / c) 0), .int .u64 (lim ((a + b) / c) 1), .int .u64 (lim ((a + b) / c) 2), .int .u64 (lim ((a + b) / c) 3), .int .u64 (lim ((a + b) / c) 4), .int .u64 (lim ((a + b) / c) 5), .int .u64 (lim ((a + b) / c) 6), .int .u64 (lim ((a + b) / c) 7)]) rfl rfl (by kernel_rfl) (by kernel_rfl) (by kernel_rfl) (fun _ _ _ h => h) (Or.inl ⟨by rfl, fun W hW => ?_⟩) hH ?_
          · clear hW hH
            go_simp
          simp only [Act.put, List.setIfInBounds_toArray, List.set_cons_zero, List.set_cons_succ]
          refine take_d (i := 10) (d := some 19) (v := .agg #[.int .u64 (lim (rmod (a + b) c) 0), .int .u64 (lim (rmod (a + b) c) 1), .int .u64 (lim (rmod (a + b) c) 2), .int .u64 (lim (rmod (a + b) c) 3)]) rfl rfl (by kernel_rfl) (by kernel_rfl) (by kernel_rfl) (fun _ _ _ h => h) (Or.inl ⟨by rfl, fun W hW => ?_⟩) hH ?_
          · clear hW hH
            go_simp
          simp only [Act.put, List.setIfInBounds_toArray, List.set_cons_zero, List.set_cons_succ]
          refine wpAnyH_ready (rs := [11]) (by kernel_rfl) (by simp) ?_
          refine (AllReadyH.cons rfl (fun K hK => ?_) AllReadyH.nil)
          · go_simp
            have hbn := below1 Wq68 (.cells #[.int .u64 0, .int .u64 0, .int .u64 0, .int .u64 0, .int .u64 0, .int .u64 0, .int .u64 0, .int .u64 0] 56)
            refine hK.out _ _ (below_over0 hH hbn) (fun hH => ?_)
            replace R6 := R6.below hbn (by omega)
            have R5 := row8_new Wq68 0 0 0 0 0 0 0 0
            have hz69 : Wq68.heap.size + 1 ≤ (Wq68.alloc (.cells #[.int .u64 0, .int .u64 0, .int .u64 0, .int .u64 0, .int .u64 0, .int .u64 0, .int .u64 0, .int .u64 0] 56)).heap.size := by simp
            clear hbn hK K
            generalize Wq68.alloc (.cells #[.int .u64 0, .int .u64 0, .int .u64 0, .int .u64 0, .int .u64 0, .int .u64 0, .int .u64 0, .int .u64 0] 56) = Wn69 at hH hz69 R5 R6 ⊢
            have hw69 := hH.size
            obtain ⟨e0, e1, e2, e3, e4, e5, e6, e7, ef⟩ := id R5
            have ef0 := ef 0 (by decide); have ef1 := ef 1 (by decide); have ef2 := ef 2 (by decide); have ef3 := ef 3 (by decide); have ef4 := ef 4 (by decide); have ef5 := ef 5 (by decide); have ef6 := ef 6 (by decide); have ef7 := ef 7 (by decide)
            clear ef
            have ho : Only Wn69 ((((((((Wn69.setCell ⟨Wq68.heap.size, 0, none⟩ (.int .u64 (lim ((a + b) / c) 0))).setCell ⟨Wq68.heap.size, 1, none⟩ (.int .u64 (lim ((a + b) / c) 1))).setCell ⟨Wq68.heap.size, 2, none⟩ (.int .u64 (lim ((a + b) / c) 2))).setCell ⟨Wq68.heap.size, 3, none⟩ (.int .u64 (lim ((a + b) / c) 3))).setCell ⟨Wq68.heap.size, 4, none⟩ (.int .u64 (lim ((a + b) / c) 4))).setCell ⟨Wq68.heap.size, 5, none⟩ (.int .u64 (lim ((a + b) / c) 5))).setCell ⟨Wq68.heap.size, 6, none⟩ (.int .u64 (lim ((a + b) / c) 6))).setCell ⟨Wq68.heap.size, 7, none⟩ (.int .u64 (lim ((a + b) / c) 7))) (Wq68.heap.size) 0 8 := ((((((((Only.refl _ _ _ _).setCell _ _ (by omega) (by omega)).setCell _ _ (by omega) (by omega)).setCell _ _ (by omega) (by omega)).setCell _ _ (by omega) (by omega)).setCell _ _ (by omega) (by omega)).setCell _ _ (by omega) (by omega)).setCell _ _ (by omega) (by omega)).setCell _ _ (by omega) (by omega)
            replace R5 := ((((((((R5.put0 (lim ((a + b) / c) 0)).put1 (lim ((a + b) / c) 1)).put2 (lim ((a + b) / c) 2)).put3 (lim ((a + b) / c) 3)).put4 (lim ((a + b) / c) 4)).put5 (lim ((a + b) / c) 5)).put6 (lim ((a + b) / c) 6)).put7 (lim ((a + b) / c) 7))
            replace R6 := R6.only ho (by omega)
            have hB9 := hH.trans (ho.below (by omega))
            have hz9 := Nat.le_of_eq ho.size.symm
            clear ho
            refine wpAnyH_ready (rs := [13]) (by kernel_rfl) (by simp) ?_
            refine AllReadyH.cons rfl (fun K hK => ?_) AllReadyH.nil
            go_simp
            refine hK.out _ _ hB9 (fun hH => ?_)
            clear hK K e0 e1 e2 e3 e4 e5 e6 e7 ef0 ef1 ef2 ef3 ef4 ef5 ef6 ef7 hB9
            generalize ((((((((Wn69.setCell ⟨Wq68.heap.size, 0, none⟩ (.int .u64 (lim ((a + b) / c) 0))).setCell ⟨Wq68.heap.size, 1, none⟩ (.int .u64 (lim ((a + b) / c) 1))).setCell ⟨Wq68.heap.size, 2, none⟩ (.int .u64 (lim ((a + b) / c) 2))).setCell ⟨Wq68.heap.size, 3, none⟩ (.int .u64 (lim ((a + b) / c) 3))).setCell ⟨Wq68.heap.size, 4, none⟩ (.int .u64 (lim ((a + b) / c) 4))).setCell ⟨Wq68.heap.size, 5, none⟩ (.int .u64 (lim ((a + b) / c) 5))).setCell ⟨Wq68.heap.size, 6, none⟩ (.int .u64 (lim ((a + b) / c) 6))).setCell ⟨Wq68.heap.size, 7, none⟩ (.int .u64 (lim ((a + b) / c) 7))) = Wx70 at hH R5 R6 hz9 ⊢
            obtain ⟨e0, e1, e2, e3, ef⟩ := id R6
            have ef0 := ef 0 (by decide); have ef1 := ef 1 (by decide); have ef2 := ef 2 (by decide); have ef3 := ef 3 (by decide)
            clear ef
            have ho : Only Wx70 ((((Wx70.setCell ⟨Wa.heap.size, 0, none⟩ (.int .u64 (lim (rmod (a + b) c) 0))).setCell ⟨Wa.heap.size, 1, none⟩ (.int .u64 (lim (rmod (a + b) c) 1))).setCell ⟨Wa.heap.size, 2, none⟩ (.int .u64 (lim (rmod (a + b) c) 2))).setCell ⟨Wa.heap.size, 3, none⟩ (.int .u64 (lim (rmod (a + b) c) 3))) (Wa.heap.size) 0 4 := ((((Only.refl _ _ _ _).setCell _ _ (by omega) (by omega)).setCell _ _ (by omega) (by omega)).setCell _ _ (by omega) (by omega)).setCell _ _ (by omega) (by omega)
            replace R5 := R5.only ho (by omega)
            replace R6 : Row4 ((((Wx70.setCell ⟨Wa.heap.size, 0, none⟩ (.int .u64 (lim (rmod (a + b) c) 0))).setCell ⟨Wa.heap.size, 1, none⟩ (.int .u64 (lim (rmod (a + b) c) 1))).setCell ⟨Wa.heap.size, 2, none⟩ (.int .u64 (lim (rmod (a + b) c) 2))).setCell ⟨Wa.heap.size, 3, none⟩ (.int .u64 (lim (rmod (a + b) c) 3))) (Wa.heap.size) (lim (rmod (a + b) c) 0) (lim (rmod (a + b) c) 1) (lim (rmod (a + b) c) 2) (lim (rmod (a + b) c) 3) := ⟨by simp [go_sem, e0], by simp [go_sem, e1], by simp [go_sem, e2], by simp [go_sem, e3], fun j hj => (ho.frozen j).trans (R6.fz j hj)⟩
            have hB9 := hH.trans (ho.below (by omega))
            clear ho hz9
            refine wpAnyH_ready (rs := [14]) (by kernel_rfl) (by simp) ?_
            refine AllReadyH.cons rfl (fun K hK => ?_) AllReadyH.nil
            go_simp
            refine hK.out _ _ hB9 (fun hH => ?_)
            clear hK K e0 e1 e2 e3 ef0 ef1 ef2 ef3 hB9
            generalize ((((Wx70.setCell ⟨Wa.heap.size, 0, none⟩ (.int .u64 (lim (rmod (a + b) c) 0))).setCell ⟨Wa.heap.size, 1, none⟩ (.int .u64 (lim (rmod (a + b) c) 1))).setCell ⟨Wa.heap.size, 2, none⟩ (.int .u64 (lim (rmod (a + b) c) 2))).setCell ⟨Wa.heap.size, 3, none⟩ (.int .u64 (lim (rmod (a + b) c) 3))) = Wy70 at hH R5 R6 ⊢
            refine wpAnyH_done (by kernel_rfl) ?_ _
            obtain ⟨e0, e1, e2, e3, -⟩ := R6
            obtain ⟨x0, x1, x2, x3, x4, x5, x6, x7⟩ := C2.below hH z4
            clear R5
            go_wp2
            simp [bodyPost, results, Try.results34, go_sem, x0, x1, x2, x3]
            exact set4_below (hB.trans (hH.mono hB.size)) (by omega) _
        · go_simp
          have hbn := below1 Wq67 (.cells #[.int .u64 0, .int .u64 0, .int .u64 0, .int .u64 0, .int .u64 0, .int .u64 0, .int .u64 0, .int .u64 0] 56)
          refine hK.out _ _ (below_over0 hH hbn) (fun hH => ?_)
          replace R6 := R6.below hbn (by omega)
          have R5 := row8_new Wq67 0 0 0 0 0 0 0 0
          have hz71 : Wq67.heap.size + 1 ≤ (Wq67.alloc (.cells #[.int .u64 0, .int .u64 0, .int .u64 0, .int .u64 0, .int .u64 0, .int .u64 0, .int .u64 0, .int .u64 0] 56)).heap.size := by simp
          clear hbn hK K
          generalize Wq67.alloc (.cells #[.int .u64 0, .int .u64 0, .int .u64 0, .int .u64 0, .int .u64 0, .int .u64 0, .int .u64 0, .int .u64 0] 56) = Wn71 at hH hz71 R5 R6 ⊢
          have hw71 := hH.size
          refine wpAnyH_ready (rs := [7]) (by kernel_rfl) (by simp) ?_
          refine (AllReadyH.cons rfl (fun K hK => ?_) AllReadyH.nil)
          · go_simp
            refine (HDV.out _).mono ?_
            rintro e Wq72 ⟨rfl, hbn⟩
            go_wp2_with fail
            refine hK.out _ _ (below_over0 hH hbn) (fun hH => ?_)
            replace R5 := R5.below hbn (by omega)
            replace R6 := R6.below hbn (by omega)
            have hz72 := hbn.size
            clear hbn hK K
            refine take_d (i := 8) (d := some 9) (v := .tuple #[.agg #[.int .u64 (lim ((a + b) / c) 0), .int .u64 (lim ((a + b) / c) 1), .int .u64 (lim ((a + b) / c) 2), .int .u64 (lim ((a + b) / c) 3), .int .u64 (lim ((a + b) / c) 4), .int .u64 (lim ((a + b) / c) 5), .int .u64 (lim ((a + b) / c) 6), .int .u64 (lim ((a + b) / c) 7)], .agg #[.int .u64 (lim (rmod (a + b) c) 0), .int .u64 (lim (rmod (a + b) c) 1), .int .u64 (lim (rmod (a + b) c) 2), .int .u64 (lim (rmod (a + b) c) 3)]]) rfl rfl (by kernel_rfl) (by kernel_rfl) (by kernel_rfl) (fun _ _ _ h => h) (Or.inl ⟨by rfl, fun W hW => ?_⟩) hH ?_
            · clear hW hH
              go_simp
            simp only [Act.put, List.setIfInBounds_toArray, List.set_cons_zero, List.set_cons_succ]
            refine take_d (i := 9) (d := some 18) (v := .agg #[.int .u64 (lim ((a + b) / c) 0), .int .u64 (lim ((a + b) / c) 1), .int .u64 (lim ((a + b) / c) 2), .int .u64 (lim ((a + b) / c) 3), .int .u64 (lim ((a + b) / c) 4), .int .u64 (lim ((a + b) / c) 5), .int .u64 (lim ((a + b) / c) 6), .int .u64 (lim ((a + b) / c) 7)]) rfl rfl (by kernel_rfl) (by kernel_rfl) (by kernel_rfl) (fun _ _ _ h => h) (Or.inl ⟨by rfl, fun W hW => ?_⟩) hH ?_
            · clear hW hH
              go_simp
            simp only [Act.put, List.setIfInBounds_toArray, List.set_cons_zero, List.set_cons_succ]
            refine take_d (i := 10) (d := some 19) (v := .agg #[.int .u64 (lim (rmod (a + b) c) 0), .int .u64 (lim (rmod (a + b) c) 1), .int .u64 (lim (rmod (a + b) c) 2), .int .u64 (lim (rmod (a + b) c) 3)]) rfl rfl (by kernel_rfl) (by kernel_rfl) (by kernel_rfl) (fun _ _ _ h => h) (Or.inl ⟨by rfl, fun W hW => ?_⟩) hH ?_
            · clear hW hH
              go_simp
            simp only [Act.put, List.setIfInBounds_toArray, List.set_cons_zero, List.set_cons_succ]
            obtain ⟨e0, e1, e2, e3, e4, e5, e6, e7, ef⟩ := id R5
            have ef0 := ef 0 (by decide); have ef1 := ef 1 (by decide); have ef2 := ef 2 (by decide); have ef3 := ef 3 (by decide); have ef4 := ef 4 (by decide); have ef5 := ef 5 (by decide); have ef6 := ef 6 (by decide); have ef7 := ef 7 (by decide)
            clear ef
            have ho : Only Wq72 ((((((((Wq72.setCell ⟨Wq67.heap.size, 0, none⟩ (.int .u64 (lim ((a + b) / c) 0))).setCell ⟨Wq67.heap.size, 1, none⟩ (.int .u64 (lim ((a + b) / c) 1))).setCell ⟨Wq67.heap.size, 2, none⟩ (.int .u64 (lim ((a + b) / c) 2))).setCell ⟨Wq67.heap.size, 3, none⟩ (.int .u64 (lim ((a + b) / c) 3))).setCell ⟨Wq67.heap.size, 4, none⟩ (.int .u64 (lim ((a + b) / c) 4))).setCell ⟨Wq67.heap.size, 5, none⟩ (.int .u64 (lim ((a + b) / c) 5))).setCell ⟨Wq67.heap.size, 6, none⟩ (.int .u64 (lim ((a + b) / c) 6))).setCell ⟨Wq67.heap.size, 7, none⟩ (.int .u64 (lim ((a + b) / c) 7))) (Wq67.heap.size) 0 8 := ((((((((Only.refl _ _ _ _).setCell _ _ (by omega) (by omega)).setCell _ _ (by omega) (by omega)).setCell _ _ (by omega) (by omega)).setCell _ _ (by omega) (by omega)).setCell _ _ (by omega) (by omega)).setCell _ _ (by omega) (by omega)).setCell _ _ (by omega) (by omega)).setCell _ _ (by omega) (by omega)
            replace R5 := ((((((((R5.put0 (lim ((a + b) / c) 0)).put1 (lim ((a + b) / c) 1)).put2 (lim ((a + b) / c) 2)).put3 (lim ((a + b) / c) 3)).put4 (lim ((a + b) / c) 4)).put5 (lim ((a + b) / c) 5)).put6 (lim ((a + b) / c) 6)).put7 (lim ((a + b) / c) 7))
            replace R6 := R6.only ho (by omega)
            have hB9 := hH.trans (ho.below (by omega))
            have hz9 := Nat.le_of_eq ho.size.symm
            clear ho
            refine wpAnyH_ready (rs := [13]) (by kernel_rfl) (by simp) ?_
            refine AllReadyH.cons rfl (fun K hK => ?_) AllReadyH.nil
            go_simp
            refine hK.out _ _ hB9 (fun hH => ?_)
            clear hK K e0 e1 e2 e3 e4 e5 e6 e7 ef0 ef1 ef2 ef3 ef4 ef5 ef6 ef7 hB9
            generalize ((((((((Wq72.setCell ⟨Wq67.heap.size, 0, none⟩ (.int .u64 (lim ((a + b) / c) 0))).setCell ⟨Wq67.heap.size, 1, none⟩ (.int .u64 (lim ((a + b) / c) 1))).setCell ⟨Wq67.heap.size, 2, none⟩ (.int .u64 (lim ((a + b) / c) 2))).setCell ⟨Wq67.heap.size, 3, none⟩ (.int .u64 (lim ((a + b) / c) 3))).setCell ⟨Wq67.heap.size, 4, none⟩ (.int .u64 (lim ((a + b) / c) 4))).setCell ⟨Wq67.heap.size, 5, none⟩ (.int .u64 (lim ((a + b) / c) 5))).setCell ⟨Wq67.heap.size, 6, none⟩ (.int .u64 (lim ((a + b) / c) 6))).setCell ⟨Wq67.heap.size, 7, none⟩ (.int .u64 (lim ((a + b) / c) 7))) = Wx73 at hH R5 R6 hz9 ⊢
            obtain ⟨e0, e1, e2, e3, ef⟩ := id R6
            have ef0 := ef 0 (by decide); have ef1 := ef 1 (by decide); have ef2 := ef 2 (by decide); have ef3 := ef 3 (by decide)
            clear ef
            have ho : Only Wx73 ((((Wx73.setCell ⟨Wa.heap.size, 0, none⟩ (.int .u64 (lim (rmod (a + b) c) 0))).setCell ⟨Wa.heap.size, 1, none⟩ (.int .u64 (lim (rmod (a + b) c) 1))).setCell ⟨Wa.heap.size, 2, none⟩ (.int .u64 (lim (rmod (a + b) c) 2))).setCell ⟨Wa.heap.size, 3, none⟩ (.int .u64 (lim (rmod (a + b) c) 3))) (Wa.heap.size) 0 4 := ((((Only.refl _ _ _ _).setCell _ _ (by omega) (by omega)).setCell _ _ (by omega) (by omega)).setCell _ _ (by omega) (by omega)).setCell _ _ (by omega) (by omega)
            replace R5 := R5.only ho (by omega)
            replace R6 : Row4 ((((Wx73.setCell ⟨Wa.heap.size, 0, none⟩ (.int .u64 (lim (rmod (a + b) c) 0))).setCell ⟨Wa.heap.size, 1, none⟩ (.int .u64 (lim (rmod (a + b) c) 1))).setCell ⟨Wa.heap.size, 2, none⟩ (.int .u64 (lim (rmod (a + b) c) 2))).setCell ⟨Wa.heap.size, 3, none⟩ (.int .u64 (lim (rmod (a + b) c) 3))) (Wa.heap.size) (lim (rmod (a + b) c) 0) (lim (rmod (a + b) c) 1) (lim (rmod (a + b) c) 2) (lim (rmod (a + b) c) 3) := ⟨by simp [go_sem, e0], by simp [go_sem, e1], by simp [go_sem, e2], by simp [go_sem, e3], fun j hj => (ho.frozen j).trans (R6.fz j hj)⟩
            have hB9 := hH.trans (ho.below (by omega))
            clear ho hz9
            refine wpAnyH_ready (rs := [14]) (by kernel_rfl) (by simp) ?_
            refine AllReadyH.cons rfl (fun K hK => ?_) AllReadyH.nil
            go_simp
            refine hK.out _ _ hB9 (fun hH => ?_)
            clear hK K e0 e1 e2 e3 ef0 ef1 ef2 ef3 hB9
            generalize ((((Wx73.setCell ⟨Wa.heap.size, 0, none⟩ (.int .u64 (lim (rmod (a + b) c) 0))).setCell ⟨Wa.heap.size, 1, none⟩ (.int .u64 (lim (rmod (a + b) c) 1))).setCell ⟨Wa.heap.size, 2, none⟩ (.int .u64 (lim (rmod (a + b) c) 2))).setCell ⟨Wa.heap.size, 3, none⟩ (.int .u64 (lim (rmod (a + b) c) 3))) = Wy73 at hH R5 R6 ⊢
            refine wpAnyH_done (by kernel_rfl) ?_ _
            obtain ⟨e0, e1, e2, e3, -⟩ := R6
            obtain ⟨x0, x1, x2, x3, x4, x5, x6, x7⟩ := C2.below hH z4
            clear R5
            go_wp2
            simp [bodyPost, results, Try.results34, go_sem, x0, x1, x2, x3]
            exact set4_below (hB.trans (hH.mono hB.size)) (by omega) _
      · go_simp
        have hbn := below1 Wq66 (.cells #[.int .u64 0, .int .u64 0, .int .u64 0, .int .u64 0, .int .u64 0, .int .u64 0, .int .u64 0, .int .u64 0] 56)
        refine hK.out _ _ (below_over0 hH hbn) (fun hH => ?_)
        replace R6 := R6.below hbn (by omega)
        have R5 := row8_new Wq66 0 0 0 0 0 0 0 0
        have hz74 : Wq66.heap.size + 1 ≤ (Wq66.alloc (.cells #[.int .u64 0, .int .u64 0, .int .u64 0, .int .u64 0, .int .u64 0, .int .u64 0, .int .u64 0, .int .u64 0] 56)).heap.size := by simp
        clear hbn hK K
        generalize Wq66.alloc (.cells #[.int .u64 0, .int .u64 0, .int .u64 0, .int .u64 0, .int .u64 0, .int .u64 0, .int .u64 0, .int .u64 0] 56) = Wn74 at hH hz74 R5 R6 ⊢
        have hw74 := hH.size
        refine wpAnyH_ready (rs := [5]) (by kernel_rfl) (by simp) ?_
        refine (AllReadyH.cons rfl (fun K hK => ?_) AllReadyH.nil)
        · go_simp
          refine (HWI.out _).mono ?_
          rintro e Wq75 ⟨rfl, hbn⟩
          go_wp2_with fail
          refine hK.out _ _ (below_over0 hH hbn) (fun hH => ?_)
          replace R5 := R5.below hbn (by omega)
          replace R6 := R6.below hbn (by omega)
          have hz75 := hbn.size
          clear hbn hK K
          refine wpAnyH_ready (rs := [7]) (by kernel_rfl) (by simp) ?_
          refine (AllReadyH.cons rfl (fun K hK => ?_) AllReadyH.nil)
          · go_simp
            refine (HDV.out _).mono ?_
            rintro e Wq76 ⟨rfl, hbn⟩
            go_wp2_with fail
            refine hK.out _ _ (below_over0 hH hbn) (fun hH => ?_)
            replace R5 := R5.below hbn (by omega)
            replace R6 := R6.below hbn (by omega)
            have hz76 := hbn.size
            clear hbn hK K
            refine take_d (i := 8) (d := some 9) (v := .tuple #[.agg #[.int .u64 (lim ((a + b) / c) 0), .int .u64 (lim ((a + b) / c) 1), .int .u64 (lim ((a + b) / c) 2), .int .u64 (lim ((a + b) / c) 3), .int .u64 (lim ((a + b) / c) 4), .int .u64 (lim ((a + b) / c) 5), .int .u64 (lim ((a + b) / c) 6), .int .u64 (lim ((a + b) / c) 7)], .agg #[.int .u64 (lim (rmod (a + b) c) 0), .int .u64 (lim (rmod (a + b) c) 1), .int .u64 (lim (rmod (a + b) c) 2), .int .u64 (lim (rmod (a + b) c) 3)]]) rfl rfl (by kernel_rfl) (by kernel_rfl) (by kernel_rfl) (fun _ _ _ h => h) (Or.inl ⟨by rfl, fun W hW => ?_⟩) hH ?_
            · clear hW hH
              go_simp
            simp only [Act.put, List.setIfInBounds_toArray, List.set_cons_zero, List.set_cons_succ]
            refine take_d (i := 9) (d := some 18) (v := .agg #[.int .u64 (lim ((a + b) / c) 0), .int .u64 (lim ((a + b) / c) 1), .int .u64 (lim ((a + b) / c) 2), .int .u64 (lim ((a + b) / c) 3), .int .u64 (lim ((a + b) / c) 4), .int .u64 (lim ((a + b) / c) 5), .int .u64 (lim ((a + b) / c) 6), .int .u64 (lim ((a + b) / c) 7)]) rfl rfl (by kernel_rfl) (by kernel_rfl) (by kernel_rfl) (fun _ _ _ h => h) (Or.inl ⟨by rfl, fun W hW => ?_⟩) hH ?_
            · clear hW hH
              go_simp
            simp only [Act.put, List.setIfInBounds_toArray, List.set_cons_zero, List.set_cons_succ]
            refine take_d (i := 10) (d := some 19) (v := .agg #[.int .u64 (lim (rmod (a + b) c) 0), .int .u64 (lim (rmod (a + b) c) 1), .int .u64 (lim (rmod (a + b) c) 2), .int .u64 (lim (rmod (a + b) c) 3)]) rfl rfl (by kernel_rfl) (by kernel_rfl) (by kernel_rfl) (fun _ _ _ h => h) (Or.inl ⟨by rfl, fun W hW => ?_⟩) hH ?_
            · clear hW hH
              go_simp
            simp only [Act.put, List.setIfInBounds_toArray, List.set_cons_zero, List.set_cons_succ]
            obtain ⟨e0, e1, e2, e3, e4, e5, e6, e7, ef⟩ := id R5
            have ef0 := ef 0 (by decide); have ef1 := ef 1 (by decide); have ef2 := ef 2 (by decide); have ef3 := ef 3 (by decide); have ef4 := ef 4 (by decide); have ef5 := ef 5 (by decide); have ef6 := ef 6 (by decide); have ef7 := ef 7 (by decide)
            clear ef
            have ho : Only Wq76 ((((((((Wq76.setCell ⟨Wq66.heap.size, 0, none⟩ (.int .u64 (lim ((a + b) / c) 0))).setCell ⟨Wq66.heap.size, 1, none⟩ (.int .u64 (lim ((a + b) / c) 1))).setCell ⟨Wq66.heap.size, 2, none⟩ (.int .u64 (lim ((a + b) / c) 2))).setCell ⟨Wq66.heap.size, 3, none⟩ (.int .u64 (lim ((a + b) / c) 3))).setCell ⟨Wq66.heap.size, 4, none⟩ (.int .u64 (lim ((a + b) / c) 4))).setCell ⟨Wq66.heap.size, 5, none⟩ (.int .u64 (lim ((a + b) / c) 5))).setCell ⟨Wq66.heap.size, 6, none⟩ (.int .u64 (lim ((a + b) / c) 6))).setCell ⟨Wq66.heap.size, 7, none⟩ (.int .u64 (lim ((a + b) / c) 7))) (Wq66.heap.size) 0 8 := ((((((((Only.refl _ _ _ _).setCell _ _ (by omega) (by omega)).setCell _ _ (by omega) (by omega)).setCell _ _ (by omega) (by omega)).setCell _ _ (by omega) (by omega)).setCell _ _ (by omega) (by omega)).setCell _ _ (by omega) (by omega)).setCell _ _ (by omega) (by omega)).setCell _ _ (by omega) (by omega)
            replace R5 := ((((((((R5.put0 (lim ((a + b) / c) 0)).put1 (lim ((a + b) / c) 1)).put2 (lim ((a + b) / c) 2)).put3 (lim ((a + b) / c) 3)).put4 (lim ((a + b) / c) 4)).put5 (lim ((a + b) / c) 5)).put6 (lim ((a + b) / c) 6)).put7 (lim ((a + b) / c) 7))
            replace R6 := R6.only ho (by omega)
            have hB9 := hH.trans (ho.below (by omega))
            have hz9 := Nat.le_of_eq ho.size.symm
            clear ho
            refine wpAnyH_ready (rs := [13]) (by kernel_rfl) (by simp) ?_
            refine AllReadyH.cons rfl (fun K hK => ?_) AllReadyH.nil
            go_simp
            refine hK.out _ _ hB9 (fun hH => ?_)
            clear hK K e0 e1 e2 e3 e4 e5 e6 e7 ef0 ef1 ef2 ef3 ef4 ef5 ef6 ef7 hB9
            generalize ((((((((Wq76.setCell ⟨Wq66.heap.size, 0, none⟩ (.int .u64 (lim ((a + b) / c) 0))).setCell ⟨Wq66.heap.size, 1, none⟩ (.int .u64 (lim ((a + b) / c) 1))).setCell ⟨Wq66.heap.size, 2, none⟩ (.int .u64 (lim ((a + b) / c) 2))).setCell ⟨Wq66.heap.size, 3, none⟩ (.int .u64 (lim ((a + b) / c) 3))).setCell ⟨Wq66.heap.size, 4, none⟩ (.int .u64 (lim ((a + b) / c) 4))).setCell ⟨Wq66.heap.size, 5, none⟩ (.int .u64 (lim ((a + b) / c) 5))).setCell ⟨Wq66.heap.size, 6, none⟩ (.int .u64 (lim ((a + b) / c) 6))).setCell ⟨Wq66.heap.size, 7, none⟩ (.int .u64 (lim ((a + b) / c) 7))) = Wx77 at hH R5 R6 hz9 ⊢
            obtain ⟨e0, e1, e2, e3, ef⟩ := id R6
            have ef0 := ef 0 (by decide); have ef1 := ef 1 (by decide); have ef2 := ef 2 (by decide); have ef3 := ef 3 (by decide)
            clear ef
            have ho : Only Wx77 ((((Wx77.setCell ⟨Wa.heap.size, 0, none⟩ (.int .u64 (lim (rmod (a + b) c) 0))).setCell ⟨Wa.heap.size, 1, none⟩ (.int .u64 (lim (rmod (a + b) c) 1))).setCell ⟨Wa.heap.size, 2, none⟩ (.int .u64 (lim (rmod (a + b) c) 2))).setCell ⟨Wa.heap.size, 3, none⟩ (.int .u64 (lim (rmod (a + b) c) 3))) (Wa.heap.size) 0 4 := ((((Only.refl _ _ _ _).setCell _ _ (by omega) (by omega)).setCell _ _ (by omega) (by omega)).setCell _ _ (by omega) (by omega)).setCell _ _ (by omega) (by omega)
            replace R5 := R5.only ho (by omega)
            replace R6 : Row4 ((((Wx77.setCell ⟨Wa.heap.size, 0, none⟩ (.int .u64 (lim (rmod (a + b) c) 0))).setCell ⟨Wa.heap.size, 1, none⟩ (.int .u64 (lim (rmod (a + b) c) 1))).setCell ⟨Wa.heap.size, 2, none⟩ (.int .u64 (lim (rmod (a + b) c) 2))).setCell ⟨Wa.heap.size, 3, none⟩ (.int .u64 (lim (rmod (a + b) c) 3))) (Wa.heap.size) (lim (rmod (a + b) c) 0) (lim (rmod (a + b) c) 1) (lim (rmod (a + b) c) 2) (lim (rmod (a + b) c) 3) := ⟨by simp [go_sem, e0], by simp [go_sem, e1], by simp [go_sem, e2], by simp [go_sem, e3], fun j hj => (ho.frozen j).trans (R6.fz j hj)⟩
            have hB9 := hH.trans (ho.below (by omega))
            clear ho hz9
            refine wpAnyH_ready (rs := [14]) (by kernel_rfl) (by simp) ?_
            refine AllReadyH.cons rfl (fun K hK => ?_) AllReadyH.nil
            go_simp
            refine hK.out _ _ hB9 (fun hH => ?_)
            clear hK K e0 e1 e2 e3 ef0 ef1 ef2 ef3 hB9
            generalize ((((Wx77.setCell ⟨Wa.heap.size, 0, none⟩ (.int .u64 (lim (rmod (a + b) c) 0))).setCell ⟨Wa.heap.size, 1, none⟩ (.int .u64 (lim (rmod (a + b) c) 1))).setCell ⟨Wa.heap.size, 2, none⟩ (.int .u64 (lim (rmod (a + b) c) 2))).setCell ⟨Wa.heap.size, 3, none⟩ (.int .u64 (lim (rmod (a + b) c) 3))) = Wy77 at hH R5 R6 ⊢
            refine wpAnyH_done (by kernel_rfl) ?_ _
            obtain ⟨e0, e1, e2, e3, -⟩ := R6
            obtain ⟨x0, x1, x2, x3, x4, x5, x6, x7⟩ := C2.below hH z4
            clear R5
            go_wp2
            simp [bodyPost, results, Try.results34, go_sem, x0, x1, x2, x3]
            exact set4_below (hB.trans (hH.mono hB.size)) (by omega) _
    · go_simp
      have hbn := below1 Wn65 (.cells #[.int .u64 0, .int .u64 0, .int .u64 0, .int .u64 0, .int .u64 0, .int .u64 0, .int .u64 0, .int .u64 0] 56)
      refine hK.out _ _ (below_over0 hH hbn) (fun hH => ?_)
      replace R6 := R6.below hbn (by omega)
      have R5 := row8_new Wn65 0 0 0 0 0 0 0 0
      have hz78 : Wn65.heap.size + 1 ≤ (Wn65.alloc (.cells #[.int .u64 0, .int .u64 0, .int .u64 0, .int .u64 0, .int .u64 0, .int .u64 0, .int .u64 0, .int .u64 0] 56)).heap.size := by simp
      clear hbn hK K
      generalize Wn65.alloc (.cells #[.int .u64 0, .int .u64 0, .int .u64 0, .int .u64 0, .int .u64 0, .int .u64 0, .int .u64 0, .int .u64 0] 56) = Wn78 at hH hz78 R5 R6 ⊢
      have hw78 := hH.size
      refine wpAnyH_ready (rs := [2]) (by kernel_rfl) (by simp) ?_
      refine (AllReadyH.cons rfl (fun K hK => ?_) AllReadyH.nil)
      · go_simp
        refine (HSU.out _).mono ?_
        rintro e Wq79 ⟨rfl, hbn⟩
        go_wp2_with fail
        refine hK.out _ _ (below_over0 hH hbn) (fun hH => ?_)
        replace R5 := R5.below hbn (by omega)
        replace R6 := R6.below hbn (by omega)
        have hz79 := hbn.size
        clear hbn hK K
        refine take_d (i := 3) (d := some 13) (v := .agg #[.int .u64 (lim ((a + b) % M) 0), .int .u64 (lim ((a + b) % M) 1), .int .u64 (lim ((a + b) % M) 2), .int .u64 (lim ((a + b) % M) 3)]) rfl rfl (by kernel_rfl) (by kernel_rfl) (by kernel_rfl) (fun _ _ _ h => h) (Or.inl ⟨by rfl, fun W hW => ?_⟩) hH ?_
        · clear hW hH
          go_simp
        simp only [Act.put, List.setIfInBounds_toArray, List.set_cons_zero, List.set_cons_succ]
        refine take_d (i := 4) (d := some 14) (v := .int .u64 (((a + b) / M : Nat) : Int)) rfl rfl (by kernel_rfl) (by kernel_rfl) (by kernel_rfl) (fun _ _ _ h => h) (Or.inl ⟨by rfl, fun W hW => ?_⟩) hH ?_
        · clear hW hH
          go_simp
        simp only [Act.put, List.setIfInBounds_toArray, List.set_cons_zero, List.set_cons_succ]
        refine wpAnyH_ready (rs := [5]) (by kernel_rfl) (by simp) ?_
        refine (AllReadyH.cons rfl (fun K hK => ?_) AllReadyH.nil)
        · go_simp
          refine (HWI.out _).mono ?_
          rintro e Wq80 ⟨rfl, hbn⟩
          go_wp2_with fail
          refine hK.out _ _ (below_over0 hH hbn) (fun hH => ?_)
          replace R5 := R5.below hbn (by omega)
          replace R6 := R6.below hbn (by omega)
          have hz80 := hbn.size
          clear hbn hK K
          refine wpAnyH_ready (rs := [7]) (by kernel_rfl) (by simp) ?_
          refine (AllReadyH.cons rfl (fun K hK => ?_) AllReadyH.nil)
          · go_simp
            refine (HDV.out _).mono ?_
            rintro e Wq81 ⟨rfl, hbn⟩
            go_wp2_with fail
            refine hK.out _ _ (below_over0 hH hbn) (fun hH => ?_)
            replace R5 := R5.below hbn (by omega)
            replace R6 := R6.below hbn (by omega)
            have hz81 := hbn.size
            clear hbn hK K
            refine take_d (i := 8) (d := some 9) (v := .tuple #[.agg #[.int .u64 (lim ((a + b) / c) 0), .int .u64 (lim ((a + b) / c) 1), .int .u64 (lim ((a + b) / c) 2), .int .u64 (lim ((a + b) / c) 3), .int .u64 (lim ((a + b) / c) 4), .int .u64 (lim ((a + b) / c) 5), .int .u64 (lim ((a + b) / c) 6), .int .u64 (lim ((a + b) / c) 7)], .agg #[.int .u64 (lim (rmod (a + b) c) 0), .int .u64 (lim (rmod (a + b) c) 1), .int .u64 (lim (rmod (a + b) c) 2), .int .u64 (lim (rmod (a + b) c) 3)]]) rfl rfl (by kernel_rfl) (by kernel_rfl) (by kernel_rfl) (fun _ _ _ h => h) (Or.inl ⟨by rfl, fun W hW => ?_⟩) hH ?_
            · clear hW hH
              go_simp
            simp only [Act.put, List.setIfInBounds_toArray, List.set_cons_zero, List.set_cons_succ]
            refine take_d (i := 9) (d := some 18) (v := .agg #[.int .u64 (lim ((a + b) / c) 0), .int .u64 (lim ((a + b) / c) 1), .int .u64 (lim ((a + b) / c) 2), .int .u64 (lim ((a + b) / c) 3), .int .u64 (lim ((a + b) / c) 4), .int .u64 (lim ((a + b) / c) 5), .int .u64 (lim ((a + b) / c) 6), .int .u64 (lim ((a + b) / c) 7)]) rfl rfl (by kernel_rfl) (by kernel_rfl) (by kernel_rfl) (fun _ _ _ h => h) (Or.inl ⟨by rfl, fun W hW => ?_⟩) hH ?_
            · clear hW hH
              go_simp
            simp only [Act.put, List.setIfInBounds_toArray, List.set_cons_zero, List.set_cons_succ]
            refine take_d (i := 10) (d := some 19) (v := .agg #[.int .u64 (lim (rmod (a + b) c) 0), .int .u64 (lim (rmod (a + b) c) 1), .int .u64 (lim (rmod (a + b) c) 2), .int .u64 (lim (rmod (a + b) c) 3)]) rfl rfl (by kernel_rfl) (by kernel_rfl) (by kernel_rfl) (fun _ _ _ h => h) (Or.inl ⟨by rfl, fun W hW => ?_⟩) hH ?_
            · clear hW hH
              go_simp
            simp only [Act.put, List.setIfInBounds_toArray, List.set_cons_zero, List.set_cons_succ]
            obtain ⟨e0, e1, e2, e3, e4, e5, e6, e7, ef⟩ := id R5
            have ef0 := ef 0 (by decide); have ef1 := ef 1 (by decide); have ef2 := ef 2 (by decide); have ef3 := ef 3 (by decide); have ef4 := ef 4 (by decide); have ef5 := ef 5 (by decide); have ef6 := ef 6 (by decide); have ef7 := ef 7 (by decide)
            clear ef
            have ho : Only Wq81 ((((((((Wq81.setCell ⟨Wn65.heap.size, 0, none⟩ (.int .u64 (lim ((a + b) / c) 0))).setCell ⟨Wn65.heap.size, 1, none⟩ (.int .u64 (lim ((a + b) / c) 1))).setCell ⟨Wn65.heap.size, 2, none⟩ (.int .u64 (lim ((a + b) / c) 2))).setCell ⟨Wn65.heap.size, 3, none⟩ (.int .u64 (lim ((a + b) / c) 3))).setCell ⟨Wn65.heap.size, 4, none⟩ (.int .u64 (lim ((a + b) / c) 4))).setCell ⟨Wn65.heap.size, 5, none⟩ (.int .u64 (lim ((a + b) / c) 5))).setCell ⟨Wn65.heap.size, 6, none⟩ (.int .u64 (lim ((a + b) / c) 6))).setCell ⟨Wn65.heap.size, 7, none⟩ (.int .u64 (lim ((a + b) / c) 7))) (Wn65.heap.size) 0 8 := ((((((((Only.refl _ _ _ _).setCell _ _ (by omega) (by omega)).setCell _ _ (by omega) (by omega)).setCell _ _ (by omega) (by omega)).setCell _ _ (by omega) (by omega)).setCell _ _ (by omega) (by omega)).setCell _ _ (by omega) (by omega)).setCell _ _ (by omega) (by omega)).setCell _ _ (by omega) (by omega)
            replace R5 := ((((((((R5.put0 (lim ((a + b) / c) 0)).put1 (lim ((a + b) / c) 1)).put2 (lim ((a + b) / c) 2)).put3 (lim ((a + b) / c) 3)).put4 (lim ((a + b) / c) 4)).put5 (lim ((a + b) / c) 5)).put6 (lim ((a + b) / c) 6)).put7 (lim ((a + b) / c) 7))
            replace R6 := R6.only ho (by omega)
            have hB9 := hH.trans (ho.below (by omega))
            have hz9 := Nat.le_of_eq ho.size.symm
            clear ho
            refine wpAnyH_ready (rs := [13]) (by kernel_rfl) (by simp) ?_
            refine AllReadyH.cons rfl (fun K hK => ?_) AllReadyH.nil
            go_simp
            refine hK.out _ _ hB9 (fun hH => ?_)
            clear hK K e0 e1 e2 e3 e4 e5 e6 e7 ef0 ef1 ef2 ef3 ef4 ef5 ef6 ef7 hB9
            generalize ((((((((Wq81.setCell ⟨Wn65.heap.size, 0, none⟩ (.int .u64 (lim ((a + b) / c) 0))).setCell ⟨Wn65.heap.size, 1, none⟩ (.int .u64 (lim ((a + b) / c) 1))).setCell ⟨Wn65.heap.size, 2, none⟩ (.int .u64 (lim ((a + b) / c) 2))).setCell ⟨Wn65.heap.size, 3, none⟩ (.int .u64 (lim ((a + b) / c) 3))).setCell ⟨Wn65.heap.size, 4, none⟩ (.int .u64 (lim ((a + b) / c) 4))).setCell ⟨Wn65.heap.size, 5, none⟩ (.int .u64 (lim ((a + b) / c) 5))).setCell ⟨Wn65.heap.size, 6, none⟩ (.int .u64 (lim ((a + b) / c) 6))).setCell ⟨Wn65.heap.size, 7, none⟩ (.int .u64 (lim ((a + b) / c) 7))) = Wx82 at hH R5 R6 hz9 ⊢
            obtain ⟨e0, e1, e2, e3, ef⟩ := id R6
            have ef0 := ef 0 (by decide); have ef1 := ef 1 (by decide); have ef2 := ef 2 (by decide); have ef3 := ef 3 (by decide)
            clear ef
            have ho : Only Wx82 ((((Wx82.setCell ⟨Wa.heap.size, 0, none⟩ (.int .u64 (lim (rmod (a + b) c) 0))).setCell ⟨Wa.heap.size, 1, none⟩ (.int .u64 (lim (rmod (a + b) c) 1))).setCell ⟨Wa.heap.size, 2, none⟩ (.int .u64 (lim (rmod (a + b) c) 2))).setCell ⟨Wa.heap.size, 3, none⟩ (.int .u64 (lim (rmod (a + b) c) 3))) (Wa.heap.size) 0 4 := ((((Only.refl _ _ _ _).setCell _ _ (by omega) (by omega)).setCell _ _ (by omega) (by omega)).setCell _ _ (by omega) (by omega)).setCell _ _ (by omega) (by omega)
            replace R5 := R5.only ho (by omega)
            replace R6 : Row4 ((((Wx82.setCell ⟨Wa.heap.size, 0, none⟩ (.int .u64 (lim (rmod (a + b) c) 0))).setCell ⟨Wa.heap.size, 1, none⟩ (.int .u64 (lim (rmod (a + b) c) 1))).setCell ⟨Wa.heap.size, 2, none⟩ (.int .u64 (lim (rmod (a + b) c) 2))).setCell ⟨Wa.heap.size, 3, none⟩ (.int .u64 (lim (rmod (a + b) c) 3))) (Wa.heap.size) (lim (rmod (a + b) c) 0) (lim (rmod (a + b) c) 1) (lim (rmod (a + b) c) 2) (lim (rmod (a + b) c) 3) := ⟨by simp [go_sem, e0], by simp [go_sem, e1], by simp [go_sem, e2], by simp [go_sem, e3], fun j hj => (ho.frozen j).trans (R6.fz j hj)⟩
            have hB9 := hH.trans (ho.below (by omega))
            clear ho hz9
            refine wpAnyH_ready (rs := [14]) (by kernel_rfl) (by simp) ?_
            refine AllReadyH.cons rfl (fun K hK => ?_) AllReadyH.nil
            go_simp
            refine hK.out _ _ hB9 (fun hH => ?_)
            clear hK K e0 e1 e2 e3 ef0 ef1 ef2 ef3 hB9
            generalize ((((Wx82.setCell ⟨Wa.heap.size, 0, none⟩ (.int .u64 (lim (rmod (a + b) c) 0))).setCell ⟨Wa.heap.size, 1, none⟩ (.int .u64 (lim (rmod (a + b) c) 1))).setCell ⟨Wa.heap.size, 2, none⟩ (.int .u64 (lim (rmod (a + b) c) 2))).setCell ⟨Wa.heap.size, 3, none⟩ (.int .u64 (lim (rmod (a + b) c) 3))) = Wy82 at hH R5 R6 ⊢
            refine wpAnyH_done (by kernel_rfl) ?_ _
            obtain ⟨e0, e1, e2, e3, -⟩ := R6
            obtain ⟨x0, x1, x2, x3, x4, x5, x6, x7⟩ := C2.below hH z4
            clear R5
            go_wp2
            simp [bodyPost, results, Try.results34, go_sem, x0, x1, x2, x3]
            exact set4_below (hB.trans (hH.mono hB.size)) (by omega) _

end Go.Proofs.Ytmkfjmidlllnlaa
