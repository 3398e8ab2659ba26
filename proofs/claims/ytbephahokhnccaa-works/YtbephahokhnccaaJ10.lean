/-
  number.ones at 8, Extend at byte 0, Byte at 31: what they return.
  Plain arithmetic of comparing and of bits, as the law Orders asks it; keep.work at Extend and Byte.
-/
import Derived.Test.YtbephahokhnccaaWork
import Derived.Test.YtbephahokhnccaaJ3
import Derived.Test.YtbephahokhnccaaJ15
import Derived.Test.YtbephahokhnccaaHeld
import Derived.Test.YtbephahokhnccaaRw
import Derived.Test.YtbephahokhnccaaDm
import Derived.Deep.RegionHeld3
import Derived.Deep.CutRange
namespace Go.Proofs.Ytbephahokhnccaa
open Go.RowKit Go.Shelf
attribute [local go_sem] wd

theorem and255 (x : Int) (h0 : 0 ≤ x) (h1 : x < 18446744073709551616) : bits .and .u64 x 255 = x % 256 := by
  obtain ⟨x, rfl⟩ := Int.eq_ofNat_of_zero_le h0
  have h := bits_and_u64_nat x 255 (by omega) (by decide)
  have e : x &&& 255 = x % 256 := Nat.and_two_pow_sub_one_eq_mod x 8
  rw [e] at h
  exact h

set_option maxHeartbeats 1000000 in
theorem ones_8 (w : World) : Calls Try.prog 66 #[.int .i64 8] w fun e w' => e = .returned (wd 255) ∧ Below w.heap.size w w' := by
  have HC : ∀ w : World, Calls Try.prog 28 #[.agg #[.int .u64 256, .int .u64 0, .int .u64 0, .int .u64 0], .agg #[.int .u64 1, .int .u64 0, .int .u64 0, .int .u64 0]] w fun e w' => e = .returned (wd 255) ∧ Below w.heap.size w w' := (fun w => sub 256 1 (by decide) (by decide) w)
  go_enter Try.func66, Try.ntmps66
  go_wp2_with fail
  refine (HC _).mono ?_
  rintro e w1 ⟨rfl, hb1⟩
  obtain ⟨hc, hf⟩ := bcell hb1
  have hz : w.heap.size + 1 < w1.heap.size := by have := hb1.size; simp at this; omega
  have hB : Below w.heap.size w w1 := Below.over (((Below.refl _ _).alloc (Nat.le_refl _) _).alloc (by simp) _) hb1
  have hc2 := fun i => hc w.heap.size i (by simp; omega)
  have hf2 := fun i => hf w.heap.size i (by simp; omega)
  clear hb1 hc hf
  go_wp2
  simp [bodyPost, results, Try.results66, go_sem, hc2]
  exact set4_below (b := w.heap.size) hB (Nat.le_refl _) _

set_option maxHeartbeats 2000000 in
theorem byte_31_l (b : Nat) (w : World) :
    Calls Try.prog 45 #[wd 31, wd b] w fun e w' => e = .returned (.agg #[.int .u64 (bits .and .u64 (lim b 0) 255), .int .u64 0, .int .u64 0, .int .u64 0]) ∧ Below w.heap.size w w' := by
  have HL : ∀ w : World, Calls Try.prog 39 #[.agg #[.int .u64 31, .int .u64 0, .int .u64 0, .int .u64 0], .agg #[.int .u64 32, .int .u64 0, .int .u64 0, .int .u64 0]] w fun e w' => e = .returned (.bool true) ∧ Below w.heap.size w w' := fun w => less 31 32 (by decide) (by decide) w
  change Calls Try.prog 45 #[.agg #[.int .u64 31, .int .u64 0, .int .u64 0, .int .u64 0], wd b] w _
  go_enter Try.func45, Try.ntmps45
  go_wp2_with fail
  refine (HL _).mono ?_
  rintro e w1 ⟨rfl, hb1⟩
  obtain ⟨hc, hf⟩ := bcell hb1
  have q0 : w1.cell? ⟨w.heap.size, 0, none⟩ = some (.int .u64 31) := (hc w.heap.size _ (by simp <;> omega)).trans (by simp [go_sem])
  have Cb : Cells4 w1 (w.heap.size + 1) b := ⟨(hc (w.heap.size + 1) _ (by simp <;> omega)).trans (by simp [go_sem]), (hc (w.heap.size + 1) _ (by simp <;> omega)).trans (by simp [go_sem]), (hc (w.heap.size + 1) _ (by simp <;> omega)).trans (by simp [go_sem]), (hc (w.heap.size + 1) _ (by simp <;> omega)).trans (by simp [go_sem]), (hf (w.heap.size + 1) _ (by simp <;> omega)).trans (by simp [go_sem]), (hf (w.heap.size + 1) _ (by simp <;> omega)).trans (by simp [go_sem]), (hf (w.heap.size + 1) _ (by simp <;> omega)).trans (by simp [go_sem]), (hf (w.heap.size + 1) _ (by simp <;> omega)).trans (by simp [go_sem])⟩
  have Cr : Cells4 w1 (w.heap.size + 1 + 1) 0 := ⟨(hc (w.heap.size + 1 + 1) _ (by simp <;> omega)).trans (by simp [go_sem, lim_z]), (hc (w.heap.size + 1 + 1) _ (by simp <;> omega)).trans (by simp [go_sem, lim_z]), (hc (w.heap.size + 1 + 1) _ (by simp <;> omega)).trans (by simp [go_sem, lim_z]), (hc (w.heap.size + 1 + 1) _ (by simp <;> omega)).trans (by simp [go_sem, lim_z]), (hf (w.heap.size + 1 + 1) _ (by simp <;> omega)).trans (by simp [go_sem]), (hf (w.heap.size + 1 + 1) _ (by simp <;> omega)).trans (by simp [go_sem]), (hf (w.heap.size + 1 + 1) _ (by simp <;> omega)).trans (by simp [go_sem]), (hf (w.heap.size + 1 + 1) _ (by simp <;> omega)).trans (by simp [go_sem])⟩
  have hB : Below w.heap.size w w1 := Below.over (below3 w _ _ _) hb1
  clear hb1 hc hf HL
  obtain ⟨c0, c1, c2, c3, f0, f1, f2, f3⟩ := id Cb
  obtain ⟨x0, x1, x2, x3, x4, x5, x6, x7⟩ := id Cr
  go_wp2
  have hle : w.heap.size ≤ w.heap.size + 1 + 1 := by omega
  simp [bodyPost, results, Try.results45, go_sem, x0, x1, x2, x3]
  exact (((hB.setCell (p := ⟨w.heap.size + 1 + 1, 0, none⟩) hle _).setCell (p := ⟨w.heap.size + 1 + 1, 1, none⟩) hle _).setCell (p := ⟨w.heap.size + 1 + 1, 2, none⟩) hle _).setCell (p := ⟨w.heap.size + 1 + 1, 3, none⟩) hle _
theorem byte_31 (b : Nat) (w : World) : Calls Try.prog 45 #[wd 31, wd b] w fun e w' => e = .returned (wd (b / 1 % 256)) ∧ Below w.heap.size w w' := by
  refine (byte_31_l b w).mono fun e w' ⟨he, hb'⟩ => ⟨?_, hb'⟩
  have hv : b / 1 % 256 < 18446744073709551616 := Nat.lt_of_lt_of_le (Nat.mod_lt _ (by decide)) (by decide)
  obtain ⟨v0, v1, v2, v3⟩ := lim_small _ hv
  have hq : lim b 0 % 256 = ((b / 1 % 256 : Nat) : Int) := by
    unfold lim
    simp only [Nat.pow_zero, Nat.div_one]
    omega
  rw [he, and255 _ (lim_nn _ _) (lim_lt _ _), hq]
  unfold wd
  rw [v0, v1, v2, v3]

set_option maxHeartbeats 2000000 in
theorem ext_0_f (b : Nat) (hbit : b.testBit 7 = false) (w : World) :
    Calls Try.prog 37 #[wd 0, wd b] w fun e w' => e = .returned (wd (b &&& 255)) ∧ Below w.heap.size w w' := by
  have HL : ∀ w : World, Calls Try.prog 39 #[.agg #[.int .u64 0, .int .u64 0, .int .u64 0, .int .u64 0], .agg #[.int .u64 31, .int .u64 0, .int .u64 0, .int .u64 0]] w fun e w' => e = .returned (.bool true) ∧ Below w.heap.size w w' := fun w => less 0 31 (by decide) (by decide) w
  have HT : ∀ w : World, Calls Try.prog 65 #[wd b, .int .i64 7] w fun e w' => e = .returned (.bool false) ∧ Below w.heap.size w w' := fun w => by
    have h := bit b 7 (by decide) w
    rw [hbit] at h
    exact h
  clear hbit
  change Calls Try.prog 37 #[.agg #[.int .u64 0, .int .u64 0, .int .u64 0, .int .u64 0], wd b] w _
  go_enter Try.func37, Try.ntmps37
  go_wp2_with fail
  refine (HL _).mono ?_
  rintro e w1 ⟨rfl, hb1⟩
  obtain ⟨hc, hf⟩ := bcell hb1
  have q0 : w1.cell? ⟨w.heap.size, 0, none⟩ = some (.int .u64 0) := (hc w.heap.size _ (by simp <;> omega)).trans (by simp [go_sem])
  have Cb : Cells4 w1 (w.heap.size + 1) b := ⟨(hc (w.heap.size + 1) _ (by simp <;> omega)).trans (by simp [go_sem]), (hc (w.heap.size + 1) _ (by simp <;> omega)).trans (by simp [go_sem]), (hc (w.heap.size + 1) _ (by simp <;> omega)).trans (by simp [go_sem]), (hc (w.heap.size + 1) _ (by simp <;> omega)).trans (by simp [go_sem]), (hf (w.heap.size + 1) _ (by simp <;> omega)).trans (by simp [go_sem]), (hf (w.heap.size + 1) _ (by simp <;> omega)).trans (by simp [go_sem]), (hf (w.heap.size + 1) _ (by simp <;> omega)).trans (by simp [go_sem]), (hf (w.heap.size + 1) _ (by simp <;> omega)).trans (by simp [go_sem])⟩
  have Cr : Cells4 w1 (w.heap.size + 1 + 1) 0 := ⟨(hc (w.heap.size + 1 + 1) _ (by simp <;> omega)).trans (by simp [go_sem, lim_z]), (hc (w.heap.size + 1 + 1) _ (by simp <;> omega)).trans (by simp [go_sem, lim_z]), (hc (w.heap.size + 1 + 1) _ (by simp <;> omega)).trans (by simp [go_sem, lim_z]), (hc (w.heap.size + 1 + 1) _ (by simp <;> omega)).trans (by simp [go_sem, lim_z]), (hf (w.heap.size + 1 + 1) _ (by simp <;> omega)).trans (by simp [go_sem]), (hf (w.heap.size + 1 + 1) _ (by simp <;> omega)).trans (by simp [go_sem]), (hf (w.heap.size + 1 + 1) _ (by simp <;> omega)).trans (by simp [go_sem]), (hf (w.heap.size + 1 + 1) _ (by simp <;> omega)).trans (by simp [go_sem])⟩
  have hB : Below w.heap.size w w1 := Below.over (below3 w _ _ _) hb1
  have hz : w.heap.size + 1 + 1 < w1.heap.size := by have := hb1.size; simp at this; omega
  clear hb1 hc hf HL
  go_wp2_with fail
  refine (ones_8 _).mono ?_
  rintro e w2 ⟨rfl, hb2⟩
  replace Cb := Cb.below hb2 (by omega)
  replace Cr := Cr.below hb2 hz
  replace hz : w.heap.size + 1 + 1 < w2.heap.size := Nat.lt_of_lt_of_le hz hb2.size
  replace hB := Below.over hB hb2
  clear hb2 q0
  have hz2 : w2.heap.size < (w2.alloc (.cells #[.int .u64 (lim 255 0), .int .u64 (lim 255 1), .int .u64 (lim 255 2), .int .u64 (lim 255 3)] 24)).heap.size := by simp
  have Cl : Cells4 (w2.alloc (.cells #[.int .u64 (lim 255 0), .int .u64 (lim 255 1), .int .u64 (lim 255 2), .int .u64 (lim 255 3)] 24)) w2.heap.size 255 := ⟨by simp [go_sem], by simp [go_sem], by simp [go_sem], by simp [go_sem], by simp [go_sem], by simp [go_sem], by simp [go_sem], by simp [go_sem]⟩
  have hba := below1 w2 (.cells #[.int .u64 (lim 255 0), .int .u64 (lim 255 1), .int .u64 (lim 255 2), .int .u64 (lim 255 3)] 24)
  replace Cb := Cb.below hba (by omega)
  replace Cr := Cr.below hba hz
  replace hB := Below.over hB hba
  clear hba
  go_upto_region 5 with fail
  generalize w2.alloc (.cells #[.int .u64 (lim 255 0), .int .u64 (lim 255 1), .int .u64 (lim 255 2), .int .u64 (lim 255 3)] 24) = wA at *
  obtain ⟨c0, c1, c2, c3, f0, f1, f2, f3⟩ := id Cb
  go_wp2_with fail
  clear c0 c1 c2 c3 f0 f1 f2 f3
  refine (HT _).mono ?_
  rintro e w3 ⟨rfl, hb3⟩
  replace Cb := Cb.below hb3 (by omega)
  replace Cr := Cr.below hb3 (by omega)
  replace Cl := Cl.below hb3 (by omega)
  replace hz2 : w2.heap.size < w3.heap.size := Nat.lt_of_lt_of_le hz2 hb3.size
  replace hB := Below.over hB hb3
  clear hb3 HT
  obtain ⟨c0, c1, c2, c3, -, -, -, -⟩ := id Cb
  obtain ⟨l0, l1, l2, l3, -, -, -, -⟩ := id Cl
  go_wp2_with fail
  clear c0 c1 c2 c3 l0 l1 l2 l3
  refine (and_ b 255 _).mono ?_
  rintro e w4 ⟨rfl, hb4⟩
  obtain ⟨x0, x1, x2, x3, x4, x5, x6, x7⟩ := Cr.below hb4 (by omega)
  replace hB := Below.over hB hb4
  clear hb4 Cb Cr Cl
  go_wp2
  simp [bodyPost, results, Try.results37, go_sem, x0, x1, x2, x3]
  exact set4_below hB (by omega) _

set_option maxHeartbeats 2000000 in
theorem ext_0_t (b : Nat) (hbit : b.testBit 7 = true) (w : World) :
    Calls Try.prog 37 #[wd 0, wd b] w fun e w' => e = .returned (wd (b ||| (M - 1 - 255))) ∧ Below w.heap.size w w' := by
  have HL : ∀ w : World, Calls Try.prog 39 #[.agg #[.int .u64 0, .int .u64 0, .int .u64 0, .int .u64 0], .agg #[.int .u64 31, .int .u64 0, .int .u64 0, .int .u64 0]] w fun e w' => e = .returned (.bool true) ∧ Below w.heap.size w w' := fun w => less 0 31 (by decide) (by decide) w
  have HT : ∀ w : World, Calls Try.prog 65 #[wd b, .int .i64 7] w fun e w' => e = .returned (.bool true) ∧ Below w.heap.size w w' := fun w => by
    have h := bit b 7 (by decide) w
    rw [hbit] at h
    exact h
  clear hbit
  change Calls Try.prog 37 #[.agg #[.int .u64 0, .int .u64 0, .int .u64 0, .int .u64 0], wd b] w _
  go_enter Try.func37, Try.ntmps37
  go_wp2_with fail
  refine (HL _).mono ?_
  rintro e w1 ⟨rfl, hb1⟩
  obtain ⟨hc, hf⟩ := bcell hb1
  have q0 : w1.cell? ⟨w.heap.size, 0, none⟩ = some (.int .u64 0) := (hc w.heap.size _ (by simp <;> omega)).trans (by simp [go_sem])
  have Cb : Cells4 w1 (w.heap.size + 1) b := ⟨(hc (w.heap.size + 1) _ (by simp <;> omega)).trans (by simp [go_sem]), (hc (w.heap.size + 1) _ (by simp <;> omega)).trans (by simp [go_sem]), (hc (w.heap.size + 1) _ (by simp <;> omega)).trans (by simp [go_sem]), (hc (w.heap.size + 1) _ (by simp <;> omega)).trans (by simp [go_sem]), (hf (w.heap.size + 1) _ (by simp <;> omega)).trans (by simp [go_sem]), (hf (w.heap.size + 1) _ (by simp <;> omega)).trans (by simp [go_sem]), (hf (w.heap.size + 1) _ (by simp <;> omega)).trans (by simp [go_sem]), (hf (w.heap.size + 1) _ (by simp <;> omega)).trans (by simp [go_sem])⟩
  have Cr : Cells4 w1 (w.heap.size + 1 + 1) 0 := ⟨(hc (w.heap.size + 1 + 1) _ (by simp <;> omega)).trans (by simp [go_sem, lim_z]), (hc (w.heap.size + 1 + 1) _ (by simp <;> omega)).trans (by simp [go_sem, lim_z]), (hc (w.heap.size + 1 + 1) _ (by simp <;> omega)).trans (by simp [go_sem, lim_z]), (hc (w.heap.size + 1 + 1) _ (by simp <;> omega)).trans (by simp [go_sem, lim_z]), (hf (w.heap.size + 1 + 1) _ (by simp <;> omega)).trans (by simp [go_sem]), (hf (w.heap.size + 1 + 1) _ (by simp <;> omega)).trans (by simp [go_sem]), (hf (w.heap.size + 1 + 1) _ (by simp <;> omega)).trans (by simp [go_sem]), (hf (w.heap.size + 1 + 1) _ (by simp <;> omega)).trans (by simp [go_sem])⟩
  have hB : Below w.heap.size w w1 := Below.over (below3 w _ _ _) hb1
  have hz : w.heap.size + 1 + 1 < w1.heap.size := by have := hb1.size; simp at this; omega
  clear hb1 hc hf HL
  go_wp2_with fail
  refine (ones_8 _).mono ?_
  rintro e w2 ⟨rfl, hb2⟩
  replace Cb := Cb.below hb2 (by omega)
  replace Cr := Cr.below hb2 hz
  replace hz : w.heap.size + 1 + 1 < w2.heap.size := Nat.lt_of_lt_of_le hz hb2.size
  replace hB := Below.over hB hb2
  clear hb2 q0
  have hz2 : w2.heap.size < (w2.alloc (.cells #[.int .u64 (lim 255 0), .int .u64 (lim 255 1), .int .u64 (lim 255 2), .int .u64 (lim 255 3)] 24)).heap.size := by simp
  have Cl : Cells4 (w2.alloc (.cells #[.int .u64 (lim 255 0), .int .u64 (lim 255 1), .int .u64 (lim 255 2), .int .u64 (lim 255 3)] 24)) w2.heap.size 255 := ⟨by simp [go_sem], by simp [go_sem], by simp [go_sem], by simp [go_sem], by simp [go_sem], by simp [go_sem], by simp [go_sem], by simp [go_sem]⟩
  have hba := below1 w2 (.cells #[.int .u64 (lim 255 0), .int .u64 (lim 255 1), .int .u64 (lim 255 2), .int .u64 (lim 255 3)] 24)
  replace Cb := Cb.below hba (by omega)
  replace Cr := Cr.below hba hz
  replace hB := Below.over hB hba
  clear hba
  go_upto_region 5 with fail
  generalize w2.alloc (.cells #[.int .u64 (lim 255 0), .int .u64 (lim 255 1), .int .u64 (lim 255 2), .int .u64 (lim 255 3)] 24) = wA at *
  obtain ⟨c0, c1, c2, c3, f0, f1, f2, f3⟩ := id Cb
  go_wp2_with fail
  clear c0 c1 c2 c3 f0 f1 f2 f3
  refine (HT _).mono ?_
  rintro e w3 ⟨rfl, hb3⟩
  replace Cb := Cb.below hb3 (by omega)
  replace Cr := Cr.below hb3 (by omega)
  replace Cl := Cl.below hb3 (by omega)
  replace hz2 : w2.heap.size < w3.heap.size := Nat.lt_of_lt_of_le hz2 hb3.size
  replace hB := Below.over hB hb3
  clear hb3 HT
  go_upto_region 6 with fail
  refine wp_region_held_drew (S := fun W => Below w.heap.size w W ∧ Cells4 W (w.heap.size + 1) b ∧ Cells4 W w2.heap.size 255 ∧ w2.heap.size < W.heap.size) (by kernel_rfl) ⟨hB.drew, Cb.below (Below.refl w3.heap.size w3).drew (by omega), Cl.below (Below.refl _ _).drew hz2, hz2⟩ (fun hH => ?_)
  refine take_d (i := 0) (d := some 23) (v := .agg #[.int .u64 (lim b 0), .int .u64 (lim b 1), .int .u64 (lim b 2), .int .u64 (lim b 3)]) rfl rfl (by kernel_rfl) (by kernel_rfl) (by kernel_rfl) (fun _ _ _ h => h) (Or.inl ⟨by rfl, fun W hW => ?_⟩) hH ?_
  · obtain ⟨c0, c1, c2, c3, -, -, -, -⟩ := hW.2.1
    clear hW hH
    go_simp
  simp only [Act.put, List.setIfInBounds_toArray, List.set_cons_zero, List.set_cons_succ]
  refine take_d (i := 1) (d := some 24) (v := .agg #[.int .u64 (lim 255 0), .int .u64 (lim 255 1), .int .u64 (lim 255 2), .int .u64 (lim 255 3)]) rfl rfl (by kernel_rfl) (by kernel_rfl) (by kernel_rfl) (fun _ _ _ h => h) (Or.inl ⟨by rfl, fun W hW => ?_⟩) hH ?_
  · obtain ⟨c0, c1, c2, c3, -, -, -, -⟩ := hW.2.2.1
    clear hW hH
    go_simp
  simp only [Act.put, List.setIfInBounds_toArray, List.set_cons_zero, List.set_cons_succ]
  replace Cr : Cells4 w3.drew (w.heap.size + 1 + 1) 0 := Cr.below (Below.refl _ _).drew (Nat.lt_trans hz hz2)
  replace hz2 : w2.heap.size < w3.drew.heap.size := hz2
  generalize w3.drew = wa at hH Cr hz2 ⊢
  refine wpAnyH_ready (rs := [2]) (by kernel_rfl) (by simp) ?_
  refine AllReadyH.cons rfl (fun K hK => ?_) AllReadyH.nil
  go_simp
  refine (not 255 (by decide) _).mono ?_
  rintro e wb ⟨rfl, hbn⟩
  go_wp2_with fail
  refine hK.out _ _ ⟨hH.1.trans (hbn.mono hH.1.size), hH.2.1.below hbn (by omega), hH.2.2.1.below hbn hH.2.2.2, Nat.lt_of_lt_of_le hH.2.2.2 hbn.size⟩ (fun hH => ?_)
  replace Cr := Cr.below hbn (by omega)
  clear hbn hK K
  refine wpAnyH_ready (rs := [3]) (by kernel_rfl) (by simp) ?_
  refine AllReadyH.cons rfl (fun K hK => ?_) AllReadyH.nil
  go_simp
  refine (or_ b (M - 1 - 255) _).mono ?_
  rintro e wc ⟨rfl, hbn⟩
  go_wp2_with fail
  have hz3 := hH.2.2.2
  refine hK.out _ _ ⟨hH.1.trans (hbn.mono hH.1.size), hH.2.1.below hbn (by omega), hH.2.2.1.below hbn hH.2.2.2, Nat.lt_of_lt_of_le hH.2.2.2 hbn.size⟩ (fun hH => ?_)
  replace Cr := Cr.below hbn (by omega)
  clear hbn hK K
  refine wpAnyH_ready (rs := [4]) (by kernel_rfl) (by simp) ?_
  refine AllReadyH.cons rfl (fun K hK => ?_) AllReadyH.nil
  obtain ⟨x0, x1, x2, x3, x4, x5, x6, x7⟩ := id Cr
  go_simp
  refine hK.out _ _ ⟨set4_below hH.1 (by omega) _, hH.2.1.other (by omega) _, hH.2.2.1.other (by omega) _, by simpa using hH.2.2.2⟩ (fun hH => ?_)
  clear hK K Cr
  refine wpAnyH_done (by kernel_rfl) ?_ _
  go_wp2
  simp [bodyPost, results, Try.results37, go_sem, x0, x1, x2, x3]
  exact hH.1

/-- Extend at byte 0. -/
def ext0 (b : Nat) : Nat := if b.testBit 7 then b ||| (M - 1 - 255) else b &&& 255
theorem ext_0 (b : Nat) (w : World) : Calls Try.prog 37 #[wd 0, wd b] w fun e w' => e = .returned (wd (ext0 b)) ∧ Below w.heap.size w w' := by
  unfold ext0
  cases h : b.testBit 7
  · exact ext_0_f b h w
  · exact ext_0_t b h w

set_option maxHeartbeats 400000 in
theorem nwork11 (b c : Nat) : NWork 11 0 b c (ext0 b) := by
  intro w
  have HC := ext_0 b
  go_enter Try.func12, Try.ntmps12
  go_wp2_with fail
  refine (HC _).mono ?_
  rintro e w1 ⟨rfl, hb1⟩
  obtain ⟨hc, hf⟩ := bcell hb1
  have hz : w.heap.size + 1 + 1 + 1 < w1.heap.size := by have := hb1.size; simp at this; omega
  have hB : Below w.heap.size w w1 := Below.over (below4 w _ _ _ _) hb1
  clear hb1
  go_wp2
  simp [bodyPost, results, Try.results12, go_sem, hc]
  exact set4_below hB (by omega) _

set_option maxHeartbeats 400000 in
theorem nwork22 (b c : Nat) : NWork 22 31 b c (b / 1 % 256) := by
  intro w
  have HC := byte_31 b
  go_enter Try.func12, Try.ntmps12
  go_wp2_with fail
  refine (HC _).mono ?_
  rintro e w1 ⟨rfl, hb1⟩
  obtain ⟨hc, hf⟩ := bcell hb1
  have hz : w.heap.size + 1 + 1 + 1 < w1.heap.size := by have := hb1.size; simp at this; omega
  have hB : Below w.heap.size w w1 := Below.over (below4 w _ _ _ _) hb1
  clear hb1
  go_wp2
  simp [bodyPost, results, Try.results12, go_sem, hc]
  exact set4_below hB (by omega) _


end Go.Proofs.Ytbephahokhnccaa

namespace Go.Proofs.Ytbephahokhnccaa

theorem tw_le (t : Bool) : tw t ≤ 1 := by cases t <;> decide
theorem tw_lt (t : Bool) : tw t < M := by cases t <;> decide
theorem tw_tri (a b : Nat) : tw (decide (a < b)) + tw (decide (b < a)) + tw (decide (a = b)) = 1 := by
  rcases Nat.lt_trichotomy a b with h | h | h
  · rw [decide_eq_true h, decide_eq_false (show ¬ b < a by omega), decide_eq_false (show ¬ a = b by omega)]; rfl
  · rw [decide_eq_false (show ¬ a < b by omega), decide_eq_false (show ¬ b < a by omega), decide_eq_true h]; rfl
  · rw [decide_eq_false (show ¬ a < b by omega), decide_eq_true h, decide_eq_false (show ¬ a = b by omega)]; rfl
theorem stw_tri (a b : Nat) : tw (slt a b) + tw (slt b a) + tw (decide (a = b)) = 1 := by
  unfold slt
  cases ha : neg a <;> cases hb : neg b
  · exact tw_tri a b
  · have hne : ¬ a = b := fun h => by rw [h, hb] at ha; cases ha
    rw [decide_eq_false hne]; rfl
  · have hne : ¬ a = b := fun h => by rw [h, hb] at ha; cases ha
    rw [decide_eq_false hne]; rfl
  · exact tw_tri a b

theorem bits_two (n a b : Nat) : a < 2 ^ n → b < 2 ^ n → (a &&& b) + (a ||| b) = a + b ∧ (a &&& b) + (a ^^^ b) = (a ||| b) := by
  induction n generalizing a b with
  | zero =>
    intro h1 h2
    have h1 : a = 0 := by simpa using h1
    have h2 : b = 0 := by simpa using h2
    subst h1 h2
    decide
  | succ n ih =>
    intro h1 h2
    rw [Nat.pow_succ] at h1 h2
    obtain ⟨i1, i2⟩ := ih (a / 2) (b / 2) (by omega) (by omega)
    have d1 : (a &&& b) / 2 = (a / 2) &&& (b / 2) := Nat.and_div_two_pow (n := 1)
    have d2 : (a ||| b) / 2 = (a / 2) ||| (b / 2) := Nat.or_div_two_pow (n := 1)
    have d3 : (a ^^^ b) / 2 = (a / 2) ^^^ (b / 2) := Nat.xor_div_two_pow (n := 1)
    have m1 : (a &&& b) % 2 = (a % 2) &&& (b % 2) := Nat.and_mod_two_pow (n := 1)
    have m2 : (a ||| b) % 2 = (a % 2) ||| (b % 2) := Nat.or_mod_two_pow (n := 1)
    have m3 : (a ^^^ b) % 2 = (a % 2) ^^^ (b % 2) := Nat.xor_mod_two_pow (n := 1)
    rw [← d1, ← d2] at i1
    rw [← d1, ← d2, ← d3] at i2
    have ca : a % 2 = 0 ∨ a % 2 = 1 := by omega
    have cb : b % 2 = 0 ∨ b % 2 = 1 := by omega
    have k : ((a &&& b) % 2 + (a ||| b) % 2 = a % 2 + b % 2) ∧ ((a &&& b) % 2 + (a ^^^ b) % 2 = (a ||| b) % 2) := by
      rw [m1, m2, m3]
      rcases ca with ca | ca <;> rcases cb with cb | cb <;> rw [ca, cb] <;> decide
    omega
theorem M_two : M = 2 ^ 256 := by decide
theorem and_add_or (a b : Nat) (ha : a < M) (hb : b < M) : (a &&& b) + (a ||| b) = a + b := (bits_two 256 a b (M_two ▸ ha) (M_two ▸ hb)).1
theorem and_add_xor (a b : Nat) (ha : a < M) (hb : b < M) : (a &&& b) + (a ^^^ b) = (a ||| b) := (bits_two 256 a b (M_two ▸ ha) (M_two ▸ hb)).2
theorem or_lt (a b : Nat) (ha : a < M) (hb : b < M) : a ||| b < M := by
  rw [M_two] at *; exact Nat.or_lt_two_pow ha hb
theorem xor_lt (a b : Nat) (ha : a < M) (hb : b < M) : a ^^^ b < M := by
  rw [M_two] at *; exact Nat.xor_lt_two_pow ha hb
theorem and_lt (a b : Nat) (ha : a < M) : a &&& b < M := Nat.lt_of_le_of_lt Nat.and_le_left ha

theorem not_tb (a : Nat) (ha : a < M) (i : Nat) : (M - 1 - a).testBit i = (decide (i < 256) && !a.testBit i) := by
  have h := Nat.testBit_two_pow_sub_succ (n := 256) (x := a) (M_two ▸ ha) i
  have e : 2 ^ 256 - (a + 1) = M - 1 - a := by rw [← M_two]; omega
  rw [e] at h
  exact h
theorem not_and_or (a b : Nat) (ha : a < M) (hb : b < M) : (M - 1 - a) ||| (M - 1 - b) = M - 1 - (a &&& b) := by
  apply Nat.eq_of_testBit_eq
  intro i
  rw [Nat.testBit_or, not_tb a ha, not_tb b hb, not_tb _ (and_lt a b ha), Nat.testBit_and]
  cases decide (i < 256) <;> cases a.testBit i <;> cases b.testBit i <;> rfl

theorem top_bit (a : Nat) (ha : a < M) : a / HM = tw (neg a) := by
  cases h : neg a
  · rw [neg_f] at h
    exact Nat.div_eq_of_lt h
  · rw [neg_t] at h
    have e := HM_M
    show a / HM = 1
    rw [Nat.div_eq_iff (by decide)]
    omega

/-- Extend at byte 0: the lowest byte, or that and ones above. -/
theorem ext0_of (a : Nat) (ha : a < M) : (128 ≤ a % 256 ∧ ext0 a = M - 256 + a % 256) ∨ (a % 256 < 128 ∧ ext0 a = a % 256) := by
  unfold ext0
  have h7 := Nat.testBit_eq_decide_div_mod_eq (x := a) (i := 7)
  cases h : a.testBit 7
  · right
    rw [h] at h7
    have h7 : ¬ a / 2 ^ 7 % 2 = 1 := of_decide_eq_false h7.symm
    refine ⟨by omega, ?_⟩
    exact Nat.and_two_pow_sub_one_eq_mod a 8
  · left
    rw [h] at h7
    have h7 : a / 2 ^ 7 % 2 = 1 := of_decide_eq_true h7.symm
    refine ⟨by omega, ?_⟩
    have e : M - 256 + a % 256 = (M - 1 - 255) ||| (a % 256) := by
      have k := Nat.shiftLeft_add_eq_or_of_lt (i := 8) (b := a % 256) (Nat.mod_lt _ (by decide)) (2 ^ 248 - 1)
      have k2 : (2 ^ 248 - 1) <<< 8 = M - 256 := by decide
      rw [k2] at k
      exact k
    rw [e]
    show a ||| (M - 1 - 255) = _
    apply Nat.eq_of_testBit_eq
    intro i
    have h255 : (255 : Nat).testBit i = decide (i < 8) := Nat.testBit_two_pow_sub_one 8 i
    have hm : (a % 256).testBit i = (decide (i < 8) && a.testBit i) := Nat.testBit_mod_two_pow a 8 i
    rw [Nat.testBit_or, Nat.testBit_or, not_tb 255 (by decide), h255, hm]
    by_cases c : i < 256
    · rw [decide_eq_true c]
      cases decide (i < 8) <;> cases a.testBit i <;> rfl
    · have hai : a.testBit i = false := Nat.testBit_lt_two_pow (Nat.lt_of_lt_of_le (M_two ▸ ha) (Nat.pow_le_pow_right (by decide) (by omega)))
      rw [hai, decide_eq_false c]
      cases decide (i < 8) <;> rfl
theorem ext0_lt (a : Nat) (ha : a < M) : ext0 a < M := by
  have hm := Nat.mod_lt a (show 256 > 0 by decide)
  have hM : 256 < M := by decide
  rcases ext0_of a ha with ⟨h, e⟩ | ⟨h, e⟩ <;> rw [e] <;> omega
theorem ext0_mod (a : Nat) (ha : a < M) : ext0 a % 256 = a % 256 := by
  have e1 : M - 256 = 452312848583266388373324160190187140051835877600158453279131187530910662655 * 256 := by decide
  rcases ext0_of a ha with ⟨h, e⟩ | ⟨h, e⟩ <;> rw [e]
  · rw [e1]; omega
  · omega
theorem ext0_up (a : Nat) (ha : a < M) : slt (ext0 a) 128 = true := by
  have hm := Nat.mod_lt a (show 256 > 0 by decide)
  have hM : HM + 256 < M := by decide
  have hM2 : 256 < HM := by decide
  have n128 : neg 128 = false := by decide
  unfold slt
  rw [n128]
  rcases ext0_of a ha with ⟨h, e⟩ | ⟨h, e⟩
  · have hn : neg (ext0 a) = true := by rw [neg_t]; omega
    rw [hn]; rfl
  · have hn : neg (ext0 a) = false := by rw [neg_f]; omega
    rw [hn]
    exact decide_eq_true (show ext0 a < 128 by omega)
theorem ext0_down (a : Nat) (ha : a < M) : slt (M - 129) (ext0 a) = true := by
  have hm := Nat.mod_lt a (show 256 > 0 by decide)
  have hM : HM + 256 < M := by decide
  have hM2 : 256 < HM := by decide
  have n129 : neg (M - 129) = true := by decide
  unfold slt
  rw [n129]
  rcases ext0_of a ha with ⟨h, e⟩ | ⟨h, e⟩
  · have hn : neg (ext0 a) = true := by rw [neg_t]; omega
    rw [hn]
    have hl : M - 129 < ext0 a := by
      rw [e]
      clear n129 hn e ha hM2
      generalize HM = k at hM
      generalize M = m at hM ⊢
      omega
    exact (if_neg (by decide)).trans (decide_eq_true hl)
  · have hn : neg (ext0 a) = false := by rw [neg_f]; omega
    rw [hn]; rfl

theorem kw11 (a : Nat) : KW 11 0 a (ext0 a) := fun w => kwork (nwork11 a 0) w
theorem kw22 (a : Nat) {r : Nat} (h : a / 1 % 256 = r) : KW 22 31 a r := by subst h; exact fun w => kwork (nwork22 a 0) w

end Go.Proofs.Ytbephahokhnccaa

