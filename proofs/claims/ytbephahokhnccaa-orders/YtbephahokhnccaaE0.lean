/-
  number.ones at 8, Extend at byte 0, Byte at 31: what they return.
-/
import Derived.Test.YtbephahokhnccaaWork
import Derived.Test.YtbephahokhnccaaBit
import Derived.Test.YtbephahokhnccaaSm
import Derived.Test.YtbephahokhnccaaHeld
import Derived.Test.YtbephahokhnccaaRw
import Derived.Deep.RegionHeld3
import Derived.Deep.CutRange
namespace Go.Proofs.Ytbephahokhnccaa
open Go.RowKit Go.Shelf
attribute [local go_sem] wd

theorem and255 (x : Int) (h0 : 0 ≤ x) (h1 : x < 18446744073709551616) : bits .and .u64 x 255 = x % 256 := by
  obtain ⟨x, rfl⟩ := Int.eq_ofNat_of_zero_le h0
  have h := bits_and_u64_nat x 255 (by omega) (by decide)
  have e : x &&& 255 = x % 256 := Nat.and_two_pow_sub_one_eq_mod x 8
  rw [e] at h
  exact h

set_option maxHeartbeats 1000000 in
theorem ones_8 (w : World) : Calls Try.prog 66 #[.int .i64 8] w fun e w' => e = .returned (wd 255) ∧ Below w.heap.size w w' := by
  have HC : ∀ w : World, Calls Try.prog 28 #[.agg #[.int .u64 256, .int .u64 0, .int .u64 0, .int .u64 0], .agg #[.int .u64 1, .int .u64 0, .int .u64 0, .int .u64 0]] w fun e w' => e = .returned (wd 255) ∧ Below w.heap.size w w' := (fun w => sub 256 1 (by decide) (by decide) w)
  go_enter Try.func66, Try.ntmps66
  go_wp2_with fail
  refine (HC _).mono ?_
  rintro e w1 ⟨rfl, hb1⟩
  obtain ⟨hc, hf⟩ := bcell hb1
  have hz : w.heap.size + 1 < w1.heap.size := by have := hb1.size; simp at this; omega
  have hB : Below w.heap.size w w1 := Below.over (((Below.refl _ _).alloc (Nat.le_refl _) _).alloc (by simp) _) hb1
  have hc2 := fun i => hc w.heap.size i (by simp; omega)
  have hf2 := fun i => hf w.heap.size i (by simp; omega)
  clear hb1 hc hf
  go_wp2
  simp [bodyPost, results, Try.results66, go_sem, hc2]
  exact set4_below (b := w.heap.size) hB (Nat.le_refl _) _

set_option maxHeartbeats 2000000 in
theorem byte_31_l (b : Nat) (w : World) :
    Calls Try.prog 45 #[wd 31, wd b] w fun e w' => e = .returned (.agg #[.int .u64 (bits .and .u64 (lim b 0) 255), .int .u64 0, .int .u64 0, .int .u64 0]) ∧ Below w.heap.size w w' := by
  have HL : ∀ w : World, Calls Try.prog 39 #[.agg #[.int .u64 31, .int .u64 0, .int .u64 0, .int .u64 0], .agg #[.int .u64 32, .int .u64 0, .int .u64 0, .int .u64 0]] w fun e w' => e = .returned (.bool true) ∧ Below w.heap.size w w' := fun w => less 31 32 (by decide) (by decide) w
  change Calls Try.prog 45 #[.agg #[.int .u64 31, .int .u64 0, .int .u64 0, .int .u64 0], wd b] w _
  go_enter Try.func45, Try.ntmps45
  go_wp2_with fail
  refine (HL _).mono ?_
  rintro e w1 ⟨rfl, hb1⟩
  obtain ⟨hc, hf⟩ := bcell hb1
  have q0 : w1.cell? ⟨w.heap.size, 0, none⟩ = some (.int .u64 31) := (hc w.heap.size _ (by simp <;> omega)).trans (by simp [go_sem])
  have Cb : Cells4 w1 (w.heap.size + 1) b := ⟨(hc (w.heap.size + 1) _ (by simp <;> omega)).trans (by simp [go_sem]), (hc (w.heap.size + 1) _ (by simp <;> omega)).trans (by simp [go_sem]), (hc (w.heap.size + 1) _ (by simp <;> omega)).trans (by simp [go_sem]), (hc (w.heap.size + 1) _ (by simp <;> omega)).trans (by simp [go_sem]), (hf (w.heap.size + 1) _ (by simp <;> omega)).trans (by simp [go_sem]), (hf (w.heap.size + 1) _ (by simp <;> omega)).trans (by simp [go_sem]), (hf (w.heap.size + 1) _ (by simp <;> omega)).trans (by simp [go_sem]), (hf (w.heap.size + 1) _ (by simp <;> omega)).trans (by simp [go_sem])⟩
  have Cr : Cells4 w1 (w.heap.size + 1 + 1) 0 := ⟨(hc (w.heap.size + 1 + 1) _ (by simp <;> omega)).trans (by simp [go_sem, lim_z]), (hc (w.heap.size + 1 + 1) _ (by simp <;> omega)).trans (by simp [go_sem, lim_z]), (hc (w.heap.size + 1 + 1) _ (by simp <;> omega)).trans (by simp [go_sem, lim_z]), (hc (w.heap.size + 1 + 1) _ (by simp <;> omega)).trans (by simp [go_sem, lim_z]), (hf (w.heap.size + 1 + 1) _ (by simp <;> omega)).trans (by simp [go_sem]), (hf (w.heap.size + 1 + 1) _ (by simp <;> omega)).trans (by simp [go_sem]), (hf (w.heap.size + 1 + 1) _ (by simp <;> omega)).trans (by simp [go_sem]), (hf (w.heap.size + 1 + 1) _ (by simp <;> omega)).trans (by simp [go_sem])⟩
  have hB : Below w.heap.size w w1 := Below.over (below3 w _ _ _) hb1
  clear hb1 hc hf HL
  obtain ⟨c0, c1, c2, c3, f0, f1, f2, f3⟩ := id Cb
  obtain ⟨x0, x1, x2, x3, x4, x5, x6, x7⟩ := id Cr
  go_wp2
  have hle : w.heap.size ≤ w.heap.size + 1 + 1 := by omega
  simp [bodyPost, results, Try.results45, go_sem, x0, x1, x2, x3]
  exact (((hB.setCell (p := ⟨w.heap.size + 1 + 1, 0, none⟩) hle _).setCell (p := ⟨w.heap.size + 1 + 1, 1, none⟩) hle _).setCell (p := ⟨w.heap.size + 1 + 1, 2, none⟩) hle _).setCell (p := ⟨w.heap.size + 1 + 1, 3, none⟩) hle _
theorem byte_31 (b : Nat) (w : World) : Calls Try.prog 45 #[wd 31, wd b] w fun e w' => e = .returned (wd (b / 1 % 256)) ∧ Below w.heap.size w w' := by
  refine (byte_31_l b w).mono fun e w' ⟨he, hb'⟩ => ⟨?_, hb'⟩
  have hv : b / 1 % 256 < 18446744073709551616 := Nat.lt_of_lt_of_le (Nat.mod_lt _ (by decide)) (by decide)
  obtain ⟨v0, v1, v2, v3⟩ := lim_small _ hv
  have hq : lim b 0 % 256 = ((b / 1 % 256 : Nat) : Int) := by
    unfold lim
    simp only [Nat.pow_zero, Nat.div_one]
    omega
  rw [he, and255 _ (lim_nn _ _) (lim_lt _ _), hq]
  unfold wd
  rw [v0, v1, v2, v3]

set_option maxHeartbeats 2000000 in
theorem ext_0_f (b : Nat) (hbit : b.testBit 7 = false) (w : World) :
    Calls Try.prog 37 #[wd 0, wd b] w fun e w' => e = .returned (wd (b &&& 255)) ∧ Below w.heap.size w w' := by
  have HL : ∀ w : World, Calls Try.prog 39 #[.agg #[.int .u64 0, .int .u64 0, .int .u64 0, .int .u64 0], .agg #[.int .u64 31, .int .u64 0, .int .u64 0, .int .u64 0]] w fun e w' => e = .returned (.bool true) ∧ Below w.heap.size w w' := fun w => less 0 31 (by decide) (by decide) w
  have HT : ∀ w : World, Calls Try.prog 65 #[wd b, .int .i64 7] w fun e w' => e = .returned (.bool false) ∧ Below w.heap.size w w' := fun w => by
    have h := bit b 7 (by decide) w
    rw [hbit] at h
    exact h
  clear hbit
  change Calls Try.prog 37 #[.agg #[.int .u64 0, .int .u64 0, .int .u64 0, .int .u64 0], wd b] w _
  go_enter Try.func37, Try.ntmps37
  go_wp2_with fail
  refine (HL _).mono ?_
  rintro e w1 ⟨rfl, hb1⟩
  obtain ⟨hc, hf⟩ := bcell hb1
  have q0 : w1.cell? ⟨w.heap.size, 0, none⟩ = some (.int .u64 0) := (hc w.heap.size _ (by simp <;> omega)).trans (by simp [go_sem])
  have Cb : Cells4 w1 (w.heap.size + 1) b := ⟨(hc (w.heap.size + 1) _ (by simp <;> omega)).trans (by simp [go_sem]), (hc (w.heap.size + 1) _ (by simp <;> omega)).trans (by simp [go_sem]), (hc (w.heap.size + 1) _ (by simp <;> omega)).trans (by simp [go_sem]), (hc (w.heap.size + 1) _ (by simp <;> omega)).trans (by simp [go_sem]), (hf (w.heap.size + 1) _ (by simp <;> omega)).trans (by simp [go_sem]), (hf (w.heap.size + 1) _ (by simp <;> omega)).trans (by simp [go_sem]), (hf (w.heap.size + 1) _ (by simp <;> omega)).trans (by simp [go_sem]), (hf (w.heap.size + 1) _ (by simp <;> omega)).trans (by simp [go_sem])⟩
  have Cr : Cells4 w1 (w.heap.size + 1 + 1) 0 := ⟨(hc (w.heap.size + 1 + 1) _ (by simp <;> omega)).trans (by simp [go_sem, lim_z]), (hc (w.heap.size + 1 + 1) _ (by simp <;> omega)).trans (by simp [go_sem, lim_z]), (hc (w.heap.size + 1 + 1) _ (by simp <;> omega)).trans (by simp [go_sem, lim_z]), (hc (w.heap.size + 1 + 1) _ (by simp <;> omega)).trans (by simp [go_sem, lim_z]), (hf (w.heap.size + 1 + 1) _ (by simp <;> omega)).trans (by simp [go_sem]), (hf (w.heap.size + 1 + 1) _ (by simp <;> omega)).trans (by simp [go_sem]), (hf (w.heap.size + 1 + 1) _ (by simp <;> omega)).trans (by simp [go_sem]), (hf (w.heap.size + 1 + 1) _ (by simp <;> omega)).trans (by simp [go_sem])⟩
  have hB : Below w.heap.size w w1 := Below.over (below3 w _ _ _) hb1
  have hz : w.heap.size + 1 + 1 < w1.heap.size := by have := hb1.size; simp at this; omega
  clear hb1 hc hf HL
  go_wp2_with fail
  refine (ones_8 _).mono ?_
  rintro e w2 ⟨rfl, hb2⟩
  replace Cb := Cb.below hb2 (by omega)
  replace Cr := Cr.below hb2 hz
  replace hz : w.heap.size + 1 + 1 < w2.heap.size := Nat.lt_of_lt_of_le hz hb2.size
  replace hB := Below.over hB hb2
  clear hb2 q0
  have hz2 : w2.heap.size < (w2.alloc (.cells #[.int .u64 (lim 255 0), .int .u64 (lim 255 1), .int .u64 (lim 255 2), .int .u64 (lim 255 3)] 24)).heap.size := by simp
  have Cl : Cells4 (w2.alloc (.cells #[.int .u64 (lim 255 0), .int .u64 (lim 255 1), .int .u64 (lim 255 2), .int .u64 (lim 255 3)] 24)) w2.heap.size 255 := ⟨by simp [go_sem], by simp [go_sem], by simp [go_sem], by simp [go_sem], by simp [go_sem], by simp [go_sem], by simp [go_sem], by simp [go_sem]⟩
  have hba := below1 w2 (.cells #[.int .u64 (lim 255 0), .int .u64 (lim 255 1), .int .u64 (lim 255 2), .int .u64 (lim 255 3)] 24)
  replace Cb := Cb.below hba (by omega)
  replace Cr := Cr.below hba hz
  replace hB := Below.over hB hba
  clear hba
  go_upto_region 5 with fail
  generalize w2.alloc (.cells #[.int .u64 (lim 255 0), .int .u64 (lim 255 1), .int .u64 (lim 255 2), .int .u64 (lim 255 3)] 24) = wA at *
  obtain ⟨c0, c1, c2, c3, f0, f1, f2, f3⟩ := id Cb
  go_wp2_with fail
  clear c0 c1 c2 c3 f0 f1 f2 f3
  refine (HT _).mono ?_
  rintro e w3 ⟨rfl, hb3⟩
  replace Cb := Cb.below hb3 (by omega)
  replace Cr := Cr.below hb3 (by omega)
  replace Cl := Cl.below hb3 (by omega)
  replace hz2 : w2.heap.size < w3.heap.size := Nat.lt_of_lt_of_le hz2 hb3.size
  replace hB := Below.over hB hb3
  clear hb3 HT
  obtain ⟨c0, c1, c2, c3, -, -, -, -⟩ := id Cb
  obtain ⟨l0, l1, l2, l3, -, -, -, -⟩ := id Cl
  go_wp2_with fail
  clear c0 c1 c2 c3 l0 l1 l2 l3
  refine (and_ b 255 _).mono ?_
  rintro e w4 ⟨rfl, hb4⟩
  obtain ⟨x0, x1, x2, x3, x4, x5, x6, x7⟩ := Cr.below hb4 (by omega)
  replace hB := Below.over hB hb4
  clear hb4 Cb Cr Cl
  go_wp2
  simp [bodyPost, results, Try.results37, go_sem, x0, x1, x2, x3]
  exact set4_below hB (by omega) _

set_option maxHeartbeats 2000000 in
theorem ext_0_t (b : Nat) (hbit : b.testBit 7 = true) (w : World) :
    Calls Try.prog 37 #[wd 0, wd b] w fun e w' => e = .returned (wd (b ||| (M - 1 - 255))) ∧ Below w.heap.size w w' := by
  have HL : ∀ w : World, Calls Try.prog 39 #[.agg #[.int .u64 0, .int .u64 0, .int .u64 0, .int .u64 0], .agg #[.int .u64 31, .int .u64 0, .int .u64 0, .int .u64 0]] w fun e w' => e = .returned (.bool true) ∧ Below w.heap.size w w' := fun w => less 0 31 (by decide) (by decide) w
  have HT : ∀ w : World, Calls Try.prog 65 #[wd b, .int .i64 7] w fun e w' => e = .returned (.bool true) ∧ Below w.heap.size w w' := fun w => by
    have h := bit b 7 (by decide) w
    rw [hbit] at h
    exact h
  clear hbit
  change Calls Try.prog 37 #[.agg #[.int .u64 0, .int .u64 0, .int .u64 0, .int .u64 0], wd b] w _
  go_enter Try.func37, Try.ntmps37
  go_wp2_with fail
  refine (HL _).mono ?_
  rintro e w1 ⟨rfl, hb1⟩
  obtain ⟨hc, hf⟩ := bcell hb1
  have q0 : w1.cell? ⟨w.heap.size, 0, none⟩ = some (.int .u64 0) := (hc w.heap.size _ (by simp <;> omega)).trans (by simp [go_sem])
  have Cb : Cells4 w1 (w.heap.size + 1) b := ⟨(hc (w.heap.size + 1) _ (by simp <;> omega)).trans (by simp [go_sem]), (hc (w.heap.size + 1) _ (by simp <;> omega)).trans (by simp [go_sem]), (hc (w.heap.size + 1) _ (by simp <;> omega)).trans (by simp [go_sem]), (hc (w.heap.size + 1) _ (by simp <;> omega)).trans (by simp [go_sem]), (hf (w.heap.size + 1) _ (by simp <;> omega)).trans (by simp [go_sem]), (hf (w.heap.size + 1) _ (by simp <;> omega)).trans (by simp [go_sem]), (hf (w.heap.size + 1) _ (by simp <;> omega)).trans (by simp [go_sem]), (hf (w.heap.size + 1) _ (by simp <;> omega)).trans (by simp [go_sem])⟩
  have Cr : Cells4 w1 (w.heap.size + 1 + 1) 0 := ⟨(hc (w.heap.size + 1 + 1) _ (by simp <;> omega)).trans (by simp [go_sem, lim_z]), (hc (w.heap.size + 1 + 1) _ (by simp <;> omega)).trans (by simp [go_sem, lim_z]), (hc (w.heap.size + 1 + 1) _ (by simp <;> omega)).trans (by simp [go_sem, lim_z]), (hc (w.heap.size + 1 + 1) _ (by simp <;> omega)).trans (by simp [go_sem, lim_z]), (hf (w.heap.size + 1 + 1) _ (by simp <;> omega)).trans (by simp [go_sem]), (hf (w.heap.size + 1 + 1) _ (by simp <;> omega)).trans (by simp [go_sem]), (hf (w.heap.size + 1 + 1) _ (by simp <;> omega)).trans (by simp [go_sem]), (hf (w.heap.size + 1 + 1) _ (by simp <;> omega)).trans (by simp [go_sem])⟩
  have hB : Below w.heap.size w w1 := Below.over (below3 w _ _ _) hb1
  have hz : w.heap.size + 1 + 1 < w1.heap.size := by have := hb1.size; simp at this; omega
  clear hb1 hc hf HL
  go_wp2_with fail
  refine (ones_8 _).mono ?_
  rintro e w2 ⟨rfl, hb2⟩
  replace Cb := Cb.below hb2 (by omega)
  replace Cr := Cr.below hb2 hz
  replace hz : w.heap.size + 1 + 1 < w2.heap.size := Nat.lt_of_lt_of_le hz hb2.size
  replace hB := Below.over hB hb2
  clear hb2 q0
  have hz2 : w2.heap.size < (w2.alloc (.cells #[.int .u64 (lim 255 0), .int .u64 (lim 255 1), .int .u64 (lim 255 2), .int .u64 (lim 255 3)] 24)).heap.size := by simp
  have Cl : Cells4 (w2.alloc (.cells #[.int .u64 (lim 255 0), .int .u64 (lim 255 1), .int .u64 (lim 255 2), .int .u64 (lim 255 3)] 24)) w2.heap.size 255 := ⟨by simp [go_sem], by simp [go_sem], by simp [go_sem], by simp [go_sem], by simp [go_sem], by simp [go_sem], by simp [go_sem], by simp [go_sem]⟩
  have hba := below1 w2 (.cells #[.int .u64 (lim 255 0), .int .u64 (lim 255 1), .int .u64 (lim 255 2), .int .u64 (lim 255 3)] 24)
  replace Cb := Cb.below hba (by omega)
  replace Cr := Cr.below hba hz
  replace hB := Below.over hB hba
  clear hba
  go_upto_region 5 with fail
  generalize w2.alloc (.cells #[.int .u64 (lim 255 0), .int .u64 (lim 255 1), .int .u64 (lim 255 2), .int .u64 (lim 255 3)] 24) = wA at *
  obtain ⟨c0, c1, c2, c3, f0, f1, f2, f3⟩ := id Cb
  go_wp2_with fail
  clear c0 c1 c2 c3 f0 f1 f2 f3
  refine (HT _).mono ?_
  rintro e w3 ⟨rfl, hb3⟩
  replace Cb := Cb.below hb3 (by omega)
  replace Cr := Cr.below hb3 (by omega)
  replace Cl := Cl.below hb3 (by omega)
  replace hz2 : w2.heap.size < w3.heap.size := Nat.lt_of_lt_of_le hz2 hb3.size
  replace hB := Below.over hB hb3
  clear hb3 HT
  go_upto_region 6 with fail
  refine wp_region_held_drew (S := fun W => Below w.heap.size w W ∧ Cells4 W (w.heap.size + 1) b ∧ Cells4 W w2.heap.size 255 ∧ w2.heap.size < W.heap.size) (by kernel_rfl) ⟨hB.drew, Cb.below (Below.refl w3.heap.size w3).drew (by omega), Cl.below (Below.refl _ _).drew hz2, hz2⟩ (fun hH => ?_)
  refine take_d (i := 0) (d := some 23) (v := .agg #[.int .u64 (lim b 0), .int .u64 (lim b 1), .int .u64 (lim b 2), .int .u64 (lim b 3)]) rfl rfl (by kernel_rfl) (by kernel_rfl) (by kernel_rfl) (fun _ _ _ h => h) (Or.inl ⟨by rfl, fun W hW => ?_⟩) hH ?_
  · obtain ⟨c0, c1, c2, c3, -, -, -, -⟩ := hW.2.1
    clear hW hH
    go_simp
  simp only [Act.put, List.setIfInBounds_toArray, List.set_cons_zero, List.set_cons_succ]
  refine take_d (i := 1) (d := some 24) (v := .agg #[.int .u64 (lim 255 0), .int .u64 (lim 255 1), .int .u64 (lim 255 2), .int .u64 (lim 255 3)]) rfl rfl (by kernel_rfl) (by kernel_rfl) (by kernel_rfl) (fun _ _ _ h => h) (Or.inl ⟨by rfl, fun W hW => ?_⟩) hH ?_
  · obtain ⟨c0, c1, c2, c3, -, -, -, -⟩ := hW.2.2.1
    clear hW hH
    go_simp
  simp only [Act.put, List.setIfInBounds_toArray, List.set_cons_zero, List.set_cons_succ]
  replace Cr : Cells4 w3.drew (w.heap.size + 1 + 1) 0 := Cr.below (Below.refl _ _).drew (Nat.lt_trans hz hz2)
  replace hz2 : w2.heap.size < w3.drew.heap.size := hz2
  generalize w3.drew = wa at hH Cr hz2 ⊢
  refine wpAnyH_ready (rs := [2]) (by kernel_rfl) (by simp) ?_
  refine AllReadyH.cons rfl (fun K hK => ?_) AllReadyH.nil
  go_simp
  refine (not 255 (by decide) _).mono ?_
  rintro e wb ⟨rfl, hbn⟩
  go_wp2_with fail
  refine hK.out _ _ ⟨hH.1.trans (hbn.mono hH.1.size), hH.2.1.below hbn (by omega), hH.2.2.1.below hbn hH.2.2.2, Nat.lt_of_lt_of_le hH.2.2.2 hbn.size⟩ (fun hH => ?_)
  replace Cr := Cr.below hbn (by omega)
  clear hbn hK K
  refine wpAnyH_ready (rs := [3]) (by kernel_rfl) (by simp) ?_
  refine AllReadyH.cons rfl (fun K hK => ?_) AllReadyH.nil
  go_simp
  refine (or_ b (M - 1 - 255) _).mono ?_
  rintro e wc ⟨rfl, hbn⟩
  go_wp2_with fail
  have hz3 := hH.2.2.2
  refine hK.out _ _ ⟨hH.1.trans (hbn.mono hH.1.size), hH.2.1.below hbn (by omega), hH.2.2.1.below hbn hH.2.2.2, Nat.lt_of_lt_of_le hH.2.2.2 hbn.size⟩ (fun hH => ?_)
  replace Cr := Cr.below hbn (by omega)
  clear hbn hK K
  refine wpAnyH_ready (rs := [4]) (by kernel_rfl) (by simp) ?_
  refine AllReadyH.cons rfl (fun K hK => ?_) AllReadyH.nil
  obtain ⟨x0, x1, x2, x3, x4, x5, x6, x7⟩ := id Cr
  go_simp
  refine hK.out _ _ ⟨set4_below hH.1 (by omega) _, hH.2.1.other (by omega) _, hH.2.2.1.other (by omega) _, by simpa using hH.2.2.2⟩ (fun hH => ?_)
  clear hK K Cr
  refine wpAnyH_done (by kernel_rfl) ?_ _
  go_wp2
  simp [bodyPost, results, Try.results37, go_sem, x0, x1, x2, x3]
  exact hH.1

/-- Extend at byte 0. -/
def ext0 (b : Nat) : Nat := if b.testBit 7 then b ||| (M - 1 - 255) else b &&& 255
theorem ext_0 (b : Nat) (w : World) : Calls Try.prog 37 #[wd 0, wd b] w fun e w' => e = .returned (wd (ext0 b)) ∧ Below w.heap.size w w' := by
  unfold ext0
  cases h : b.testBit 7
  · exact ext_0_f b h w
  · exact ext_0_t b h w

set_option maxHeartbeats 400000 in
theorem nwork11 (b c : Nat) : NWork 11 0 b c (ext0 b) := by
  intro w
  have HC := ext_0 b
  go_enter Try.func12, Try.ntmps12
  go_wp2_with fail
  refine (HC _).mono ?_
  rintro e w1 ⟨rfl, hb1⟩
  obtain ⟨hc, hf⟩ := bcell hb1
  have hz : w.heap.size + 1 + 1 + 1 < w1.heap.size := by have := hb1.size; simp at this; omega
  have hB : Below w.heap.size w w1 := Below.over (below4 w _ _ _ _) hb1
  clear hb1
  go_wp2
  simp [bodyPost, results, Try.results12, go_sem, hc]
  exact set4_below hB (by omega) _

set_option maxHeartbeats 400000 in
theorem nwork22 (b c : Nat) : NWork 22 31 b c (b / 1 % 256) := by
  intro w
  have HC := byte_31 b
  go_enter Try.func12, Try.ntmps12
  go_wp2_with fail
  refine (HC _).mono ?_
  rintro e w1 ⟨rfl, hb1⟩
  obtain ⟨hc, hf⟩ := bcell hb1
  have hz : w.heap.size + 1 + 1 + 1 < w1.heap.size := by have := hb1.size; simp at this; omega
  have hB : Below w.heap.size w w1 := Below.over (below4 w _ _ _ _) hb1
  clear hb1
  go_wp2
  simp [bodyPost, results, Try.results12, go_sem, hc]
  exact set4_below hB (by omega) _


end Go.Proofs.Ytbephahokhnccaa
