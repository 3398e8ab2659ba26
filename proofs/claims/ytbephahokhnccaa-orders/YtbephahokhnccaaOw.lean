/-
  purserkeep.Orders at this program: it returns true, the answers of Work given by letters.
-/
import Derived.Test.YtbephahokhnccaaLs
import Derived.Test.YtbephahokhnccaaRw
import Derived.Test.YtbephahokhnccaaDi
import Derived.Deep.CutRange
namespace Go.Proofs.Ytbephahokhnccaa
open Go.RowKit Go.Shelf
attribute [local go_sem] wd run_eq4 eq4_self

set_option maxHeartbeats 16000000 in
set_option maxRecDepth 100000 in
theorem orders_walk (a b m1 l g q sl sg s1 s2 an o1 x1 na nb p nn mm h tp lo xx m129 z : Nat) (t : Bool) (w : World)
    (H1 : KW 12 2 3 1) (H2 : KW 2 0 1 m1) (H3 : KW 14 m1 0 1)
    (Hl : KW 12 a b l) (Hg : KW 13 a b g) (Hq : KW 16 a b q) (Hsl : KW 14 a b sl) (Hsg : KW 15 a b sg)
    (J1 : KW 1 l g s1) (J2 : KW 1 s1 q 1) (J3 : KW 1 sl sg s2) (J4 : KW 1 s2 q 1) (J5 : KW 12 b a g) (J6 : KW 14 b a sg)
    (Ha : KW 18 a b an) (Ho : KW 19 a b o1) (Hx : KW 20 a b x1) (Hna : KW 21 a b na) (Hnb : KW 21 b a nb)
    (L1 : KW 1 an o1 p) (L2 : KW 1 a b p) (L3 : KW 2 o1 an x1) (L4 : KW 21 an a nn) (L5 : KW 19 na nb nn) (L6 : KW 1 na 1 mm) (L7 : KW 2 0 a mm)
    (P1 : KW 10 2 255 h) (P2 : KW 4 a h tp) (P3 : KW 14 a 0 tp) (P4 : KW 22 31 a lo) (P5 : KW 5 a 256 lo) (P6 : KW 11 0 a xx)
    (P7 : KW 5 xx 256 lo) (P8 : KW 14 xx 128 1) (P9 : KW 2 0 129 m129) (P10 : KW 15 xx m129 1) (Hz : KW 17 a b z)
    (Ez : eq4 (lim z 0) (lim z 1) (lim z 2) (lim z 3) (lim 1 0) (lim 1 1) (lim 1 2) (lim 1 3) = t)
    (Ea : eq4 (lim a 0) (lim a 1) (lim a 2) (lim a 3) 0 0 0 0 = t) :
    Calls Try.prog 6 #[wd a, wd b] w fun e w' => e = .returned (.bool true) ∧ Below w.heap.size w w' := by
  have hS := heldL2 w a b
  dsimp only [put4] at hS
  go_enter Try.func6, Try.ntmps6
  go_upto_region 1 with fail
  generalize (w.alloc (.cells #[.int .u64 (lim a 0), .int .u64 (lim a 1), .int .u64 (lim a 2), .int .u64 (lim a 3)] 24)).alloc (.cells #[.int .u64 (lim b 0), .int .u64 (lim b 1), .int .u64 (lim b 2), .int .u64 (lim b 3)] 24) = W0 at hS ⊢
  go_wp2_with fail
  refine (of_ 2 (by decide) (by decide) _).mono ?_
  rintro e wq1 ⟨rfl, hbn⟩
  replace hS := hS.keep hbn
  clear hbn
  go_wp2_with fail
  refine (of_ 3 (by decide) (by decide) _).mono ?_
  rintro e wq2 ⟨rfl, hbn⟩
  replace hS := hS.keep hbn
  clear hbn
  go_wp2_with fail
  refine (H1 _).mono ?_
  rintro e wq3 ⟨rfl, hbn⟩
  replace hS := hS.keep hbn
  clear hbn
  go_wp2_with fail
  refine (t1 _).mono ?_
  rintro e wq4 ⟨rfl, hbn⟩
  replace hS := hS.keep hbn
  clear hbn
  go_wp2_with fail
  refine (of_ 0 (by decide) (by decide) _).mono ?_
  rintro e wq5 ⟨rfl, hbn⟩
  replace hS := hS.keep hbn
  clear hbn
  go_wp2_with fail
  refine (of_ 1 (by decide) (by decide) _).mono ?_
  rintro e wq6 ⟨rfl, hbn⟩
  replace hS := hS.keep hbn
  clear hbn
  go_wp2_with fail
  refine (H2 _).mono ?_
  rintro e wq7 ⟨rfl, hbn⟩
  replace hS := hS.keep hbn
  clear hbn
  go_wp2_with fail
  refine (of_ 0 (by decide) (by decide) _).mono ?_
  rintro e wq8 ⟨rfl, hbn⟩
  replace hS := hS.keep hbn
  clear hbn
  go_wp2_with fail
  refine (H3 _).mono ?_
  rintro e wq9 ⟨rfl, hbn⟩
  replace hS := hS.keep hbn
  clear hbn
  go_wp2_with fail
  refine (t1 _).mono ?_
  rintro e wq10 ⟨rfl, hbn⟩
  replace hS := hS.keep hbn
  clear hbn
  go_upto_region 2 with fail
  obtain ⟨k0_0, k0_1, k0_2, k0_3⟩ := hS.get (w.heap.size) (a) (.head _)
  obtain ⟨k1_0, k1_1, k1_2, k1_3⟩ := hS.get (w.heap.size + 1) (b) (.tail _ (.head _))
  go_wp2_with fail
  refine (Hl _).mono ?_
  rintro e wq11 ⟨rfl, hbn⟩
  replace hS := hS.keep hbn
  clear hbn k0_0 k0_1 k0_2 k0_3 k1_0 k1_1 k1_2 k1_3
  go_upto_region 3 with fail
  replace hS := hS.put l
  dsimp only [put4] at hS
  generalize wq11.alloc (.cells #[.int .u64 (lim l 0), .int .u64 (lim l 1), .int .u64 (lim l 2), .int .u64 (lim l 3)] 24) = Wq12 at hS ⊢
  obtain ⟨k0_0, k0_1, k0_2, k0_3⟩ := hS.get (w.heap.size) (a) (.tail _ (.head _))
  obtain ⟨k1_0, k1_1, k1_2, k1_3⟩ := hS.get (w.heap.size + 1) (b) (.tail _ (.tail _ (.head _)))
  go_wp2_with fail
  refine (Hg _).mono ?_
  rintro e wq13 ⟨rfl, hbn⟩
  replace hS := hS.keep hbn
  clear hbn k0_0 k0_1 k0_2 k0_3 k1_0 k1_1 k1_2 k1_3
  go_upto_region 4 with fail
  replace hS := hS.put g
  dsimp only [put4] at hS
  generalize wq13.alloc (.cells #[.int .u64 (lim g 0), .int .u64 (lim g 1), .int .u64 (lim g 2), .int .u64 (lim g 3)] 24) = Wq14 at hS ⊢
  obtain ⟨k0_0, k0_1, k0_2, k0_3⟩ := hS.get (w.heap.size) (a) (.tail _ (.tail _ (.head _)))
  obtain ⟨k1_0, k1_1, k1_2, k1_3⟩ := hS.get (w.heap.size + 1) (b) (.tail _ (.tail _ (.tail _ (.head _))))
  go_wp2_with fail
  refine (Hq _).mono ?_
  rintro e wq15 ⟨rfl, hbn⟩
  replace hS := hS.keep hbn
  clear hbn k0_0 k0_1 k0_2 k0_3 k1_0 k1_1 k1_2 k1_3
  go_upto_region 5 with fail
  replace hS := hS.put q
  dsimp only [put4] at hS
  generalize wq15.alloc (.cells #[.int .u64 (lim q 0), .int .u64 (lim q 1), .int .u64 (lim q 2), .int .u64 (lim q 3)] 24) = Wq16 at hS ⊢
  obtain ⟨k0_0, k0_1, k0_2, k0_3⟩ := hS.get (w.heap.size) (a) (.tail _ (.tail _ (.tail _ (.head _))))
  obtain ⟨k1_0, k1_1, k1_2, k1_3⟩ := hS.get (w.heap.size + 1) (b) (.tail _ (.tail _ (.tail _ (.tail _ (.head _)))))
  go_wp2_with fail
  refine (Hsl _).mono ?_
  rintro e wq17 ⟨rfl, hbn⟩
  replace hS := hS.keep hbn
  clear hbn k0_0 k0_1 k0_2 k0_3 k1_0 k1_1 k1_2 k1_3
  go_upto_region 6 with fail
  replace hS := hS.put sl
  dsimp only [put4] at hS
  generalize wq17.alloc (.cells #[.int .u64 (lim sl 0), .int .u64 (lim sl 1), .int .u64 (lim sl 2), .int .u64 (lim sl 3)] 24) = Wq18 at hS ⊢
  obtain ⟨k0_0, k0_1, k0_2, k0_3⟩ := hS.get (w.heap.size) (a) (.tail _ (.tail _ (.tail _ (.tail _ (.head _)))))
  obtain ⟨k1_0, k1_1, k1_2, k1_3⟩ := hS.get (w.heap.size + 1) (b) (.tail _ (.tail _ (.tail _ (.tail _ (.tail _ (.head _))))))
  go_wp2_with fail
  refine (Hsg _).mono ?_
  rintro e wq19 ⟨rfl, hbn⟩
  replace hS := hS.keep hbn
  clear hbn k0_0 k0_1 k0_2 k0_3 k1_0 k1_1 k1_2 k1_3
  go_upto_region 7 with fail
  replace hS := hS.put sg
  dsimp only [put4] at hS
  generalize wq19.alloc (.cells #[.int .u64 (lim sg 0), .int .u64 (lim sg 1), .int .u64 (lim sg 2), .int .u64 (lim sg 3)] 24) = Wq20 at hS ⊢
  refine wp_region_held_drew (S := fun W => HeldL w W [(wq19.heap.size, sg), (wq17.heap.size, sl), (wq15.heap.size, q), (wq13.heap.size, g), (wq11.heap.size, l), (w.heap.size, a), (w.heap.size + 1, b)]) (by kernel_rfl) hS.drew (fun hH => ?_)
  clear hS
  refine take_d (i := 0) (d := some 51) (v := .agg #[.int .u64 (lim l 0), .int .u64 (lim l 1), .int .u64 (lim l 2), .int .u64 (lim l 3)]) rfl rfl (by kernel_rfl) (by kernel_rfl) (by kernel_rfl) (fun _ _ _ h => h) (Or.inl ⟨by rfl, fun W hW => ?_⟩) hH ?_
  · obtain ⟨k0_0, k0_1, k0_2, k0_3⟩ := hW.get (wq11.heap.size) (l) (.tail _ (.tail _ (.tail _ (.tail _ (.head _)))))
    clear hW hH
    go_simp
  simp only [Act.put, List.setIfInBounds_toArray, List.set_cons_zero, List.set_cons_succ]
  refine take_d (i := 1) (d := some 52) (v := .agg #[.int .u64 (lim g 0), .int .u64 (lim g 1), .int .u64 (lim g 2), .int .u64 (lim g 3)]) rfl rfl (by kernel_rfl) (by kernel_rfl) (by kernel_rfl) (fun _ _ _ h => h) (Or.inl ⟨by rfl, fun W hW => ?_⟩) hH ?_
  · obtain ⟨k0_0, k0_1, k0_2, k0_3⟩ := hW.get (wq13.heap.size) (g) (.tail _ (.tail _ (.tail _ (.head _))))
    clear hW hH
    go_simp
  simp only [Act.put, List.setIfInBounds_toArray, List.set_cons_zero, List.set_cons_succ]
  refine take_d (i := 3) (d := some 54) (v := .agg #[.int .u64 (lim q 0), .int .u64 (lim q 1), .int .u64 (lim q 2), .int .u64 (lim q 3)]) rfl rfl (by kernel_rfl) (by kernel_rfl) (by kernel_rfl) (fun _ _ _ h => h) (Or.inl ⟨by rfl, fun W hW => ?_⟩) hH ?_
  · obtain ⟨k0_0, k0_1, k0_2, k0_3⟩ := hW.get (wq15.heap.size) (q) (.tail _ (.tail _ (.head _)))
    clear hW hH
    go_simp
  simp only [Act.put, List.setIfInBounds_toArray, List.set_cons_zero, List.set_cons_succ]
  refine wpAnyH_ready (rs := [2]) (by kernel_rfl) (by simp) ?_
  refine AllReadyH.cons rfl (fun K hK => ?_) AllReadyH.nil
  go_simp
  refine (J1 _).mono ?_
  rintro e wq21 ⟨rfl, hbn⟩
  go_wp2_with fail
  refine hK.out _ _ (HeldL.keep hH hbn) (fun hH => ?_)
  clear hbn hK K
  refine wpAnyH_ready (rs := [4]) (by kernel_rfl) (by simp) ?_
  refine AllReadyH.cons rfl (fun K hK => ?_) AllReadyH.nil
  go_simp
  refine (J2 _).mono ?_
  rintro e wq22 ⟨rfl, hbn⟩
  go_wp2_with fail
  refine hK.out _ _ (HeldL.keep hH hbn) (fun hH => ?_)
  clear hbn hK K
  refine wpAnyH_ready (rs := [5]) (by kernel_rfl) (by simp) ?_
  refine AllReadyH.cons rfl (fun K hK => ?_) AllReadyH.nil
  go_simp
  refine (of_ 1 (by decide) (by decide) _).mono ?_
  rintro e wq23 ⟨rfl, hbn⟩
  go_wp2_with fail
  refine hK.out _ _ (HeldL.keep hH hbn) (fun hH => ?_)
  clear hbn hK K
  refine take_d (i := 6) (d := some 57) (v := .bool true) rfl rfl (by kernel_rfl) (by kernel_rfl) (by kernel_rfl) (fun _ _ _ h => h) (Or.inl ⟨by rfl, fun W hW => ?_⟩) hH ?_
  · clear hW hH
    go_simp
  simp only [Act.put, List.setIfInBounds_toArray, List.set_cons_zero, List.set_cons_succ]
  refine take_d (i := 7) (d := some 58) (v := .bool true) rfl rfl (by kernel_rfl) (by kernel_rfl) (by kernel_rfl) (fun _ _ _ h => h) (Or.inl ⟨by rfl, fun W hW => ?_⟩) hH ?_
  · clear hW hH
    go_simp
  simp only [Act.put, List.setIfInBounds_toArray, List.set_cons_zero, List.set_cons_succ]
  refine take_d (i := 8) (d := some 59) (v := .agg #[.int .u64 (lim sl 0), .int .u64 (lim sl 1), .int .u64 (lim sl 2), .int .u64 (lim sl 3)]) rfl rfl (by kernel_rfl) (by kernel_rfl) (by kernel_rfl) (fun _ _ _ h => h) (Or.inl ⟨by rfl, fun W hW => ?_⟩) hH ?_
  · obtain ⟨k0_0, k0_1, k0_2, k0_3⟩ := hW.get (wq17.heap.size) (sl) (.tail _ (.head _))
    clear hW hH
    go_simp
  simp only [Act.put, List.setIfInBounds_toArray, List.set_cons_zero, List.set_cons_succ]
  refine take_d (i := 9) (d := some 60) (v := .agg #[.int .u64 (lim sg 0), .int .u64 (lim sg 1), .int .u64 (lim sg 2), .int .u64 (lim sg 3)]) rfl rfl (by kernel_rfl) (by kernel_rfl) (by kernel_rfl) (fun _ _ _ h => h) (Or.inl ⟨by rfl, fun W hW => ?_⟩) hH ?_
  · obtain ⟨k0_0, k0_1, k0_2, k0_3⟩ := hW.get (wq19.heap.size) (sg) (.head _)
    clear hW hH
    go_simp
  simp only [Act.put, List.setIfInBounds_toArray, List.set_cons_zero, List.set_cons_succ]
  refine take_d (i := 11) (d := some 62) (v := .agg #[.int .u64 (lim q 0), .int .u64 (lim q 1), .int .u64 (lim q 2), .int .u64 (lim q 3)]) rfl rfl (by kernel_rfl) (by kernel_rfl) (by kernel_rfl) (fun _ _ _ h => h) (Or.inl ⟨by rfl, fun W hW => ?_⟩) hH ?_
  · obtain ⟨k0_0, k0_1, k0_2, k0_3⟩ := hW.get (wq15.heap.size) (q) (.tail _ (.tail _ (.head _)))
    clear hW hH
    go_simp
  simp only [Act.put, List.setIfInBounds_toArray, List.set_cons_zero, List.set_cons_succ]
  refine wpAnyH_ready (rs := [10]) (by kernel_rfl) (by simp) ?_
  refine AllReadyH.cons rfl (fun K hK => ?_) AllReadyH.nil
  go_simp
  refine (J3 _).mono ?_
  rintro e wq24 ⟨rfl, hbn⟩
  go_wp2_with fail
  refine hK.out _ _ (HeldL.keep hH hbn) (fun hH => ?_)
  clear hbn hK K
  refine wpAnyH_ready (rs := [12]) (by kernel_rfl) (by simp) ?_
  refine AllReadyH.cons rfl (fun K hK => ?_) AllReadyH.nil
  go_simp
  refine (J4 _).mono ?_
  rintro e wq25 ⟨rfl, hbn⟩
  go_wp2_with fail
  refine hK.out _ _ (HeldL.keep hH hbn) (fun hH => ?_)
  clear hbn hK K
  refine wpAnyH_ready (rs := [13]) (by kernel_rfl) (by simp) ?_
  refine AllReadyH.cons rfl (fun K hK => ?_) AllReadyH.nil
  go_simp
  refine (of_ 1 (by decide) (by decide) _).mono ?_
  rintro e wq26 ⟨rfl, hbn⟩
  go_wp2_with fail
  refine hK.out _ _ (HeldL.keep hH hbn) (fun hH => ?_)
  clear hbn hK K
  refine take_d (i := 14) (d := some 65) (v := .bool true) rfl rfl (by kernel_rfl) (by kernel_rfl) (by kernel_rfl) (fun _ _ _ h => h) (Or.inl ⟨by rfl, fun W hW => ?_⟩) hH ?_
  · clear hW hH
    go_simp
  simp only [Act.put, List.setIfInBounds_toArray, List.set_cons_zero, List.set_cons_succ]
  refine take_d (i := 15) (d := some 66) (v := .bool true) rfl rfl (by kernel_rfl) (by kernel_rfl) (by kernel_rfl) (fun _ _ _ h => h) (Or.inl ⟨by rfl, fun W hW => ?_⟩) hH ?_
  · clear hW hH
    go_simp
  simp only [Act.put, List.setIfInBounds_toArray, List.set_cons_zero, List.set_cons_succ]
  refine take_d (i := 16) (d := some 67) (v := .bool true) rfl rfl (by kernel_rfl) (by kernel_rfl) (by kernel_rfl) (fun _ _ _ h => h) (Or.inl ⟨by rfl, fun W hW => ?_⟩) hH ?_
  · clear hW hH
    go_simp
  simp only [Act.put, List.setIfInBounds_toArray, List.set_cons_zero, List.set_cons_succ]
  refine take_d (i := 17) (d := some 68) (v := .agg #[.int .u64 (lim l 0), .int .u64 (lim l 1), .int .u64 (lim l 2), .int .u64 (lim l 3)]) rfl rfl (by kernel_rfl) (by kernel_rfl) (by kernel_rfl) (fun _ _ _ h => h) (Or.inl ⟨by rfl, fun W hW => ?_⟩) hH ?_
  · obtain ⟨k0_0, k0_1, k0_2, k0_3⟩ := hW.get (wq11.heap.size) (l) (.tail _ (.tail _ (.tail _ (.tail _ (.head _)))))
    clear hW hH
    go_simp
  simp only [Act.put, List.setIfInBounds_toArray, List.set_cons_zero, List.set_cons_succ]
  refine take_d (i := 18) (d := some 69) (v := .agg #[.int .u64 (lim a 0), .int .u64 (lim a 1), .int .u64 (lim a 2), .int .u64 (lim a 3)]) rfl rfl (by kernel_rfl) (by kernel_rfl) (by kernel_rfl) (fun _ _ _ h => h) (Or.inl ⟨by rfl, fun W hW => ?_⟩) hH ?_
  · obtain ⟨k0_0, k0_1, k0_2, k0_3⟩ := hW.get (w.heap.size) (a) (.tail _ (.tail _ (.tail _ (.tail _ (.tail _ (.head _))))))
    clear hW hH
    go_simp
  simp only [Act.put, List.setIfInBounds_toArray, List.set_cons_zero, List.set_cons_succ]
  refine take_d (i := 19) (d := some 70) (v := .agg #[.int .u64 (lim b 0), .int .u64 (lim b 1), .int .u64 (lim b 2), .int .u64 (lim b 3)]) rfl rfl (by kernel_rfl) (by kernel_rfl) (by kernel_rfl) (fun _ _ _ h => h) (Or.inl ⟨by rfl, fun W hW => ?_⟩) hH ?_
  · obtain ⟨k0_0, k0_1, k0_2, k0_3⟩ := hW.get (w.heap.size + 1) (b) (.tail _ (.tail _ (.tail _ (.tail _ (.tail _ (.tail _ (.head _)))))))
    clear hW hH
    go_simp
  simp only [Act.put, List.setIfInBounds_toArray, List.set_cons_zero, List.set_cons_succ]
  refine wpAnyH_ready (rs := [20]) (by kernel_rfl) (by simp) ?_
  refine AllReadyH.cons rfl (fun K hK => ?_) AllReadyH.nil
  go_simp
  refine (Hl _).mono ?_
  rintro e wq27 ⟨rfl, hbn⟩
  go_wp2_with fail
  refine hK.out _ _ (HeldL.keep hH hbn) (fun hH => ?_)
  clear hbn hK K
  refine take_d (i := 21) (d := some 72) (v := .bool true) rfl rfl (by kernel_rfl) (by kernel_rfl) (by kernel_rfl) (fun _ _ _ h => h) (Or.inl ⟨by rfl, fun W hW => ?_⟩) hH ?_
  · clear hW hH
    go_simp
  simp only [Act.put, List.setIfInBounds_toArray, List.set_cons_zero, List.set_cons_succ]
  refine take_d (i := 22) (d := some 73) (v := .bool true) rfl rfl (by kernel_rfl) (by kernel_rfl) (by kernel_rfl) (fun _ _ _ h => h) (Or.inl ⟨by rfl, fun W hW => ?_⟩) hH ?_
  · clear hW hH
    go_simp
  simp only [Act.put, List.setIfInBounds_toArray, List.set_cons_zero, List.set_cons_succ]
  refine take_d (i := 23) (d := some 74) (v := .bool true) rfl rfl (by kernel_rfl) (by kernel_rfl) (by kernel_rfl) (fun _ _ _ h => h) (Or.inl ⟨by rfl, fun W hW => ?_⟩) hH ?_
  · clear hW hH
    go_simp
  simp only [Act.put, List.setIfInBounds_toArray, List.set_cons_zero, List.set_cons_succ]
  refine take_d (i := 24) (d := some 75) (v := .agg #[.int .u64 (lim g 0), .int .u64 (lim g 1), .int .u64 (lim g 2), .int .u64 (lim g 3)]) rfl rfl (by kernel_rfl) (by kernel_rfl) (by kernel_rfl) (fun _ _ _ h => h) (Or.inl ⟨by rfl, fun W hW => ?_⟩) hH ?_
  · obtain ⟨k0_0, k0_1, k0_2, k0_3⟩ := hW.get (wq13.heap.size) (g) (.tail _ (.tail _ (.tail _ (.head _))))
    clear hW hH
    go_simp
  simp only [Act.put, List.setIfInBounds_toArray, List.set_cons_zero, List.set_cons_succ]
  refine take_d (i := 25) (d := some 76) (v := .agg #[.int .u64 (lim b 0), .int .u64 (lim b 1), .int .u64 (lim b 2), .int .u64 (lim b 3)]) rfl rfl (by kernel_rfl) (by kernel_rfl) (by kernel_rfl) (fun _ _ _ h => h) (Or.inl ⟨by rfl, fun W hW => ?_⟩) hH ?_
  · obtain ⟨k0_0, k0_1, k0_2, k0_3⟩ := hW.get (w.heap.size + 1) (b) (.tail _ (.tail _ (.tail _ (.tail _ (.tail _ (.tail _ (.head _)))))))
    clear hW hH
    go_simp
  simp only [Act.put, List.setIfInBounds_toArray, List.set_cons_zero, List.set_cons_succ]
  refine take_d (i := 26) (d := some 77) (v := .agg #[.int .u64 (lim a 0), .int .u64 (lim a 1), .int .u64 (lim a 2), .int .u64 (lim a 3)]) rfl rfl (by kernel_rfl) (by kernel_rfl) (by kernel_rfl) (fun _ _ _ h => h) (Or.inl ⟨by rfl, fun W hW => ?_⟩) hH ?_
  · obtain ⟨k0_0, k0_1, k0_2, k0_3⟩ := hW.get (w.heap.size) (a) (.tail _ (.tail _ (.tail _ (.tail _ (.tail _ (.head _))))))
    clear hW hH
    go_simp
  simp only [Act.put, List.setIfInBounds_toArray, List.set_cons_zero, List.set_cons_succ]
  refine wpAnyH_ready (rs := [27]) (by kernel_rfl) (by simp) ?_
  refine AllReadyH.cons rfl (fun K hK => ?_) AllReadyH.nil
  go_simp
  refine (J5 _).mono ?_
  rintro e wq28 ⟨rfl, hbn⟩
  go_wp2_with fail
  refine hK.out _ _ (HeldL.keep hH hbn) (fun hH => ?_)
  clear hbn hK K
  refine take_d (i := 28) (d := some 79) (v := .bool true) rfl rfl (by kernel_rfl) (by kernel_rfl) (by kernel_rfl) (fun _ _ _ h => h) (Or.inl ⟨by rfl, fun W hW => ?_⟩) hH ?_
  · clear hW hH
    go_simp
  simp only [Act.put, List.setIfInBounds_toArray, List.set_cons_zero, List.set_cons_succ]
  refine take_d (i := 29) (d := some 80) (v := .bool true) rfl rfl (by kernel_rfl) (by kernel_rfl) (by kernel_rfl) (fun _ _ _ h => h) (Or.inl ⟨by rfl, fun W hW => ?_⟩) hH ?_
  · clear hW hH
    go_simp
  simp only [Act.put, List.setIfInBounds_toArray, List.set_cons_zero, List.set_cons_succ]
  refine take_d (i := 30) (d := some 81) (v := .bool true) rfl rfl (by kernel_rfl) (by kernel_rfl) (by kernel_rfl) (fun _ _ _ h => h) (Or.inl ⟨by rfl, fun W hW => ?_⟩) hH ?_
  · clear hW hH
    go_simp
  simp only [Act.put, List.setIfInBounds_toArray, List.set_cons_zero, List.set_cons_succ]
  refine take_d (i := 31) (d := some 82) (v := .agg #[.int .u64 (lim sg 0), .int .u64 (lim sg 1), .int .u64 (lim sg 2), .int .u64 (lim sg 3)]) rfl rfl (by kernel_rfl) (by kernel_rfl) (by kernel_rfl) (fun _ _ _ h => h) (Or.inl ⟨by rfl, fun W hW => ?_⟩) hH ?_
  · obtain ⟨k0_0, k0_1, k0_2, k0_3⟩ := hW.get (wq19.heap.size) (sg) (.head _)
    clear hW hH
    go_simp
  simp only [Act.put, List.setIfInBounds_toArray, List.set_cons_zero, List.set_cons_succ]
  refine take_d (i := 32) (d := some 83) (v := .agg #[.int .u64 (lim b 0), .int .u64 (lim b 1), .int .u64 (lim b 2), .int .u64 (lim b 3)]) rfl rfl (by kernel_rfl) (by kernel_rfl) (by kernel_rfl) (fun _ _ _ h => h) (Or.inl ⟨by rfl, fun W hW => ?_⟩) hH ?_
  · obtain ⟨k0_0, k0_1, k0_2, k0_3⟩ := hW.get (w.heap.size + 1) (b) (.tail _ (.tail _ (.tail _ (.tail _ (.tail _ (.tail _ (.head _)))))))
    clear hW hH
    go_simp
  simp only [Act.put, List.setIfInBounds_toArray, List.set_cons_zero, List.set_cons_succ]
  refine take_d (i := 33) (d := some 84) (v := .agg #[.int .u64 (lim a 0), .int .u64 (lim a 1), .int .u64 (lim a 2), .int .u64 (lim a 3)]) rfl rfl (by kernel_rfl) (by kernel_rfl) (by kernel_rfl) (fun _ _ _ h => h) (Or.inl ⟨by rfl, fun W hW => ?_⟩) hH ?_
  · obtain ⟨k0_0, k0_1, k0_2, k0_3⟩ := hW.get (w.heap.size) (a) (.tail _ (.tail _ (.tail _ (.tail _ (.tail _ (.head _))))))
    clear hW hH
    go_simp
  simp only [Act.put, List.setIfInBounds_toArray, List.set_cons_zero, List.set_cons_succ]
  refine wpAnyH_ready (rs := [34]) (by kernel_rfl) (by simp) ?_
  refine AllReadyH.cons rfl (fun K hK => ?_) AllReadyH.nil
  go_simp
  refine (J6 _).mono ?_
  rintro e wq29 ⟨rfl, hbn⟩
  go_wp2_with fail
  refine hK.out _ _ (HeldL.keep hH hbn) (fun hH => ?_)
  clear hbn hK K
  refine take_d (i := 35) (d := some 86) (v := .bool true) rfl rfl (by kernel_rfl) (by kernel_rfl) (by kernel_rfl) (fun _ _ _ h => h) (Or.inl ⟨by rfl, fun W hW => ?_⟩) hH ?_
  · clear hW hH
    go_simp
  simp only [Act.put, List.setIfInBounds_toArray, List.set_cons_zero, List.set_cons_succ]
  refine take_d (i := 36) (d := some 87) (v := .bool true) rfl rfl (by kernel_rfl) (by kernel_rfl) (by kernel_rfl) (fun _ _ _ h => h) (Or.inl ⟨by rfl, fun W hW => ?_⟩) hH ?_
  · clear hW hH
    go_simp
  simp only [Act.put, List.setIfInBounds_toArray, List.set_cons_zero, List.set_cons_succ]
  refine take_d (i := 37) (d := some 11) (v := .bool true) rfl rfl (by kernel_rfl) (by kernel_rfl) (by kernel_rfl) (fun _ _ _ h => h) (Or.inl ⟨by rfl, fun W hW => ?_⟩) hH ?_
  · clear hW hH
    go_simp
  simp only [Act.put, List.setIfInBounds_toArray, List.set_cons_zero, List.set_cons_succ]
  refine wpAnyH_done (by kernel_rfl) ?_ _
  have hS := hH
  clear hH
  go_upto_region 8 with fail
  clear H1 H2 H3 Hl Hg Hq Hsl Hsg J1 J2 J3 J4 J5 J6
  obtain ⟨k0_0, k0_1, k0_2, k0_3⟩ := hS.get (w.heap.size) (a) (.tail _ (.tail _ (.tail _ (.tail _ (.tail _ (.head _))))))
  obtain ⟨k1_0, k1_1, k1_2, k1_3⟩ := hS.get (w.heap.size + 1) (b) (.tail _ (.tail _ (.tail _ (.tail _ (.tail _ (.tail _ (.head _)))))))
  go_wp2_with fail
  refine (Ha _).mono ?_
  rintro e wq30 ⟨rfl, hbn⟩
  replace hS := hS.keep hbn
  clear hbn k0_0 k0_1 k0_2 k0_3 k1_0 k1_1 k1_2 k1_3
  go_upto_region 9 with fail
  replace hS := hS.put an
  dsimp only [put4] at hS
  generalize wq30.alloc (.cells #[.int .u64 (lim an 0), .int .u64 (lim an 1), .int .u64 (lim an 2), .int .u64 (lim an 3)] 24) = Wq31 at hS ⊢
  obtain ⟨k0_0, k0_1, k0_2, k0_3⟩ := hS.get (w.heap.size) (a) (.tail _ (.tail _ (.tail _ (.tail _ (.tail _ (.tail _ (.head _)))))))
  obtain ⟨k1_0, k1_1, k1_2, k1_3⟩ := hS.get (w.heap.size + 1) (b) (.tail _ (.tail _ (.tail _ (.tail _ (.tail _ (.tail _ (.tail _ (.head _))))))))
  go_wp2_with fail
  refine (Ho _).mono ?_
  rintro e wq32 ⟨rfl, hbn⟩
  replace hS := hS.keep hbn
  clear hbn k0_0 k0_1 k0_2 k0_3 k1_0 k1_1 k1_2 k1_3
  go_upto_region 10 with fail
  replace hS := hS.put o1
  dsimp only [put4] at hS
  generalize wq32.alloc (.cells #[.int .u64 (lim o1 0), .int .u64 (lim o1 1), .int .u64 (lim o1 2), .int .u64 (lim o1 3)] 24) = Wq33 at hS ⊢
  obtain ⟨k0_0, k0_1, k0_2, k0_3⟩ := hS.get (w.heap.size) (a) (.tail _ (.tail _ (.tail _ (.tail _ (.tail _ (.tail _ (.tail _ (.head _))))))))
  obtain ⟨k1_0, k1_1, k1_2, k1_3⟩ := hS.get (w.heap.size + 1) (b) (.tail _ (.tail _ (.tail _ (.tail _ (.tail _ (.tail _ (.tail _ (.tail _ (.head _)))))))))
  go_wp2_with fail
  refine (Hx _).mono ?_
  rintro e wq34 ⟨rfl, hbn⟩
  replace hS := hS.keep hbn
  clear hbn k0_0 k0_1 k0_2 k0_3 k1_0 k1_1 k1_2 k1_3
  go_upto_region 11 with fail
  replace hS := hS.put x1
  dsimp only [put4] at hS
  generalize wq34.alloc (.cells #[.int .u64 (lim x1 0), .int .u64 (lim x1 1), .int .u64 (lim x1 2), .int .u64 (lim x1 3)] 24) = Wq35 at hS ⊢
  obtain ⟨k0_0, k0_1, k0_2, k0_3⟩ := hS.get (w.heap.size) (a) (.tail _ (.tail _ (.tail _ (.tail _ (.tail _ (.tail _ (.tail _ (.tail _ (.head _)))))))))
  obtain ⟨k1_0, k1_1, k1_2, k1_3⟩ := hS.get (w.heap.size + 1) (b) (.tail _ (.tail _ (.tail _ (.tail _ (.tail _ (.tail _ (.tail _ (.tail _ (.tail _ (.head _))))))))))
  go_wp2_with fail
  refine (Hna _).mono ?_
  rintro e wq36 ⟨rfl, hbn⟩
  replace hS := hS.keep hbn
  clear hbn k0_0 k0_1 k0_2 k0_3 k1_0 k1_1 k1_2 k1_3
  go_upto_region 12 with fail
  replace hS := hS.put na
  dsimp only [put4] at hS
  generalize wq36.alloc (.cells #[.int .u64 (lim na 0), .int .u64 (lim na 1), .int .u64 (lim na 2), .int .u64 (lim na 3)] 24) = Wq37 at hS ⊢
  obtain ⟨k0_0, k0_1, k0_2, k0_3⟩ := hS.get (w.heap.size + 1) (b) (.tail _ (.tail _ (.tail _ (.tail _ (.tail _ (.tail _ (.tail _ (.tail _ (.tail _ (.tail _ (.head _)))))))))))
  obtain ⟨k1_0, k1_1, k1_2, k1_3⟩ := hS.get (w.heap.size) (a) (.tail _ (.tail _ (.tail _ (.tail _ (.tail _ (.tail _ (.tail _ (.tail _ (.tail _ (.head _))))))))))
  go_wp2_with fail
  refine (Hnb _).mono ?_
  rintro e wq38 ⟨rfl, hbn⟩
  replace hS := hS.keep hbn
  clear hbn k0_0 k0_1 k0_2 k0_3 k1_0 k1_1 k1_2 k1_3
  go_upto_region 13 with fail
  replace hS := hS.put nb
  dsimp only [put4] at hS
  generalize wq38.alloc (.cells #[.int .u64 (lim nb 0), .int .u64 (lim nb 1), .int .u64 (lim nb 2), .int .u64 (lim nb 3)] 24) = Wq39 at hS ⊢
  refine wp_region_held_drew (S := fun W => HeldL w W [(wq38.heap.size, nb), (wq36.heap.size, na), (wq34.heap.size, x1), (wq32.heap.size, o1), (wq30.heap.size, an), (wq19.heap.size, sg), (wq17.heap.size, sl), (wq15.heap.size, q), (wq13.heap.size, g), (wq11.heap.size, l), (w.heap.size, a), (w.heap.size + 1, b)]) (by kernel_rfl) hS.drew (fun hH => ?_)
  clear hS
  refine take_d (i := 0) (d := some 103) (v := .agg #[.int .u64 (lim an 0), .int .u64 (lim an 1), .int .u64 (lim an 2), .int .u64 (lim an 3)]) rfl rfl (by kernel_rfl) (by kernel_rfl) (by kernel_rfl) (fun _ _ _ h => h) (Or.inl ⟨by rfl, fun W hW => ?_⟩) hH ?_
  · obtain ⟨k0_0, k0_1, k0_2, k0_3⟩ := hW.get (wq30.heap.size) (an) (.tail _ (.tail _ (.tail _ (.tail _ (.head _)))))
    clear hW hH
    go_simp
  simp only [Act.put, List.setIfInBounds_toArray, List.set_cons_zero, List.set_cons_succ]
  refine take_d (i := 1) (d := some 104) (v := .agg #[.int .u64 (lim o1 0), .int .u64 (lim o1 1), .int .u64 (lim o1 2), .int .u64 (lim o1 3)]) rfl rfl (by kernel_rfl) (by kernel_rfl) (by kernel_rfl) (fun _ _ _ h => h) (Or.inl ⟨by rfl, fun W hW => ?_⟩) hH ?_
  · obtain ⟨k0_0, k0_1, k0_2, k0_3⟩ := hW.get (wq32.heap.size) (o1) (.tail _ (.tail _ (.tail _ (.head _))))
    clear hW hH
    go_simp
  simp only [Act.put, List.setIfInBounds_toArray, List.set_cons_zero, List.set_cons_succ]
  refine take_d (i := 3) (d := some 106) (v := .agg #[.int .u64 (lim a 0), .int .u64 (lim a 1), .int .u64 (lim a 2), .int .u64 (lim a 3)]) rfl rfl (by kernel_rfl) (by kernel_rfl) (by kernel_rfl) (fun _ _ _ h => h) (Or.inl ⟨by rfl, fun W hW => ?_⟩) hH ?_
  · obtain ⟨k0_0, k0_1, k0_2, k0_3⟩ := hW.get (w.heap.size) (a) (.tail _ (.tail _ (.tail _ (.tail _ (.tail _ (.tail _ (.tail _ (.tail _ (.tail _ (.tail _ (.head _)))))))))))
    clear hW hH
    go_simp
  simp only [Act.put, List.setIfInBounds_toArray, List.set_cons_zero, List.set_cons_succ]
  refine take_d (i := 4) (d := some 107) (v := .agg #[.int .u64 (lim b 0), .int .u64 (lim b 1), .int .u64 (lim b 2), .int .u64 (lim b 3)]) rfl rfl (by kernel_rfl) (by kernel_rfl) (by kernel_rfl) (fun _ _ _ h => h) (Or.inl ⟨by rfl, fun W hW => ?_⟩) hH ?_
  · obtain ⟨k0_0, k0_1, k0_2, k0_3⟩ := hW.get (w.heap.size + 1) (b) (.tail _ (.tail _ (.tail _ (.tail _ (.tail _ (.tail _ (.tail _ (.tail _ (.tail _ (.tail _ (.tail _ (.head _))))))))))))
    clear hW hH
    go_simp
  simp only [Act.put, List.setIfInBounds_toArray, List.set_cons_zero, List.set_cons_succ]
  refine wpAnyH_ready (rs := [2]) (by kernel_rfl) (by simp) ?_
  refine AllReadyH.cons rfl (fun K hK => ?_) AllReadyH.nil
  go_simp
  refine (L1 _).mono ?_
  rintro e wq40 ⟨rfl, hbn⟩
  go_wp2_with fail
  refine hK.out _ _ (HeldL.keep hH hbn) (fun hH => ?_)
  clear hbn hK K
  refine wpAnyH_ready (rs := [5]) (by kernel_rfl) (by simp) ?_
  refine AllReadyH.cons rfl (fun K hK => ?_) AllReadyH.nil
  go_simp
  refine (L2 _).mono ?_
  rintro e wq41 ⟨rfl, hbn⟩
  go_wp2_with fail
  refine hK.out _ _ (HeldL.keep hH hbn) (fun hH => ?_)
  clear hbn hK K
  refine take_d (i := 6) (d := some 109) (v := .bool true) rfl rfl (by kernel_rfl) (by kernel_rfl) (by kernel_rfl) (fun _ _ _ h => h) (Or.inl ⟨by rfl, fun W hW => ?_⟩) hH ?_
  · clear hW hH
    go_simp
  simp only [Act.put, List.setIfInBounds_toArray, List.set_cons_zero, List.set_cons_succ]
  refine take_d (i := 7) (d := some 110) (v := .bool true) rfl rfl (by kernel_rfl) (by kernel_rfl) (by kernel_rfl) (fun _ _ _ h => h) (Or.inl ⟨by rfl, fun W hW => ?_⟩) hH ?_
  · clear hW hH
    go_simp
  simp only [Act.put, List.setIfInBounds_toArray, List.set_cons_zero, List.set_cons_succ]
  refine take_d (i := 8) (d := some 111) (v := .agg #[.int .u64 (lim o1 0), .int .u64 (lim o1 1), .int .u64 (lim o1 2), .int .u64 (lim o1 3)]) rfl rfl (by kernel_rfl) (by kernel_rfl) (by kernel_rfl) (fun _ _ _ h => h) (Or.inl ⟨by rfl, fun W hW => ?_⟩) hH ?_
  · obtain ⟨k0_0, k0_1, k0_2, k0_3⟩ := hW.get (wq32.heap.size) (o1) (.tail _ (.tail _ (.tail _ (.head _))))
    clear hW hH
    go_simp
  simp only [Act.put, List.setIfInBounds_toArray, List.set_cons_zero, List.set_cons_succ]
  refine take_d (i := 9) (d := some 112) (v := .agg #[.int .u64 (lim an 0), .int .u64 (lim an 1), .int .u64 (lim an 2), .int .u64 (lim an 3)]) rfl rfl (by kernel_rfl) (by kernel_rfl) (by kernel_rfl) (fun _ _ _ h => h) (Or.inl ⟨by rfl, fun W hW => ?_⟩) hH ?_
  · obtain ⟨k0_0, k0_1, k0_2, k0_3⟩ := hW.get (wq30.heap.size) (an) (.tail _ (.tail _ (.tail _ (.tail _ (.head _)))))
    clear hW hH
    go_simp
  simp only [Act.put, List.setIfInBounds_toArray, List.set_cons_zero, List.set_cons_succ]
  refine take_d (i := 11) (d := some 114) (v := .agg #[.int .u64 (lim x1 0), .int .u64 (lim x1 1), .int .u64 (lim x1 2), .int .u64 (lim x1 3)]) rfl rfl (by kernel_rfl) (by kernel_rfl) (by kernel_rfl) (fun _ _ _ h => h) (Or.inl ⟨by rfl, fun W hW => ?_⟩) hH ?_
  · obtain ⟨k0_0, k0_1, k0_2, k0_3⟩ := hW.get (wq34.heap.size) (x1) (.tail _ (.tail _ (.head _)))
    clear hW hH
    go_simp
  simp only [Act.put, List.setIfInBounds_toArray, List.set_cons_zero, List.set_cons_succ]
  refine wpAnyH_ready (rs := [10]) (by kernel_rfl) (by simp) ?_
  refine AllReadyH.cons rfl (fun K hK => ?_) AllReadyH.nil
  go_simp
  refine (L3 _).mono ?_
  rintro e wq42 ⟨rfl, hbn⟩
  go_wp2_with fail
  refine hK.out _ _ (HeldL.keep hH hbn) (fun hH => ?_)
  clear hbn hK K
  refine take_d (i := 12) (d := some 115) (v := .bool true) rfl rfl (by kernel_rfl) (by kernel_rfl) (by kernel_rfl) (fun _ _ _ h => h) (Or.inl ⟨by rfl, fun W hW => ?_⟩) hH ?_
  · clear hW hH
    go_simp
  simp only [Act.put, List.setIfInBounds_toArray, List.set_cons_zero, List.set_cons_succ]
  refine take_d (i := 13) (d := some 116) (v := .bool true) rfl rfl (by kernel_rfl) (by kernel_rfl) (by kernel_rfl) (fun _ _ _ h => h) (Or.inl ⟨by rfl, fun W hW => ?_⟩) hH ?_
  · clear hW hH
    go_simp
  simp only [Act.put, List.setIfInBounds_toArray, List.set_cons_zero, List.set_cons_succ]
  refine take_d (i := 14) (d := some 117) (v := .bool true) rfl rfl (by kernel_rfl) (by kernel_rfl) (by kernel_rfl) (fun _ _ _ h => h) (Or.inl ⟨by rfl, fun W hW => ?_⟩) hH ?_
  · clear hW hH
    go_simp
  simp only [Act.put, List.setIfInBounds_toArray, List.set_cons_zero, List.set_cons_succ]
  refine take_d (i := 15) (d := some 118) (v := .agg #[.int .u64 (lim an 0), .int .u64 (lim an 1), .int .u64 (lim an 2), .int .u64 (lim an 3)]) rfl rfl (by kernel_rfl) (by kernel_rfl) (by kernel_rfl) (fun _ _ _ h => h) (Or.inl ⟨by rfl, fun W hW => ?_⟩) hH ?_
  · obtain ⟨k0_0, k0_1, k0_2, k0_3⟩ := hW.get (wq30.heap.size) (an) (.tail _ (.tail _ (.tail _ (.tail _ (.head _)))))
    clear hW hH
    go_simp
  simp only [Act.put, List.setIfInBounds_toArray, List.set_cons_zero, List.set_cons_succ]
  refine take_d (i := 16) (d := some 119) (v := .agg #[.int .u64 (lim a 0), .int .u64 (lim a 1), .int .u64 (lim a 2), .int .u64 (lim a 3)]) rfl rfl (by kernel_rfl) (by kernel_rfl) (by kernel_rfl) (fun _ _ _ h => h) (Or.inl ⟨by rfl, fun W hW => ?_⟩) hH ?_
  · obtain ⟨k0_0, k0_1, k0_2, k0_3⟩ := hW.get (w.heap.size) (a) (.tail _ (.tail _ (.tail _ (.tail _ (.tail _ (.tail _ (.tail _ (.tail _ (.tail _ (.tail _ (.head _)))))))))))
    clear hW hH
    go_simp
  simp only [Act.put, List.setIfInBounds_toArray, List.set_cons_zero, List.set_cons_succ]
  refine take_d (i := 18) (d := some 121) (v := .agg #[.int .u64 (lim na 0), .int .u64 (lim na 1), .int .u64 (lim na 2), .int .u64 (lim na 3)]) rfl rfl (by kernel_rfl) (by kernel_rfl) (by kernel_rfl) (fun _ _ _ h => h) (Or.inl ⟨by rfl, fun W hW => ?_⟩) hH ?_
  · obtain ⟨k0_0, k0_1, k0_2, k0_3⟩ := hW.get (wq36.heap.size) (na) (.tail _ (.head _))
    clear hW hH
    go_simp
  simp only [Act.put, List.setIfInBounds_toArray, List.set_cons_zero, List.set_cons_succ]
  refine take_d (i := 19) (d := some 122) (v := .agg #[.int .u64 (lim nb 0), .int .u64 (lim nb 1), .int .u64 (lim nb 2), .int .u64 (lim nb 3)]) rfl rfl (by kernel_rfl) (by kernel_rfl) (by kernel_rfl) (fun _ _ _ h => h) (Or.inl ⟨by rfl, fun W hW => ?_⟩) hH ?_
  · obtain ⟨k0_0, k0_1, k0_2, k0_3⟩ := hW.get (wq38.heap.size) (nb) (.head _)
    clear hW hH
    go_simp
  simp only [Act.put, List.setIfInBounds_toArray, List.set_cons_zero, List.set_cons_succ]
  refine wpAnyH_ready (rs := [17]) (by kernel_rfl) (by simp) ?_
  refine AllReadyH.cons rfl (fun K hK => ?_) AllReadyH.nil
  go_simp
  refine (L4 _).mono ?_
  rintro e wq43 ⟨rfl, hbn⟩
  go_wp2_with fail
  refine hK.out _ _ (HeldL.keep hH hbn) (fun hH => ?_)
  clear hbn hK K
  refine wpAnyH_ready (rs := [20]) (by kernel_rfl) (by simp) ?_
  refine AllReadyH.cons rfl (fun K hK => ?_) AllReadyH.nil
  go_simp
  refine (L5 _).mono ?_
  rintro e wq44 ⟨rfl, hbn⟩
  go_wp2_with fail
  refine hK.out _ _ (HeldL.keep hH hbn) (fun hH => ?_)
  clear hbn hK K
  refine take_d (i := 21) (d := some 124) (v := .bool true) rfl rfl (by kernel_rfl) (by kernel_rfl) (by kernel_rfl) (fun _ _ _ h => h) (Or.inl ⟨by rfl, fun W hW => ?_⟩) hH ?_
  · clear hW hH
    go_simp
  simp only [Act.put, List.setIfInBounds_toArray, List.set_cons_zero, List.set_cons_succ]
  refine take_d (i := 22) (d := some 125) (v := .bool true) rfl rfl (by kernel_rfl) (by kernel_rfl) (by kernel_rfl) (fun _ _ _ h => h) (Or.inl ⟨by rfl, fun W hW => ?_⟩) hH ?_
  · clear hW hH
    go_simp
  simp only [Act.put, List.setIfInBounds_toArray, List.set_cons_zero, List.set_cons_succ]
  refine take_d (i := 23) (d := some 126) (v := .bool true) rfl rfl (by kernel_rfl) (by kernel_rfl) (by kernel_rfl) (fun _ _ _ h => h) (Or.inl ⟨by rfl, fun W hW => ?_⟩) hH ?_
  · clear hW hH
    go_simp
  simp only [Act.put, List.setIfInBounds_toArray, List.set_cons_zero, List.set_cons_succ]
  refine take_d (i := 24) (d := some 127) (v := .agg #[.int .u64 (lim na 0), .int .u64 (lim na 1), .int .u64 (lim na 2), .int .u64 (lim na 3)]) rfl rfl (by kernel_rfl) (by kernel_rfl) (by kernel_rfl) (fun _ _ _ h => h) (Or.inl ⟨by rfl, fun W hW => ?_⟩) hH ?_
  · obtain ⟨k0_0, k0_1, k0_2, k0_3⟩ := hW.get (wq36.heap.size) (na) (.tail _ (.head _))
    clear hW hH
    go_simp
  simp only [Act.put, List.setIfInBounds_toArray, List.set_cons_zero, List.set_cons_succ]
  refine take_d (i := 28) (d := some 131) (v := .agg #[.int .u64 (lim a 0), .int .u64 (lim a 1), .int .u64 (lim a 2), .int .u64 (lim a 3)]) rfl rfl (by kernel_rfl) (by kernel_rfl) (by kernel_rfl) (fun _ _ _ h => h) (Or.inl ⟨by rfl, fun W hW => ?_⟩) hH ?_
  · obtain ⟨k0_0, k0_1, k0_2, k0_3⟩ := hW.get (w.heap.size) (a) (.tail _ (.tail _ (.tail _ (.tail _ (.tail _ (.tail _ (.tail _ (.tail _ (.tail _ (.tail _ (.head _)))))))))))
    clear hW hH
    go_simp
  simp only [Act.put, List.setIfInBounds_toArray, List.set_cons_zero, List.set_cons_succ]
  refine wpAnyH_ready (rs := [25]) (by kernel_rfl) (by simp) ?_
  refine AllReadyH.cons rfl (fun K hK => ?_) AllReadyH.nil
  go_simp
  refine (of_ 1 (by decide) (by decide) _).mono ?_
  rintro e wq45 ⟨rfl, hbn⟩
  go_wp2_with fail
  refine hK.out _ _ (HeldL.keep hH hbn) (fun hH => ?_)
  clear hbn hK K
  refine wpAnyH_ready (rs := [26]) (by kernel_rfl) (by simp) ?_
  refine AllReadyH.cons rfl (fun K hK => ?_) AllReadyH.nil
  go_simp
  refine (L6 _).mono ?_
  rintro e wq46 ⟨rfl, hbn⟩
  go_wp2_with fail
  refine hK.out _ _ (HeldL.keep hH hbn) (fun hH => ?_)
  clear hbn hK K
  refine wpAnyH_ready (rs := [27]) (by kernel_rfl) (by simp) ?_
  refine AllReadyH.cons rfl (fun K hK => ?_) AllReadyH.nil
  go_simp
  refine (of_ 0 (by decide) (by decide) _).mono ?_
  rintro e wq47 ⟨rfl, hbn⟩
  go_wp2_with fail
  refine hK.out _ _ (HeldL.keep hH hbn) (fun hH => ?_)
  clear hbn hK K
  refine wpAnyH_ready (rs := [29]) (by kernel_rfl) (by simp) ?_
  refine AllReadyH.cons rfl (fun K hK => ?_) AllReadyH.nil
  go_simp
  refine (L7 _).mono ?_
  rintro e wq48 ⟨rfl, hbn⟩
  go_wp2_with fail
  refine hK.out _ _ (HeldL.keep hH hbn) (fun hH => ?_)
  clear hbn hK K
  refine take_d (i := 30) (d := some 133) (v := .bool true) rfl rfl (by kernel_rfl) (by kernel_rfl) (by kernel_rfl) (fun _ _ _ h => h) (Or.inl ⟨by rfl, fun W hW => ?_⟩) hH ?_
  · clear hW hH
    go_simp
  simp only [Act.put, List.setIfInBounds_toArray, List.set_cons_zero, List.set_cons_succ]
  refine take_d (i := 31) (d := some 134) (v := .bool true) rfl rfl (by kernel_rfl) (by kernel_rfl) (by kernel_rfl) (fun _ _ _ h => h) (Or.inl ⟨by rfl, fun W hW => ?_⟩) hH ?_
  · clear hW hH
    go_simp
  simp only [Act.put, List.setIfInBounds_toArray, List.set_cons_zero, List.set_cons_succ]
  refine take_d (i := 32) (d := some 17) (v := .bool true) rfl rfl (by kernel_rfl) (by kernel_rfl) (by kernel_rfl) (fun _ _ _ h => h) (Or.inl ⟨by rfl, fun W hW => ?_⟩) hH ?_
  · clear hW hH
    go_simp
  simp only [Act.put, List.setIfInBounds_toArray, List.set_cons_zero, List.set_cons_succ]
  refine wpAnyH_done (by kernel_rfl) ?_ _
  have hS := hH
  clear hH
  go_upto_region 14 with fail
  clear Ha Ho Hx Hna Hnb L1 L2 L3 L4 L5 L6 L7
  go_cut [18] from 135 to 139 (fun s wx => ∃ B, s = .pointer (some ⟨B, 0, none⟩) ∧ HeldL w wx ((B, tp) :: [(wq38.heap.size, nb), (wq36.heap.size, na), (wq34.heap.size, x1), (wq32.heap.size, o1), (wq30.heap.size, an), (wq19.heap.size, sg), (wq17.heap.size, sl), (wq15.heap.size, q), (wq13.heap.size, g), (wq11.heap.size, l), (w.heap.size, a), (w.heap.size + 1, b)]))
  case first =>
    refine wp_region_held_drew (S := fun W => Below wq48.heap.size wq48 W) (by kernel_rfl) (Below.refl _ _).drew (fun hH => ?_)
    refine take_d (i := 0) (d := some 135) (v := .agg #[.int .u64 (lim a 0), .int .u64 (lim a 1), .int .u64 (lim a 2), .int .u64 (lim a 3)]) rfl rfl (by kernel_rfl) (by kernel_rfl) (by kernel_rfl) (fun _ _ _ h => h) (Or.inl ⟨by rfl, fun W hW => ?_⟩) hH ?_
    · obtain ⟨k0_0, k0_1, k0_2, k0_3⟩ := (hS.keep hW).get (w.heap.size) (a) (.tail _ (.tail _ (.tail _ (.tail _ (.tail _ (.tail _ (.tail _ (.tail _ (.tail _ (.tail _ (.head _)))))))))))
      clear hW hH
      go_simp
    simp only [Act.put, List.setIfInBounds_toArray, List.set_cons_zero, List.set_cons_succ]
    generalize wq48.drew = Wq49 at hH ⊢
    have hwa := hH.size
    refine wpAnyH_ready (rs := [1, 5]) (by kernel_rfl) (by simp) ?_
    refine (AllReadyH.cons rfl (fun K hK => ?_) (AllReadyH.cons rfl (fun K hK => ?_) AllReadyH.nil))
    · go_simp
      refine (of_ 2 (by decide) (by decide) _).mono ?_
      rintro e wq50 ⟨rfl, hbn⟩
      go_wp2_with fail
      refine hK.out _ _ (below_over0 hH hbn) (fun hH => ?_)
      have hz_wq50 := hbn.size
      clear hbn hK K
      refine wpAnyH_ready (rs := [2, 5]) (by kernel_rfl) (by simp) ?_
      refine (AllReadyH.cons rfl (fun K hK => ?_) (AllReadyH.cons rfl (fun K hK => ?_) AllReadyH.nil))
      · go_simp
        refine (of_ 255 (by decide) (by decide) _).mono ?_
        rintro e wq51 ⟨rfl, hbn⟩
        go_wp2_with fail
        refine hK.out _ _ (below_over0 hH hbn) (fun hH => ?_)
        have hz_wq51 := hbn.size
        clear hbn hK K
        refine wpAnyH_ready (rs := [3, 5]) (by kernel_rfl) (by simp) ?_
        refine (AllReadyH.cons rfl (fun K hK => ?_) (AllReadyH.cons rfl (fun K hK => ?_) AllReadyH.nil))
        · go_simp
          refine (P1 _).mono ?_
          rintro e wq52 ⟨rfl, hbn⟩
          go_wp2_with fail
          refine hK.out _ _ (below_over0 hH hbn) (fun hH => ?_)
          have hz_wq52 := hbn.size
          clear hbn hK K
          refine wpAnyH_ready (rs := [4, 5]) (by kernel_rfl) (by simp) ?_
          refine (AllReadyH.cons rfl (fun K hK => ?_) (AllReadyH.cons rfl (fun K hK => ?_) AllReadyH.nil))
          · go_simp
            refine (P2 _).mono ?_
            rintro e wq53 ⟨rfl, hbn⟩
            go_wp2_with fail
            refine hK.out _ _ (below_over0 hH hbn) (fun hH => ?_)
            have hz_wq53 := hbn.size
            clear hbn hK K
            refine wpAnyH_ready (rs := [5]) (by kernel_rfl) (by simp) ?_
            refine (AllReadyH.cons rfl (fun K hK => ?_) AllReadyH.nil)
            · go_simp
              have hbn := below1 wq53 (.cells #[.int .u64 0, .int .u64 0, .int .u64 0, .int .u64 0] 24)
              refine hK.out _ _ (below_over0 hH hbn) (fun hH => ?_)
              have R5 := row4_new wq53 0 0 0 0
              have hz_Wnq54 : wq53.heap.size + 1 ≤ (wq53.alloc (.cells #[.int .u64 0, .int .u64 0, .int .u64 0, .int .u64 0] 24)).heap.size := by simp
              clear hbn hK K
              generalize wq53.alloc (.cells #[.int .u64 0, .int .u64 0, .int .u64 0, .int .u64 0] 24) = Wnq54 at hH hz_Wnq54 R5 ⊢
              have hw_Wnq54 := hH.size
              obtain ⟨e0, e1, e2, e3, ef⟩ := id R5
              have ef0 := ef 0 (by decide); have ef1 := ef 1 (by decide); have ef2 := ef 2 (by decide); have ef3 := ef 3 (by decide)
              clear ef
              have ho : Only Wnq54 ((((Wnq54.setCell ⟨wq53.heap.size, 0, none⟩ (.int .u64 (lim tp 0))).setCell ⟨wq53.heap.size, 1, none⟩ (.int .u64 (lim tp 1))).setCell ⟨wq53.heap.size, 2, none⟩ (.int .u64 (lim tp 2))).setCell ⟨wq53.heap.size, 3, none⟩ (.int .u64 (lim tp 3))) (wq53.heap.size) 0 4 := ((((Only.refl _ _ _ _).setCell _ _ (by omega) (by omega)).setCell _ _ (by omega) (by omega)).setCell _ _ (by omega) (by omega)).setCell _ _ (by omega) (by omega)
              replace R5 : Row4 ((((Wnq54.setCell ⟨wq53.heap.size, 0, none⟩ (.int .u64 (lim tp 0))).setCell ⟨wq53.heap.size, 1, none⟩ (.int .u64 (lim tp 1))).setCell ⟨wq53.heap.size, 2, none⟩ (.int .u64 (lim tp 2))).setCell ⟨wq53.heap.size, 3, none⟩ (.int .u64 (lim tp 3))) (wq53.heap.size) (lim tp 0) (lim tp 1) (lim tp 2) (lim tp 3) := ⟨by simp [go_sem, e0], by simp [go_sem, e1], by simp [go_sem, e2], by simp [go_sem, e3], fun j hj => (ho.frozen j).trans (R5.fz j hj)⟩
              have hB9 := hH.trans (ho.below (by omega))
              have hz9 := Nat.le_of_eq ho.size.symm
              clear ho
              refine wpAnyH_ready (rs := [6]) (by kernel_rfl) (by simp) ?_
              refine AllReadyH.cons rfl (fun K hK => ?_) AllReadyH.nil
              go_simp
              refine hK.out _ _ hB9 (fun hH => ?_)
              clear hK K e0 e1 e2 e3 ef0 ef1 ef2 ef3 hB9
              generalize ((((Wnq54.setCell ⟨wq53.heap.size, 0, none⟩ (.int .u64 (lim tp 0))).setCell ⟨wq53.heap.size, 1, none⟩ (.int .u64 (lim tp 1))).setCell ⟨wq53.heap.size, 2, none⟩ (.int .u64 (lim tp 2))).setCell ⟨wq53.heap.size, 3, none⟩ (.int .u64 (lim tp 3))) = Wyq55 at hH R5 hz9 ⊢
              refine wpAnyH_done (by kernel_rfl) ?_ _
              have hb5 : wq53.heap.size < Wyq55.heap.size := by omega
              obtain ⟨e0, e1, e2, e3, -⟩ := R5
              have hS5 := (hS.keep hH).cons (wq53.heap.size) (tp) ⟨e0, e1, e2, e3⟩ hb5
              clear e0 e1 e2 e3
              go_wp2_with fail
              go_meet
              case rel => exact ⟨_, rfl, hS5⟩
          · go_simp
            have hbn := below1 wq52 (.cells #[.int .u64 0, .int .u64 0, .int .u64 0, .int .u64 0] 24)
            refine hK.out _ _ (below_over0 hH hbn) (fun hH => ?_)
            have R5 := row4_new wq52 0 0 0 0
            have hz_Wnq56 : wq52.heap.size + 1 ≤ (wq52.alloc (.cells #[.int .u64 0, .int .u64 0, .int .u64 0, .int .u64 0] 24)).heap.size := by simp
            clear hbn hK K
            generalize wq52.alloc (.cells #[.int .u64 0, .int .u64 0, .int .u64 0, .int .u64 0] 24) = Wnq56 at hH hz_Wnq56 R5 ⊢
            have hw_Wnq56 := hH.size
            refine wpAnyH_ready (rs := [4]) (by kernel_rfl) (by simp) ?_
            refine (AllReadyH.cons rfl (fun K hK => ?_) AllReadyH.nil)
            · go_simp
              refine (P2 _).mono ?_
              rintro e wq57 ⟨rfl, hbn⟩
              go_wp2_with fail
              refine hK.out _ _ (below_over0 hH hbn) (fun hH => ?_)
              replace R5 := R5.below hbn (by omega)
              have hz_wq57 := hbn.size
              clear hbn hK K
              obtain ⟨e0, e1, e2, e3, ef⟩ := id R5
              have ef0 := ef 0 (by decide); have ef1 := ef 1 (by decide); have ef2 := ef 2 (by decide); have ef3 := ef 3 (by decide)
              clear ef
              have ho : Only wq57 ((((wq57.setCell ⟨wq52.heap.size, 0, none⟩ (.int .u64 (lim tp 0))).setCell ⟨wq52.heap.size, 1, none⟩ (.int .u64 (lim tp 1))).setCell ⟨wq52.heap.size, 2, none⟩ (.int .u64 (lim tp 2))).setCell ⟨wq52.heap.size, 3, none⟩ (.int .u64 (lim tp 3))) (wq52.heap.size) 0 4 := ((((Only.refl _ _ _ _).setCell _ _ (by omega) (by omega)).setCell _ _ (by omega) (by omega)).setCell _ _ (by omega) (by omega)).setCell _ _ (by omega) (by omega)
              replace R5 : Row4 ((((wq57.setCell ⟨wq52.heap.size, 0, none⟩ (.int .u64 (lim tp 0))).setCell ⟨wq52.heap.size, 1, none⟩ (.int .u64 (lim tp 1))).setCell ⟨wq52.heap.size, 2, none⟩ (.int .u64 (lim tp 2))).setCell ⟨wq52.heap.size, 3, none⟩ (.int .u64 (lim tp 3))) (wq52.heap.size) (lim tp 0) (lim tp 1) (lim tp 2) (lim tp 3) := ⟨by simp [go_sem, e0], by simp [go_sem, e1], by simp [go_sem, e2], by simp [go_sem, e3], fun j hj => (ho.frozen j).trans (R5.fz j hj)⟩
              have hB9 := hH.trans (ho.below (by omega))
              have hz9 := Nat.le_of_eq ho.size.symm
              clear ho
              refine wpAnyH_ready (rs := [6]) (by kernel_rfl) (by simp) ?_
              refine AllReadyH.cons rfl (fun K hK => ?_) AllReadyH.nil
              go_simp
              refine hK.out _ _ hB9 (fun hH => ?_)
              clear hK K e0 e1 e2 e3 ef0 ef1 ef2 ef3 hB9
              generalize ((((wq57.setCell ⟨wq52.heap.size, 0, none⟩ (.int .u64 (lim tp 0))).setCell ⟨wq52.heap.size, 1, none⟩ (.int .u64 (lim tp 1))).setCell ⟨wq52.heap.size, 2, none⟩ (.int .u64 (lim tp 2))).setCell ⟨wq52.heap.size, 3, none⟩ (.int .u64 (lim tp 3))) = Wyq58 at hH R5 hz9 ⊢
              refine wpAnyH_done (by kernel_rfl) ?_ _
              have hb5 : wq52.heap.size < Wyq58.heap.size := by omega
              obtain ⟨e0, e1, e2, e3, -⟩ := R5
              have hS5 := (hS.keep hH).cons (wq52.heap.size) (tp) ⟨e0, e1, e2, e3⟩ hb5
              clear e0 e1 e2 e3
              go_wp2_with fail
              go_meet
              case rel => exact ⟨_, rfl, hS5⟩
        · go_simp
          have hbn := below1 wq51 (.cells #[.int .u64 0, .int .u64 0, .int .u64 0, .int .u64 0] 24)
          refine hK.out _ _ (below_over0 hH hbn) (fun hH => ?_)
          have R5 := row4_new wq51 0 0 0 0
          have hz_Wnq59 : wq51.heap.size + 1 ≤ (wq51.alloc (.cells #[.int .u64 0, .int .u64 0, .int .u64 0, .int .u64 0] 24)).heap.size := by simp
          clear hbn hK K
          generalize wq51.alloc (.cells #[.int .u64 0, .int .u64 0, .int .u64 0, .int .u64 0] 24) = Wnq59 at hH hz_Wnq59 R5 ⊢
          have hw_Wnq59 := hH.size
          refine wpAnyH_ready (rs := [3]) (by kernel_rfl) (by simp) ?_
          refine (AllReadyH.cons rfl (fun K hK => ?_) AllReadyH.nil)
          · go_simp
            refine (P1 _).mono ?_
            rintro e wq60 ⟨rfl, hbn⟩
            go_wp2_with fail
            refine hK.out _ _ (below_over0 hH hbn) (fun hH => ?_)
            replace R5 := R5.below hbn (by omega)
            have hz_wq60 := hbn.size
            clear hbn hK K
            refine wpAnyH_ready (rs := [4]) (by kernel_rfl) (by simp) ?_
            refine (AllReadyH.cons rfl (fun K hK => ?_) AllReadyH.nil)
            · go_simp
              refine (P2 _).mono ?_
              rintro e wq61 ⟨rfl, hbn⟩
              go_wp2_with fail
              refine hK.out _ _ (below_over0 hH hbn) (fun hH => ?_)
              replace R5 := R5.below hbn (by omega)
              have hz_wq61 := hbn.size
              clear hbn hK K
              obtain ⟨e0, e1, e2, e3, ef⟩ := id R5
              have ef0 := ef 0 (by decide); have ef1 := ef 1 (by decide); have ef2 := ef 2 (by decide); have ef3 := ef 3 (by decide)
              clear ef
              have ho : Only wq61 ((((wq61.setCell ⟨wq51.heap.size, 0, none⟩ (.int .u64 (lim tp 0))).setCell ⟨wq51.heap.size, 1, none⟩ (.int .u64 (lim tp 1))).setCell ⟨wq51.heap.size, 2, none⟩ (.int .u64 (lim tp 2))).setCell ⟨wq51.heap.size, 3, none⟩ (.int .u64 (lim tp 3))) (wq51.heap.size) 0 4 := ((((Only.refl _ _ _ _).setCell _ _ (by omega) (by omega)).setCell _ _ (by omega) (by omega)).setCell _ _ (by omega) (by omega)).setCell _ _ (by omega) (by omega)
              replace R5 : Row4 ((((wq61.setCell ⟨wq51.heap.size, 0, none⟩ (.int .u64 (lim tp 0))).setCell ⟨wq51.heap.size, 1, none⟩ (.int .u64 (lim tp 1))).setCell ⟨wq51.heap.size, 2, none⟩ (.int .u64 (lim tp 2))).setCell ⟨wq51.heap.size, 3, none⟩ (.int .u64 (lim tp 3))) (wq51.heap.size) (lim tp 0) (lim tp 1) (lim tp 2) (lim tp 3) := ⟨by simp [go_sem, e0], by simp [go_sem, e1], by simp [go_sem, e2], by simp [go_sem, e3], fun j hj => (ho.frozen j).trans (R5.fz j hj)⟩
              have hB9 := hH.trans (ho.below (by omega))
              have hz9 := Nat.le_of_eq ho.size.symm
              clear ho
              refine wpAnyH_ready (rs := [6]) (by kernel_rfl) (by simp) ?_
              refine AllReadyH.cons rfl (fun K hK => ?_) AllReadyH.nil
              go_simp
              refine hK.out _ _ hB9 (fun hH => ?_)
              clear hK K e0 e1 e2 e3 ef0 ef1 ef2 ef3 hB9
              generalize ((((wq61.setCell ⟨wq51.heap.size, 0, none⟩ (.int .u64 (lim tp 0))).setCell ⟨wq51.heap.size, 1, none⟩ (.int .u64 (lim tp 1))).setCell ⟨wq51.heap.size, 2, none⟩ (.int .u64 (lim tp 2))).setCell ⟨wq51.heap.size, 3, none⟩ (.int .u64 (lim tp 3))) = Wyq62 at hH R5 hz9 ⊢
              refine wpAnyH_done (by kernel_rfl) ?_ _
              have hb5 : wq51.heap.size < Wyq62.heap.size := by omega
              obtain ⟨e0, e1, e2, e3, -⟩ := R5
              have hS5 := (hS.keep hH).cons (wq51.heap.size) (tp) ⟨e0, e1, e2, e3⟩ hb5
              clear e0 e1 e2 e3
              go_wp2_with fail
              go_meet
              case rel => exact ⟨_, rfl, hS5⟩
      · go_simp
        have hbn := below1 wq50 (.cells #[.int .u64 0, .int .u64 0, .int .u64 0, .int .u64 0] 24)
        refine hK.out _ _ (below_over0 hH hbn) (fun hH => ?_)
        have R5 := row4_new wq50 0 0 0 0
        have hz_Wnq63 : wq50.heap.size + 1 ≤ (wq50.alloc (.cells #[.int .u64 0, .int .u64 0, .int .u64 0, .int .u64 0] 24)).heap.size := by simp
        clear hbn hK K
        generalize wq50.alloc (.cells #[.int .u64 0, .int .u64 0, .int .u64 0, .int .u64 0] 24) = Wnq63 at hH hz_Wnq63 R5 ⊢
        have hw_Wnq63 := hH.size
        refine wpAnyH_ready (rs := [2]) (by kernel_rfl) (by simp) ?_
        refine (AllReadyH.cons rfl (fun K hK => ?_) AllReadyH.nil)
        · go_simp
          refine (of_ 255 (by decide) (by decide) _).mono ?_
          rintro e wq64 ⟨rfl, hbn⟩
          go_wp2_with fail
          refine hK.out _ _ (below_over0 hH hbn) (fun hH => ?_)
          replace R5 := R5.below hbn (by omega)
          have hz_wq64 := hbn.size
          clear hbn hK K
          refine wpAnyH_ready (rs := [3]) (by kernel_rfl) (by simp) ?_
          refine (AllReadyH.cons rfl (fun K hK => ?_) AllReadyH.nil)
          · go_simp
            refine (P1 _).mono ?_
            rintro e wq65 ⟨rfl, hbn⟩
            go_wp2_with fail
            refine hK.out _ _ (below_over0 hH hbn) (fun hH => ?_)
            replace R5 := R5.below hbn (by omega)
            have hz_wq65 := hbn.size
            clear hbn hK K
            refine wpAnyH_ready (rs := [4]) (by kernel_rfl) (by simp) ?_
            refine (AllReadyH.cons rfl (fun K hK => ?_) AllReadyH.nil)
            · go_simp
              refine (P2 _).mono ?_
              rintro e wq66 ⟨rfl, hbn⟩
              go_wp2_with fail
              refine hK.out _ _ (below_over0 hH hbn) (fun hH => ?_)
              replace R5 := R5.below hbn (by omega)
              have hz_wq66 := hbn.size
              clear hbn hK K
              obtain ⟨e0, e1, e2, e3, ef⟩ := id R5
              have ef0 := ef 0 (by decide); have ef1 := ef 1 (by decide); have ef2 := ef 2 (by decide); have ef3 := ef 3 (by decide)
              clear ef
              have ho : Only wq66 ((((wq66.setCell ⟨wq50.heap.size, 0, none⟩ (.int .u64 (lim tp 0))).setCell ⟨wq50.heap.size, 1, none⟩ (.int .u64 (lim tp 1))).setCell ⟨wq50.heap.size, 2, none⟩ (.int .u64 (lim tp 2))).setCell ⟨wq50.heap.size, 3, none⟩ (.int .u64 (lim tp 3))) (wq50.heap.size) 0 4 := ((((Only.refl _ _ _ _).setCell _ _ (by omega) (by omega)).setCell _ _ (by omega) (by omega)).setCell _ _ (by omega) (by omega)).setCell _ _ (by omega) (by omega)
              replace R5 : Row4 ((((wq66.setCell ⟨wq50.heap.size, 0, none⟩ (.int .u64 (lim tp 0))).setCell ⟨wq50.heap.size, 1, none⟩ (.int .u64 (lim tp 1))).setCell ⟨wq50.heap.size, 2, none⟩ (.int .u64 (lim tp 2))).setCell ⟨wq50.heap.size, 3, none⟩ (.int .u64 (lim tp 3))) (wq50.heap.size) (lim tp 0) (lim tp 1) (lim tp 2) (lim tp 3) := ⟨by simp [go_sem, e0], by simp [go_sem, e1], by simp [go_sem, e2], by simp [go_sem, e3], fun j hj => (ho.frozen j).trans (R5.fz j hj)⟩
              have hB9 := hH.trans (ho.below (by omega))
              have hz9 := Nat.le_of_eq ho.size.symm
              clear ho
              refine wpAnyH_ready (rs := [6]) (by kernel_rfl) (by simp) ?_
              refine AllReadyH.cons rfl (fun K hK => ?_) AllReadyH.nil
              go_simp
              refine hK.out _ _ hB9 (fun hH => ?_)
              clear hK K e0 e1 e2 e3 ef0 ef1 ef2 ef3 hB9
              generalize ((((wq66.setCell ⟨wq50.heap.size, 0, none⟩ (.int .u64 (lim tp 0))).setCell ⟨wq50.heap.size, 1, none⟩ (.int .u64 (lim tp 1))).setCell ⟨wq50.heap.size, 2, none⟩ (.int .u64 (lim tp 2))).setCell ⟨wq50.heap.size, 3, none⟩ (.int .u64 (lim tp 3))) = Wyq67 at hH R5 hz9 ⊢
              refine wpAnyH_done (by kernel_rfl) ?_ _
              have hb5 : wq50.heap.size < Wyq67.heap.size := by omega
              obtain ⟨e0, e1, e2, e3, -⟩ := R5
              have hS5 := (hS.keep hH).cons (wq50.heap.size) (tp) ⟨e0, e1, e2, e3⟩ hb5
              clear e0 e1 e2 e3
              go_wp2_with fail
              go_meet
              case rel => exact ⟨_, rfl, hS5⟩
    · go_simp
      have hbn := below1 Wq49 (.cells #[.int .u64 0, .int .u64 0, .int .u64 0, .int .u64 0] 24)
      refine hK.out _ _ (below_over0 hH hbn) (fun hH => ?_)
      have R5 := row4_new Wq49 0 0 0 0
      have hz_Wnq68 : Wq49.heap.size + 1 ≤ (Wq49.alloc (.cells #[.int .u64 0, .int .u64 0, .int .u64 0, .int .u64 0] 24)).heap.size := by simp
      clear hbn hK K
      generalize Wq49.alloc (.cells #[.int .u64 0, .int .u64 0, .int .u64 0, .int .u64 0] 24) = Wnq68 at hH hz_Wnq68 R5 ⊢
      have hw_Wnq68 := hH.size
      refine wpAnyH_ready (rs := [1]) (by kernel_rfl) (by simp) ?_
      refine (AllReadyH.cons rfl (fun K hK => ?_) AllReadyH.nil)
      · go_simp
        refine (of_ 2 (by decide) (by decide) _).mono ?_
        rintro e wq69 ⟨rfl, hbn⟩
        go_wp2_with fail
        refine hK.out _ _ (below_over0 hH hbn) (fun hH => ?_)
        replace R5 := R5.below hbn (by omega)
        have hz_wq69 := hbn.size
        clear hbn hK K
        refine wpAnyH_ready (rs := [2]) (by kernel_rfl) (by simp) ?_
        refine (AllReadyH.cons rfl (fun K hK => ?_) AllReadyH.nil)
        · go_simp
          refine (of_ 255 (by decide) (by decide) _).mono ?_
          rintro e wq70 ⟨rfl, hbn⟩
          go_wp2_with fail
          refine hK.out _ _ (below_over0 hH hbn) (fun hH => ?_)
          replace R5 := R5.below hbn (by omega)
          have hz_wq70 := hbn.size
          clear hbn hK K
          refine wpAnyH_ready (rs := [3]) (by kernel_rfl) (by simp) ?_
          refine (AllReadyH.cons rfl (fun K hK => ?_) AllReadyH.nil)
          · go_simp
            refine (P1 _).mono ?_
            rintro e wq71 ⟨rfl, hbn⟩
            go_wp2_with fail
            refine hK.out _ _ (below_over0 hH hbn) (fun hH => ?_)
            replace R5 := R5.below hbn (by omega)
            have hz_wq71 := hbn.size
            clear hbn hK K
            refine wpAnyH_ready (rs := [4]) (by kernel_rfl) (by simp) ?_
            refine (AllReadyH.cons rfl (fun K hK => ?_) AllReadyH.nil)
            · go_simp
              refine (P2 _).mono ?_
              rintro e wq72 ⟨rfl, hbn⟩
              go_wp2_with fail
              refine hK.out _ _ (below_over0 hH hbn) (fun hH => ?_)
              replace R5 := R5.below hbn (by omega)
              have hz_wq72 := hbn.size
              clear hbn hK K
              obtain ⟨e0, e1, e2, e3, ef⟩ := id R5
              have ef0 := ef 0 (by decide); have ef1 := ef 1 (by decide); have ef2 := ef 2 (by decide); have ef3 := ef 3 (by decide)
              clear ef
              have ho : Only wq72 ((((wq72.setCell ⟨Wq49.heap.size, 0, none⟩ (.int .u64 (lim tp 0))).setCell ⟨Wq49.heap.size, 1, none⟩ (.int .u64 (lim tp 1))).setCell ⟨Wq49.heap.size, 2, none⟩ (.int .u64 (lim tp 2))).setCell ⟨Wq49.heap.size, 3, none⟩ (.int .u64 (lim tp 3))) (Wq49.heap.size) 0 4 := ((((Only.refl _ _ _ _).setCell _ _ (by omega) (by omega)).setCell _ _ (by omega) (by omega)).setCell _ _ (by omega) (by omega)).setCell _ _ (by omega) (by omega)
              replace R5 : Row4 ((((wq72.setCell ⟨Wq49.heap.size, 0, none⟩ (.int .u64 (lim tp 0))).setCell ⟨Wq49.heap.size, 1, none⟩ (.int .u64 (lim tp 1))).setCell ⟨Wq49.heap.size, 2, none⟩ (.int .u64 (lim tp 2))).setCell ⟨Wq49.heap.size, 3, none⟩ (.int .u64 (lim tp 3))) (Wq49.heap.size) (lim tp 0) (lim tp 1) (lim tp 2) (lim tp 3) := ⟨by simp [go_sem, e0], by simp [go_sem, e1], by simp [go_sem, e2], by simp [go_sem, e3], fun j hj => (ho.frozen j).trans (R5.fz j hj)⟩
              have hB9 := hH.trans (ho.below (by omega))
              have hz9 := Nat.le_of_eq ho.size.symm
              clear ho
              refine wpAnyH_ready (rs := [6]) (by kernel_rfl) (by simp) ?_
              refine AllReadyH.cons rfl (fun K hK => ?_) AllReadyH.nil
              go_simp
              refine hK.out _ _ hB9 (fun hH => ?_)
              clear hK K e0 e1 e2 e3 ef0 ef1 ef2 ef3 hB9
              generalize ((((wq72.setCell ⟨Wq49.heap.size, 0, none⟩ (.int .u64 (lim tp 0))).setCell ⟨Wq49.heap.size, 1, none⟩ (.int .u64 (lim tp 1))).setCell ⟨Wq49.heap.size, 2, none⟩ (.int .u64 (lim tp 2))).setCell ⟨Wq49.heap.size, 3, none⟩ (.int .u64 (lim tp 3))) = Wyq73 at hH R5 hz9 ⊢
              refine wpAnyH_done (by kernel_rfl) ?_ _
              have hb5 : Wq49.heap.size < Wyq73.heap.size := by omega
              obtain ⟨e0, e1, e2, e3, -⟩ := R5
              have hS5 := (hS.keep hH).cons (Wq49.heap.size) (tp) ⟨e0, e1, e2, e3⟩ hb5
              clear e0 e1 e2 e3
              go_wp2_with fail
              go_meet
              case rel => exact ⟨_, rfl, hS5⟩
  case rest =>
    obtain ⟨B14, rfl, hS2⟩ := hcut
    clear hS
    have hS := hS2
    clear hS2
    go_upto_region 15 with fail
    refine wp_region_held_drew (S := fun W => HeldL w W [(B14, tp), (wq38.heap.size, nb), (wq36.heap.size, na), (wq34.heap.size, x1), (wq32.heap.size, o1), (wq30.heap.size, an), (wq19.heap.size, sg), (wq17.heap.size, sl), (wq15.heap.size, q), (wq13.heap.size, g), (wq11.heap.size, l), (w.heap.size, a), (w.heap.size + 1, b)]) (by kernel_rfl) hS.drew (fun hH => ?_)
    clear hS
    refine take_d (i := 0) (d := some 140) (v := .agg #[.int .u64 (lim a 0), .int .u64 (lim a 1), .int .u64 (lim a 2), .int .u64 (lim a 3)]) rfl rfl (by kernel_rfl) (by kernel_rfl) (by kernel_rfl) (fun _ _ _ h => h) (Or.inl ⟨by rfl, fun W hW => ?_⟩) hH ?_
    · obtain ⟨k0_0, k0_1, k0_2, k0_3⟩ := hW.get (w.heap.size) (a) (.tail _ (.tail _ (.tail _ (.tail _ (.tail _ (.tail _ (.tail _ (.tail _ (.tail _ (.tail _ (.tail _ (.head _))))))))))))
      clear hW hH
      go_simp
    simp only [Act.put, List.setIfInBounds_toArray, List.set_cons_zero, List.set_cons_succ]
    refine take_d (i := 3) (d := some 143) (v := .agg #[.int .u64 (lim tp 0), .int .u64 (lim tp 1), .int .u64 (lim tp 2), .int .u64 (lim tp 3)]) rfl rfl (by kernel_rfl) (by kernel_rfl) (by kernel_rfl) (fun _ _ _ h => h) (Or.inl ⟨by rfl, fun W hW => ?_⟩) hH ?_
    · obtain ⟨k0_0, k0_1, k0_2, k0_3⟩ := hW.get (B14) (tp) (.head _)
      clear hW hH
      go_simp
    simp only [Act.put, List.setIfInBounds_toArray, List.set_cons_zero, List.set_cons_succ]
    refine wpAnyH_ready (rs := [1]) (by kernel_rfl) (by simp) ?_
    refine AllReadyH.cons rfl (fun K hK => ?_) AllReadyH.nil
    go_simp
    refine (of_ 0 (by decide) (by decide) _).mono ?_
    rintro e wq74 ⟨rfl, hbn⟩
    go_wp2_with fail
    refine hK.out _ _ (HeldL.keep hH hbn) (fun hH => ?_)
    clear hbn hK K
    refine wpAnyH_ready (rs := [2]) (by kernel_rfl) (by simp) ?_
    refine AllReadyH.cons rfl (fun K hK => ?_) AllReadyH.nil
    go_simp
    refine (P3 _).mono ?_
    rintro e wq75 ⟨rfl, hbn⟩
    go_wp2_with fail
    refine hK.out _ _ (HeldL.keep hH hbn) (fun hH => ?_)
    clear hbn hK K
    refine take_d (i := 4) (d := some 144) (v := .bool true) rfl rfl (by kernel_rfl) (by kernel_rfl) (by kernel_rfl) (fun _ _ _ h => h) (Or.inl ⟨by rfl, fun W hW => ?_⟩) hH ?_
    · clear hW hH
      go_simp
    simp only [Act.put, List.setIfInBounds_toArray, List.set_cons_zero, List.set_cons_succ]
    refine take_d (i := 5) (d := some 19) (v := .bool true) rfl rfl (by kernel_rfl) (by kernel_rfl) (by kernel_rfl) (fun _ _ _ h => h) (Or.inl ⟨by rfl, fun W hW => ?_⟩) hH ?_
    · clear hW hH
      go_simp
    simp only [Act.put, List.setIfInBounds_toArray, List.set_cons_zero, List.set_cons_succ]
    refine wpAnyH_done (by kernel_rfl) ?_ _
    have hS := hH
    clear hH
    go_upto_region 16 with fail
    refine wp_region_held_drew (S := fun W => HeldL w W [(B14, tp), (wq38.heap.size, nb), (wq36.heap.size, na), (wq34.heap.size, x1), (wq32.heap.size, o1), (wq30.heap.size, an), (wq19.heap.size, sg), (wq17.heap.size, sl), (wq15.heap.size, q), (wq13.heap.size, g), (wq11.heap.size, l), (w.heap.size, a), (w.heap.size + 1, b)]) (by kernel_rfl) hS.drew (fun hH => ?_)
    clear hS
    refine take_d (i := 1) (d := some 146) (v := .agg #[.int .u64 (lim a 0), .int .u64 (lim a 1), .int .u64 (lim a 2), .int .u64 (lim a 3)]) rfl rfl (by kernel_rfl) (by kernel_rfl) (by kernel_rfl) (fun _ _ _ h => h) (Or.inl ⟨by rfl, fun W hW => ?_⟩) hH ?_
    · obtain ⟨k0_0, k0_1, k0_2, k0_3⟩ := hW.get (w.heap.size) (a) (.tail _ (.tail _ (.tail _ (.tail _ (.tail _ (.tail _ (.tail _ (.tail _ (.tail _ (.tail _ (.tail _ (.head _))))))))))))
      clear hW hH
      go_simp
    simp only [Act.put, List.setIfInBounds_toArray, List.set_cons_zero, List.set_cons_succ]
    refine take_d (i := 3) (d := some 148) (v := .agg #[.int .u64 (lim a 0), .int .u64 (lim a 1), .int .u64 (lim a 2), .int .u64 (lim a 3)]) rfl rfl (by kernel_rfl) (by kernel_rfl) (by kernel_rfl) (fun _ _ _ h => h) (Or.inl ⟨by rfl, fun W hW => ?_⟩) hH ?_
    · obtain ⟨k0_0, k0_1, k0_2, k0_3⟩ := hW.get (w.heap.size) (a) (.tail _ (.tail _ (.tail _ (.tail _ (.tail _ (.tail _ (.tail _ (.tail _ (.tail _ (.tail _ (.tail _ (.head _))))))))))))
      clear hW hH
      go_simp
    simp only [Act.put, List.setIfInBounds_toArray, List.set_cons_zero, List.set_cons_succ]
    refine wpAnyH_ready (rs := [0]) (by kernel_rfl) (by simp) ?_
    refine AllReadyH.cons rfl (fun K hK => ?_) AllReadyH.nil
    go_simp
    refine (of_ 31 (by decide) (by decide) _).mono ?_
    rintro e wq76 ⟨rfl, hbn⟩
    go_wp2_with fail
    refine hK.out _ _ (HeldL.keep hH hbn) (fun hH => ?_)
    clear hbn hK K
    refine wpAnyH_ready (rs := [2]) (by kernel_rfl) (by simp) ?_
    refine AllReadyH.cons rfl (fun K hK => ?_) AllReadyH.nil
    go_simp
    refine (P4 _).mono ?_
    rintro e wq77 ⟨rfl, hbn⟩
    go_wp2_with fail
    refine hK.out _ _ (HeldL.keep hH hbn) (fun hH => ?_)
    clear hbn hK K
    refine wpAnyH_ready (rs := [4]) (by kernel_rfl) (by simp) ?_
    refine AllReadyH.cons rfl (fun K hK => ?_) AllReadyH.nil
    go_simp
    refine (of_ 256 (by decide) (by decide) _).mono ?_
    rintro e wq78 ⟨rfl, hbn⟩
    go_wp2_with fail
    refine hK.out _ _ (HeldL.keep hH hbn) (fun hH => ?_)
    clear hbn hK K
    refine wpAnyH_ready (rs := [5]) (by kernel_rfl) (by simp) ?_
    refine AllReadyH.cons rfl (fun K hK => ?_) AllReadyH.nil
    go_simp
    refine (P5 _).mono ?_
    rintro e wq79 ⟨rfl, hbn⟩
    go_wp2_with fail
    refine hK.out _ _ (HeldL.keep hH hbn) (fun hH => ?_)
    clear hbn hK K
    refine take_d (i := 6) (d := some 151) (v := .bool true) rfl rfl (by kernel_rfl) (by kernel_rfl) (by kernel_rfl) (fun _ _ _ h => h) (Or.inl ⟨by rfl, fun W hW => ?_⟩) hH ?_
    · clear hW hH
      go_simp
    simp only [Act.put, List.setIfInBounds_toArray, List.set_cons_zero, List.set_cons_succ]
    refine take_d (i := 7) (d := some 20) (v := .bool true) rfl rfl (by kernel_rfl) (by kernel_rfl) (by kernel_rfl) (fun _ _ _ h => h) (Or.inl ⟨by rfl, fun W hW => ?_⟩) hH ?_
    · clear hW hH
      go_simp
    simp only [Act.put, List.setIfInBounds_toArray, List.set_cons_zero, List.set_cons_succ]
    refine wpAnyH_done (by kernel_rfl) ?_ _
    have hS := hH
    clear hH
    go_upto_region 17 with fail
    go_cut [21] from 152 to 154 (fun s wx => ∃ B, s = .pointer (some ⟨B, 0, none⟩) ∧ HeldL w wx ((B, xx) :: [(B14, tp), (wq38.heap.size, nb), (wq36.heap.size, na), (wq34.heap.size, x1), (wq32.heap.size, o1), (wq30.heap.size, an), (wq19.heap.size, sg), (wq17.heap.size, sl), (wq15.heap.size, q), (wq13.heap.size, g), (wq11.heap.size, l), (w.heap.size, a), (w.heap.size + 1, b)]))
    case first =>
      refine wp_region_held_drew (S := fun W => Below wq79.heap.size wq79 W) (by kernel_rfl) (Below.refl _ _).drew (fun hH => ?_)
      refine take_d (i := 1) (d := some 153) (v := .agg #[.int .u64 (lim a 0), .int .u64 (lim a 1), .int .u64 (lim a 2), .int .u64 (lim a 3)]) rfl rfl (by kernel_rfl) (by kernel_rfl) (by kernel_rfl) (fun _ _ _ h => h) (Or.inl ⟨by rfl, fun W hW => ?_⟩) hH ?_
      · obtain ⟨k0_0, k0_1, k0_2, k0_3⟩ := (hS.keep hW).get (w.heap.size) (a) (.tail _ (.tail _ (.tail _ (.tail _ (.tail _ (.tail _ (.tail _ (.tail _ (.tail _ (.tail _ (.tail _ (.head _))))))))))))
        clear hW hH
        go_simp
      simp only [Act.put, List.setIfInBounds_toArray, List.set_cons_zero, List.set_cons_succ]
      generalize wq79.drew = Wq80 at hH ⊢
      have hwa := hH.size
      refine wpAnyH_ready (rs := [0, 3]) (by kernel_rfl) (by simp) ?_
      refine (AllReadyH.cons rfl (fun K hK => ?_) (AllReadyH.cons rfl (fun K hK => ?_) AllReadyH.nil))
      · go_simp
        refine (of_ 0 (by decide) (by decide) _).mono ?_
        rintro e wq81 ⟨rfl, hbn⟩
        go_wp2_with fail
        refine hK.out _ _ (below_over0 hH hbn) (fun hH => ?_)
        have hz_wq81 := hbn.size
        clear hbn hK K
        refine wpAnyH_ready (rs := [2, 3]) (by kernel_rfl) (by simp) ?_
        refine (AllReadyH.cons rfl (fun K hK => ?_) (AllReadyH.cons rfl (fun K hK => ?_) AllReadyH.nil))
        · go_simp
          refine (P6 _).mono ?_
          rintro e wq82 ⟨rfl, hbn⟩
          go_wp2_with fail
          refine hK.out _ _ (below_over0 hH hbn) (fun hH => ?_)
          have hz_wq82 := hbn.size
          clear hbn hK K
          refine wpAnyH_ready (rs := [3]) (by kernel_rfl) (by simp) ?_
          refine (AllReadyH.cons rfl (fun K hK => ?_) AllReadyH.nil)
          · go_simp
            have hbn := below1 wq82 (.cells #[.int .u64 0, .int .u64 0, .int .u64 0, .int .u64 0] 24)
            refine hK.out _ _ (below_over0 hH hbn) (fun hH => ?_)
            have R5 := row4_new wq82 0 0 0 0
            have hz_Wnq83 : wq82.heap.size + 1 ≤ (wq82.alloc (.cells #[.int .u64 0, .int .u64 0, .int .u64 0, .int .u64 0] 24)).heap.size := by simp
            clear hbn hK K
            generalize wq82.alloc (.cells #[.int .u64 0, .int .u64 0, .int .u64 0, .int .u64 0] 24) = Wnq83 at hH hz_Wnq83 R5 ⊢
            have hw_Wnq83 := hH.size
            obtain ⟨e0, e1, e2, e3, ef⟩ := id R5
            have ef0 := ef 0 (by decide); have ef1 := ef 1 (by decide); have ef2 := ef 2 (by decide); have ef3 := ef 3 (by decide)
            clear ef
            have ho : Only Wnq83 ((((Wnq83.setCell ⟨wq82.heap.size, 0, none⟩ (.int .u64 (lim xx 0))).setCell ⟨wq82.heap.size, 1, none⟩ (.int .u64 (lim xx 1))).setCell ⟨wq82.heap.size, 2, none⟩ (.int .u64 (lim xx 2))).setCell ⟨wq82.heap.size, 3, none⟩ (.int .u64 (lim xx 3))) (wq82.heap.size) 0 4 := ((((Only.refl _ _ _ _).setCell _ _ (by omega) (by omega)).setCell _ _ (by omega) (by omega)).setCell _ _ (by omega) (by omega)).setCell _ _ (by omega) (by omega)
            replace R5 : Row4 ((((Wnq83.setCell ⟨wq82.heap.size, 0, none⟩ (.int .u64 (lim xx 0))).setCell ⟨wq82.heap.size, 1, none⟩ (.int .u64 (lim xx 1))).setCell ⟨wq82.heap.size, 2, none⟩ (.int .u64 (lim xx 2))).setCell ⟨wq82.heap.size, 3, none⟩ (.int .u64 (lim xx 3))) (wq82.heap.size) (lim xx 0) (lim xx 1) (lim xx 2) (lim xx 3) := ⟨by simp [go_sem, e0], by simp [go_sem, e1], by simp [go_sem, e2], by simp [go_sem, e3], fun j hj => (ho.frozen j).trans (R5.fz j hj)⟩
            have hB9 := hH.trans (ho.below (by omega))
            have hz9 := Nat.le_of_eq ho.size.symm
            clear ho
            refine wpAnyH_ready (rs := [4]) (by kernel_rfl) (by simp) ?_
            refine AllReadyH.cons rfl (fun K hK => ?_) AllReadyH.nil
            go_simp
            refine hK.out _ _ hB9 (fun hH => ?_)
            clear hK K e0 e1 e2 e3 ef0 ef1 ef2 ef3 hB9
            generalize ((((Wnq83.setCell ⟨wq82.heap.size, 0, none⟩ (.int .u64 (lim xx 0))).setCell ⟨wq82.heap.size, 1, none⟩ (.int .u64 (lim xx 1))).setCell ⟨wq82.heap.size, 2, none⟩ (.int .u64 (lim xx 2))).setCell ⟨wq82.heap.size, 3, none⟩ (.int .u64 (lim xx 3))) = Wyq84 at hH R5 hz9 ⊢
            refine wpAnyH_done (by kernel_rfl) ?_ _
            have hb5 : wq82.heap.size < Wyq84.heap.size := by omega
            obtain ⟨e0, e1, e2, e3, -⟩ := R5
            have hS5 := (hS.keep hH).cons (wq82.heap.size) (xx) ⟨e0, e1, e2, e3⟩ hb5
            clear e0 e1 e2 e3
            go_wp2_with fail
            go_meet
            case rel => exact ⟨_, rfl, hS5⟩
        · go_simp
          have hbn := below1 wq81 (.cells #[.int .u64 0, .int .u64 0, .int .u64 0, .int .u64 0] 24)
          refine hK.out _ _ (below_over0 hH hbn) (fun hH => ?_)
          have R5 := row4_new wq81 0 0 0 0
          have hz_Wnq85 : wq81.heap.size + 1 ≤ (wq81.alloc (.cells #[.int .u64 0, .int .u64 0, .int .u64 0, .int .u64 0] 24)).heap.size := by simp
          clear hbn hK K
          generalize wq81.alloc (.cells #[.int .u64 0, .int .u64 0, .int .u64 0, .int .u64 0] 24) = Wnq85 at hH hz_Wnq85 R5 ⊢
          have hw_Wnq85 := hH.size
          refine wpAnyH_ready (rs := [2]) (by kernel_rfl) (by simp) ?_
          refine (AllReadyH.cons rfl (fun K hK => ?_) AllReadyH.nil)
          · go_simp
            refine (P6 _).mono ?_
            rintro e wq86 ⟨rfl, hbn⟩
            go_wp2_with fail
            refine hK.out _ _ (below_over0 hH hbn) (fun hH => ?_)
            replace R5 := R5.below hbn (by omega)
            have hz_wq86 := hbn.size
            clear hbn hK K
            obtain ⟨e0, e1, e2, e3, ef⟩ := id R5
            have ef0 := ef 0 (by decide); have ef1 := ef 1 (by decide); have ef2 := ef 2 (by decide); have ef3 := ef 3 (by decide)
            clear ef
            have ho : Only wq86 ((((wq86.setCell ⟨wq81.heap.size, 0, none⟩ (.int .u64 (lim xx 0))).setCell ⟨wq81.heap.size, 1, none⟩ (.int .u64 (lim xx 1))).setCell ⟨wq81.heap.size, 2, none⟩ (.int .u64 (lim xx 2))).setCell ⟨wq81.heap.size, 3, none⟩ (.int .u64 (lim xx 3))) (wq81.heap.size) 0 4 := ((((Only.refl _ _ _ _).setCell _ _ (by omega) (by omega)).setCell _ _ (by omega) (by omega)).setCell _ _ (by omega) (by omega)).setCell _ _ (by omega) (by omega)
            replace R5 : Row4 ((((wq86.setCell ⟨wq81.heap.size, 0, none⟩ (.int .u64 (lim xx 0))).setCell ⟨wq81.heap.size, 1, none⟩ (.int .u64 (lim xx 1))).setCell ⟨wq81.heap.size, 2, none⟩ (.int .u64 (lim xx 2))).setCell ⟨wq81.heap.size, 3, none⟩ (.int .u64 (lim xx 3))) (wq81.heap.size) (lim xx 0) (lim xx 1) (lim xx 2) (lim xx 3) := ⟨by simp [go_sem, e0], by simp [go_sem, e1], by simp [go_sem, e2], by simp [go_sem, e3], fun j hj => (ho.frozen j).trans (R5.fz j hj)⟩
            have hB9 := hH.trans (ho.below (by omega))
            have hz9 := Nat.le_of_eq ho.size.symm
            clear ho
            refine wpAnyH_ready (rs := [4]) (by kernel_rfl) (by simp) ?_
            refine AllReadyH.cons rfl (fun K hK => ?_) AllReadyH.nil
            go_simp
            refine hK.out _ _ hB9 (fun hH => ?_)
            clear hK K e0 e1 e2 e3 ef0 ef1 ef2 ef3 hB9
            generalize ((((wq86.setCell ⟨wq81.heap.size, 0, none⟩ (.int .u64 (lim xx 0))).setCell ⟨wq81.heap.size, 1, none⟩ (.int .u64 (lim xx 1))).setCell ⟨wq81.heap.size, 2, none⟩ (.int .u64 (lim xx 2))).setCell ⟨wq81.heap.size, 3, none⟩ (.int .u64 (lim xx 3))) = Wyq87 at hH R5 hz9 ⊢
            refine wpAnyH_done (by kernel_rfl) ?_ _
            have hb5 : wq81.heap.size < Wyq87.heap.size := by omega
            obtain ⟨e0, e1, e2, e3, -⟩ := R5
            have hS5 := (hS.keep hH).cons (wq81.heap.size) (xx) ⟨e0, e1, e2, e3⟩ hb5
            clear e0 e1 e2 e3
            go_wp2_with fail
            go_meet
            case rel => exact ⟨_, rfl, hS5⟩
      · go_simp
        have hbn := below1 Wq80 (.cells #[.int .u64 0, .int .u64 0, .int .u64 0, .int .u64 0] 24)
        refine hK.out _ _ (below_over0 hH hbn) (fun hH => ?_)
        have R5 := row4_new Wq80 0 0 0 0
        have hz_Wnq88 : Wq80.heap.size + 1 ≤ (Wq80.alloc (.cells #[.int .u64 0, .int .u64 0, .int .u64 0, .int .u64 0] 24)).heap.size := by simp
        clear hbn hK K
        generalize Wq80.alloc (.cells #[.int .u64 0, .int .u64 0, .int .u64 0, .int .u64 0] 24) = Wnq88 at hH hz_Wnq88 R5 ⊢
        have hw_Wnq88 := hH.size
        refine wpAnyH_ready (rs := [0]) (by kernel_rfl) (by simp) ?_
        refine (AllReadyH.cons rfl (fun K hK => ?_) AllReadyH.nil)
        · go_simp
          refine (of_ 0 (by decide) (by decide) _).mono ?_
          rintro e wq89 ⟨rfl, hbn⟩
          go_wp2_with fail
          refine hK.out _ _ (below_over0 hH hbn) (fun hH => ?_)
          replace R5 := R5.below hbn (by omega)
          have hz_wq89 := hbn.size
          clear hbn hK K
          refine wpAnyH_ready (rs := [2]) (by kernel_rfl) (by simp) ?_
          refine (AllReadyH.cons rfl (fun K hK => ?_) AllReadyH.nil)
          · go_simp
            refine (P6 _).mono ?_
            rintro e wq90 ⟨rfl, hbn⟩
            go_wp2_with fail
            refine hK.out _ _ (below_over0 hH hbn) (fun hH => ?_)
            replace R5 := R5.below hbn (by omega)
            have hz_wq90 := hbn.size
            clear hbn hK K
            obtain ⟨e0, e1, e2, e3, ef⟩ := id R5
            have ef0 := ef 0 (by decide); have ef1 := ef 1 (by decide); have ef2 := ef 2 (by decide); have ef3 := ef 3 (by decide)
            clear ef
            have ho : Only wq90 ((((wq90.setCell ⟨Wq80.heap.size, 0, none⟩ (.int .u64 (lim xx 0))).setCell ⟨Wq80.heap.size, 1, none⟩ (.int .u64 (lim xx 1))).setCell ⟨Wq80.heap.size, 2, none⟩ (.int .u64 (lim xx 2))).setCell ⟨Wq80.heap.size, 3, none⟩ (.int .u64 (lim xx 3))) (Wq80.heap.size) 0 4 := ((((Only.refl _ _ _ _).setCell _ _ (by omega) (by omega)).setCell _ _ (by omega) (by omega)).setCell _ _ (by omega) (by omega)).setCell _ _ (by omega) (by omega)
            replace R5 : Row4 ((((wq90.setCell ⟨Wq80.heap.size, 0, none⟩ (.int .u64 (lim xx 0))).setCell ⟨Wq80.heap.size, 1, none⟩ (.int .u64 (lim xx 1))).setCell ⟨Wq80.heap.size, 2, none⟩ (.int .u64 (lim xx 2))).setCell ⟨Wq80.heap.size, 3, none⟩ (.int .u64 (lim xx 3))) (Wq80.heap.size) (lim xx 0) (lim xx 1) (lim xx 2) (lim xx 3) := ⟨by simp [go_sem, e0], by simp [go_sem, e1], by simp [go_sem, e2], by simp [go_sem, e3], fun j hj => (ho.frozen j).trans (R5.fz j hj)⟩
            have hB9 := hH.trans (ho.below (by omega))
            have hz9 := Nat.le_of_eq ho.size.symm
            clear ho
            refine wpAnyH_ready (rs := [4]) (by kernel_rfl) (by simp) ?_
            refine AllReadyH.cons rfl (fun K hK => ?_) AllReadyH.nil
            go_simp
            refine hK.out _ _ hB9 (fun hH => ?_)
            clear hK K e0 e1 e2 e3 ef0 ef1 ef2 ef3 hB9
            generalize ((((wq90.setCell ⟨Wq80.heap.size, 0, none⟩ (.int .u64 (lim xx 0))).setCell ⟨Wq80.heap.size, 1, none⟩ (.int .u64 (lim xx 1))).setCell ⟨Wq80.heap.size, 2, none⟩ (.int .u64 (lim xx 2))).setCell ⟨Wq80.heap.size, 3, none⟩ (.int .u64 (lim xx 3))) = Wyq91 at hH R5 hz9 ⊢
            refine wpAnyH_done (by kernel_rfl) ?_ _
            have hb5 : Wq80.heap.size < Wyq91.heap.size := by omega
            obtain ⟨e0, e1, e2, e3, -⟩ := R5
            have hS5 := (hS.keep hH).cons (Wq80.heap.size) (xx) ⟨e0, e1, e2, e3⟩ hb5
            clear e0 e1 e2 e3
            go_wp2_with fail
            go_meet
            case rel => exact ⟨_, rfl, hS5⟩
    case rest =>
      obtain ⟨B17, rfl, hS2⟩ := hcut
      clear hS
      have hS := hS2
      clear hS2
      go_upto_region 18 with fail
      refine wp_region_held_drew (S := fun W => HeldL w W [(B17, xx), (B14, tp), (wq38.heap.size, nb), (wq36.heap.size, na), (wq34.heap.size, x1), (wq32.heap.size, o1), (wq30.heap.size, an), (wq19.heap.size, sg), (wq17.heap.size, sl), (wq15.heap.size, q), (wq13.heap.size, g), (wq11.heap.size, l), (w.heap.size, a), (w.heap.size + 1, b)]) (by kernel_rfl) hS.drew (fun hH => ?_)
      clear hS
      refine take_d (i := 0) (d := some 155) (v := .agg #[.int .u64 (lim xx 0), .int .u64 (lim xx 1), .int .u64 (lim xx 2), .int .u64 (lim xx 3)]) rfl rfl (by kernel_rfl) (by kernel_rfl) (by kernel_rfl) (fun _ _ _ h => h) (Or.inl ⟨by rfl, fun W hW => ?_⟩) hH ?_
      · obtain ⟨k0_0, k0_1, k0_2, k0_3⟩ := hW.get (B17) (xx) (.head _)
        clear hW hH
        go_simp
      simp only [Act.put, List.setIfInBounds_toArray, List.set_cons_zero, List.set_cons_succ]
      refine take_d (i := 3) (d := some 158) (v := .agg #[.int .u64 (lim a 0), .int .u64 (lim a 1), .int .u64 (lim a 2), .int .u64 (lim a 3)]) rfl rfl (by kernel_rfl) (by kernel_rfl) (by kernel_rfl) (fun _ _ _ h => h) (Or.inl ⟨by rfl, fun W hW => ?_⟩) hH ?_
      · obtain ⟨k0_0, k0_1, k0_2, k0_3⟩ := hW.get (w.heap.size) (a) (.tail _ (.tail _ (.tail _ (.tail _ (.tail _ (.tail _ (.tail _ (.tail _ (.tail _ (.tail _ (.tail _ (.tail _ (.head _)))))))))))))
        clear hW hH
        go_simp
      simp only [Act.put, List.setIfInBounds_toArray, List.set_cons_zero, List.set_cons_succ]
      refine wpAnyH_ready (rs := [1]) (by kernel_rfl) (by simp) ?_
      refine AllReadyH.cons rfl (fun K hK => ?_) AllReadyH.nil
      go_simp
      refine (of_ 256 (by decide) (by decide) _).mono ?_
      rintro e wq92 ⟨rfl, hbn⟩
      go_wp2_with fail
      refine hK.out _ _ (HeldL.keep hH hbn) (fun hH => ?_)
      clear hbn hK K
      refine wpAnyH_ready (rs := [2]) (by kernel_rfl) (by simp) ?_
      refine AllReadyH.cons rfl (fun K hK => ?_) AllReadyH.nil
      go_simp
      refine (P7 _).mono ?_
      rintro e wq93 ⟨rfl, hbn⟩
      go_wp2_with fail
      refine hK.out _ _ (HeldL.keep hH hbn) (fun hH => ?_)
      clear hbn hK K
      refine wpAnyH_ready (rs := [4]) (by kernel_rfl) (by simp) ?_
      refine AllReadyH.cons rfl (fun K hK => ?_) AllReadyH.nil
      go_simp
      refine (of_ 256 (by decide) (by decide) _).mono ?_
      rintro e wq94 ⟨rfl, hbn⟩
      go_wp2_with fail
      refine hK.out _ _ (HeldL.keep hH hbn) (fun hH => ?_)
      clear hbn hK K
      refine wpAnyH_ready (rs := [5]) (by kernel_rfl) (by simp) ?_
      refine AllReadyH.cons rfl (fun K hK => ?_) AllReadyH.nil
      go_simp
      refine (P5 _).mono ?_
      rintro e wq95 ⟨rfl, hbn⟩
      go_wp2_with fail
      refine hK.out _ _ (HeldL.keep hH hbn) (fun hH => ?_)
      clear hbn hK K
      refine take_d (i := 6) (d := some 161) (v := .bool true) rfl rfl (by kernel_rfl) (by kernel_rfl) (by kernel_rfl) (fun _ _ _ h => h) (Or.inl ⟨by rfl, fun W hW => ?_⟩) hH ?_
      · clear hW hH
        go_simp
      simp only [Act.put, List.setIfInBounds_toArray, List.set_cons_zero, List.set_cons_succ]
      refine take_d (i := 7) (d := some 162) (v := .bool true) rfl rfl (by kernel_rfl) (by kernel_rfl) (by kernel_rfl) (fun _ _ _ h => h) (Or.inl ⟨by rfl, fun W hW => ?_⟩) hH ?_
      · clear hW hH
        go_simp
      simp only [Act.put, List.setIfInBounds_toArray, List.set_cons_zero, List.set_cons_succ]
      refine take_d (i := 8) (d := some 163) (v := .agg #[.int .u64 (lim xx 0), .int .u64 (lim xx 1), .int .u64 (lim xx 2), .int .u64 (lim xx 3)]) rfl rfl (by kernel_rfl) (by kernel_rfl) (by kernel_rfl) (fun _ _ _ h => h) (Or.inl ⟨by rfl, fun W hW => ?_⟩) hH ?_
      · obtain ⟨k0_0, k0_1, k0_2, k0_3⟩ := hW.get (B17) (xx) (.head _)
        clear hW hH
        go_simp
      simp only [Act.put, List.setIfInBounds_toArray, List.set_cons_zero, List.set_cons_succ]
      refine wpAnyH_ready (rs := [9]) (by kernel_rfl) (by simp) ?_
      refine AllReadyH.cons rfl (fun K hK => ?_) AllReadyH.nil
      go_simp
      refine (of_ 128 (by decide) (by decide) _).mono ?_
      rintro e wq96 ⟨rfl, hbn⟩
      go_wp2_with fail
      refine hK.out _ _ (HeldL.keep hH hbn) (fun hH => ?_)
      clear hbn hK K
      refine wpAnyH_ready (rs := [10]) (by kernel_rfl) (by simp) ?_
      refine AllReadyH.cons rfl (fun K hK => ?_) AllReadyH.nil
      go_simp
      refine (P8 _).mono ?_
      rintro e wq97 ⟨rfl, hbn⟩
      go_wp2_with fail
      refine hK.out _ _ (HeldL.keep hH hbn) (fun hH => ?_)
      clear hbn hK K
      refine wpAnyH_ready (rs := [11]) (by kernel_rfl) (by simp) ?_
      refine AllReadyH.cons rfl (fun K hK => ?_) AllReadyH.nil
      go_simp
      refine (t1 _).mono ?_
      rintro e wq98 ⟨rfl, hbn⟩
      go_wp2_with fail
      refine hK.out _ _ (HeldL.keep hH hbn) (fun hH => ?_)
      clear hbn hK K
      refine take_d (i := 12) (d := some 167) (v := .bool true) rfl rfl (by kernel_rfl) (by kernel_rfl) (by kernel_rfl) (fun _ _ _ h => h) (Or.inl ⟨by rfl, fun W hW => ?_⟩) hH ?_
      · clear hW hH
        go_simp
      simp only [Act.put, List.setIfInBounds_toArray, List.set_cons_zero, List.set_cons_succ]
      refine take_d (i := 13) (d := some 168) (v := .agg #[.int .u64 (lim xx 0), .int .u64 (lim xx 1), .int .u64 (lim xx 2), .int .u64 (lim xx 3)]) rfl rfl (by kernel_rfl) (by kernel_rfl) (by kernel_rfl) (fun _ _ _ h => h) (Or.inl ⟨by rfl, fun W hW => ?_⟩) hH ?_
      · obtain ⟨k0_0, k0_1, k0_2, k0_3⟩ := hW.get (B17) (xx) (.head _)
        clear hW hH
        go_simp
      simp only [Act.put, List.setIfInBounds_toArray, List.set_cons_zero, List.set_cons_succ]
      refine wpAnyH_ready (rs := [14]) (by kernel_rfl) (by simp) ?_
      refine AllReadyH.cons rfl (fun K hK => ?_) AllReadyH.nil
      go_simp
      refine (of_ 0 (by decide) (by decide) _).mono ?_
      rintro e wq99 ⟨rfl, hbn⟩
      go_wp2_with fail
      refine hK.out _ _ (HeldL.keep hH hbn) (fun hH => ?_)
      clear hbn hK K
      refine wpAnyH_ready (rs := [15]) (by kernel_rfl) (by simp) ?_
      refine AllReadyH.cons rfl (fun K hK => ?_) AllReadyH.nil
      go_simp
      refine (of_ 129 (by decide) (by decide) _).mono ?_
      rintro e wq100 ⟨rfl, hbn⟩
      go_wp2_with fail
      refine hK.out _ _ (HeldL.keep hH hbn) (fun hH => ?_)
      clear hbn hK K
      refine wpAnyH_ready (rs := [16]) (by kernel_rfl) (by simp) ?_
      refine AllReadyH.cons rfl (fun K hK => ?_) AllReadyH.nil
      go_simp
      refine (P9 _).mono ?_
      rintro e wq101 ⟨rfl, hbn⟩
      go_wp2_with fail
      refine hK.out _ _ (HeldL.keep hH hbn) (fun hH => ?_)
      clear hbn hK K
      refine wpAnyH_ready (rs := [17]) (by kernel_rfl) (by simp) ?_
      refine AllReadyH.cons rfl (fun K hK => ?_) AllReadyH.nil
      go_simp
      refine (P10 _).mono ?_
      rintro e wq102 ⟨rfl, hbn⟩
      go_wp2_with fail
      refine hK.out _ _ (HeldL.keep hH hbn) (fun hH => ?_)
      clear hbn hK K
      refine wpAnyH_ready (rs := [18]) (by kernel_rfl) (by simp) ?_
      refine AllReadyH.cons rfl (fun K hK => ?_) AllReadyH.nil
      go_simp
      refine (t1 _).mono ?_
      rintro e wq103 ⟨rfl, hbn⟩
      go_wp2_with fail
      refine hK.out _ _ (HeldL.keep hH hbn) (fun hH => ?_)
      clear hbn hK K
      refine take_d (i := 19) (d := some 174) (v := .bool true) rfl rfl (by kernel_rfl) (by kernel_rfl) (by kernel_rfl) (fun _ _ _ h => h) (Or.inl ⟨by rfl, fun W hW => ?_⟩) hH ?_
      · clear hW hH
        go_simp
      simp only [Act.put, List.setIfInBounds_toArray, List.set_cons_zero, List.set_cons_succ]
      refine take_d (i := 20) (d := some 175) (v := .bool true) rfl rfl (by kernel_rfl) (by kernel_rfl) (by kernel_rfl) (fun _ _ _ h => h) (Or.inl ⟨by rfl, fun W hW => ?_⟩) hH ?_
      · clear hW hH
        go_simp
      simp only [Act.put, List.setIfInBounds_toArray, List.set_cons_zero, List.set_cons_succ]
      refine take_d (i := 21) (d := some 22) (v := .bool true) rfl rfl (by kernel_rfl) (by kernel_rfl) (by kernel_rfl) (fun _ _ _ h => h) (Or.inl ⟨by rfl, fun W hW => ?_⟩) hH ?_
      · clear hW hH
        go_simp
      simp only [Act.put, List.setIfInBounds_toArray, List.set_cons_zero, List.set_cons_succ]
      refine wpAnyH_done (by kernel_rfl) ?_ _
      have hS := hH
      clear hH
      go_upto_region 19 with fail
      obtain ⟨k0_0, k0_1, k0_2, k0_3⟩ := hS.get (w.heap.size) (a) (.tail _ (.tail _ (.tail _ (.tail _ (.tail _ (.tail _ (.tail _ (.tail _ (.tail _ (.tail _ (.tail _ (.tail _ (.head _)))))))))))))
      obtain ⟨k1_0, k1_1, k1_2, k1_3⟩ := hS.get (w.heap.size + 1) (b) (.tail _ (.tail _ (.tail _ (.tail _ (.tail _ (.tail _ (.tail _ (.tail _ (.tail _ (.tail _ (.tail _ (.tail _ (.tail _ (.head _))))))))))))))
      go_wp2_with fail
      refine (Hz _).mono ?_
      rintro e wq104 ⟨rfl, hbn⟩
      replace hS := hS.keep hbn
      clear hbn k0_0 k0_1 k0_2 k0_3 k1_0 k1_1 k1_2 k1_3
      go_upto_region 20 with fail
      replace hS := hS.put z
      dsimp only [put4] at hS
      generalize wq104.alloc (.cells #[.int .u64 (lim z 0), .int .u64 (lim z 1), .int .u64 (lim z 2), .int .u64 (lim z 3)] 24) = Wq105 at hS ⊢
      clear P1 P2 P3 P4 P5 P6 P7 P8 P9 P10 Hz
      refine wp_region_held_drew (S := fun W => HeldL w W [(wq104.heap.size, z), (B17, xx), (B14, tp), (wq38.heap.size, nb), (wq36.heap.size, na), (wq34.heap.size, x1), (wq32.heap.size, o1), (wq30.heap.size, an), (wq19.heap.size, sg), (wq17.heap.size, sl), (wq15.heap.size, q), (wq13.heap.size, g), (wq11.heap.size, l), (w.heap.size, a), (w.heap.size + 1, b)]) (by kernel_rfl) hS.drew (fun hH => ?_)
      clear hS
      refine take_d (i := 0) (d := some 179) (v := .bool true) rfl rfl (by kernel_rfl) (by kernel_rfl) (by kernel_rfl) (fun _ _ _ h => h) (Or.inl ⟨by rfl, fun W hW => ?_⟩) hH ?_
      · clear hW hH
        go_simp
      simp only [Act.put, List.setIfInBounds_toArray, List.set_cons_zero, List.set_cons_succ]
      refine take_d (i := 1) (d := some 180) (v := .bool true) rfl rfl (by kernel_rfl) (by kernel_rfl) (by kernel_rfl) (fun _ _ _ h => h) (Or.inl ⟨by rfl, fun W hW => ?_⟩) hH ?_
      · clear hW hH
        go_simp
      simp only [Act.put, List.setIfInBounds_toArray, List.set_cons_zero, List.set_cons_succ]
      refine take_d (i := 2) (d := some 181) (v := .bool true) rfl rfl (by kernel_rfl) (by kernel_rfl) (by kernel_rfl) (fun _ _ _ h => h) (Or.inl ⟨by rfl, fun W hW => ?_⟩) hH ?_
      · clear hW hH
        go_simp
      simp only [Act.put, List.setIfInBounds_toArray, List.set_cons_zero, List.set_cons_succ]
      refine take_d (i := 3) (d := some 182) (v := .bool true) rfl rfl (by kernel_rfl) (by kernel_rfl) (by kernel_rfl) (fun _ _ _ h => h) (Or.inl ⟨by rfl, fun W hW => ?_⟩) hH ?_
      · clear hW hH
        go_simp
      simp only [Act.put, List.setIfInBounds_toArray, List.set_cons_zero, List.set_cons_succ]
      refine take_d (i := 4) (d := some 183) (v := .bool true) rfl rfl (by kernel_rfl) (by kernel_rfl) (by kernel_rfl) (fun _ _ _ h => h) (Or.inl ⟨by rfl, fun W hW => ?_⟩) hH ?_
      · clear hW hH
        go_simp
      simp only [Act.put, List.setIfInBounds_toArray, List.set_cons_zero, List.set_cons_succ]
      refine take_d (i := 5) (d := some 184) (v := .bool true) rfl rfl (by kernel_rfl) (by kernel_rfl) (by kernel_rfl) (fun _ _ _ h => h) (Or.inl ⟨by rfl, fun W hW => ?_⟩) hH ?_
      · clear hW hH
        go_simp
      simp only [Act.put, List.setIfInBounds_toArray, List.set_cons_zero, List.set_cons_succ]
      refine take_d (i := 6) (d := some 185) (v := .bool true) rfl rfl (by kernel_rfl) (by kernel_rfl) (by kernel_rfl) (fun _ _ _ h => h) (Or.inl ⟨by rfl, fun W hW => ?_⟩) hH ?_
      · clear hW hH
        go_simp
      simp only [Act.put, List.setIfInBounds_toArray, List.set_cons_zero, List.set_cons_succ]
      refine take_d (i := 7) (d := some 186) (v := .bool true) rfl rfl (by kernel_rfl) (by kernel_rfl) (by kernel_rfl) (fun _ _ _ h => h) (Or.inl ⟨by rfl, fun W hW => ?_⟩) hH ?_
      · clear hW hH
        go_simp
      simp only [Act.put, List.setIfInBounds_toArray, List.set_cons_zero, List.set_cons_succ]
      refine take_d (i := 8) (d := some 187) (v := .bool true) rfl rfl (by kernel_rfl) (by kernel_rfl) (by kernel_rfl) (fun _ _ _ h => h) (Or.inl ⟨by rfl, fun W hW => ?_⟩) hH ?_
      · clear hW hH
        go_simp
      simp only [Act.put, List.setIfInBounds_toArray, List.set_cons_zero, List.set_cons_succ]
      refine take_d (i := 9) (d := some 188) (v := .bool true) rfl rfl (by kernel_rfl) (by kernel_rfl) (by kernel_rfl) (fun _ _ _ h => h) (Or.inl ⟨by rfl, fun W hW => ?_⟩) hH ?_
      · clear hW hH
        go_simp
      simp only [Act.put, List.setIfInBounds_toArray, List.set_cons_zero, List.set_cons_succ]
      refine take_d (i := 10) (d := some 189) (v := .bool true) rfl rfl (by kernel_rfl) (by kernel_rfl) (by kernel_rfl) (fun _ _ _ h => h) (Or.inl ⟨by rfl, fun W hW => ?_⟩) hH ?_
      · clear hW hH
        go_simp
      simp only [Act.put, List.setIfInBounds_toArray, List.set_cons_zero, List.set_cons_succ]
      refine take_d (i := 11) (d := some 190) (v := .bool true) rfl rfl (by kernel_rfl) (by kernel_rfl) (by kernel_rfl) (fun _ _ _ h => h) (Or.inl ⟨by rfl, fun W hW => ?_⟩) hH ?_
      · clear hW hH
        go_simp
      simp only [Act.put, List.setIfInBounds_toArray, List.set_cons_zero, List.set_cons_succ]
      refine take_d (i := 12) (d := some 191) (v := .bool true) rfl rfl (by kernel_rfl) (by kernel_rfl) (by kernel_rfl) (fun _ _ _ h => h) (Or.inl ⟨by rfl, fun W hW => ?_⟩) hH ?_
      · clear hW hH
        go_simp
      simp only [Act.put, List.setIfInBounds_toArray, List.set_cons_zero, List.set_cons_succ]
      refine take_d (i := 13) (d := some 192) (v := .bool true) rfl rfl (by kernel_rfl) (by kernel_rfl) (by kernel_rfl) (fun _ _ _ h => h) (Or.inl ⟨by rfl, fun W hW => ?_⟩) hH ?_
      · clear hW hH
        go_simp
      simp only [Act.put, List.setIfInBounds_toArray, List.set_cons_zero, List.set_cons_succ]
      refine take_d (i := 14) (d := some 193) (v := .bool true) rfl rfl (by kernel_rfl) (by kernel_rfl) (by kernel_rfl) (fun _ _ _ h => h) (Or.inl ⟨by rfl, fun W hW => ?_⟩) hH ?_
      · clear hW hH
        go_simp
      simp only [Act.put, List.setIfInBounds_toArray, List.set_cons_zero, List.set_cons_succ]
      refine take_d (i := 15) (d := some 194) (v := .bool true) rfl rfl (by kernel_rfl) (by kernel_rfl) (by kernel_rfl) (fun _ _ _ h => h) (Or.inl ⟨by rfl, fun W hW => ?_⟩) hH ?_
      · clear hW hH
        go_simp
      simp only [Act.put, List.setIfInBounds_toArray, List.set_cons_zero, List.set_cons_succ]
      refine take_d (i := 16) (d := some 195) (v := .bool true) rfl rfl (by kernel_rfl) (by kernel_rfl) (by kernel_rfl) (fun _ _ _ h => h) (Or.inl ⟨by rfl, fun W hW => ?_⟩) hH ?_
      · clear hW hH
        go_simp
      simp only [Act.put, List.setIfInBounds_toArray, List.set_cons_zero, List.set_cons_succ]
      refine take_d (i := 17) (d := some 196) (v := .agg #[.int .u64 (lim z 0), .int .u64 (lim z 1), .int .u64 (lim z 2), .int .u64 (lim z 3)]) rfl rfl (by kernel_rfl) (by kernel_rfl) (by kernel_rfl) (fun _ _ _ h => h) (Or.inl ⟨by rfl, fun W hW => ?_⟩) hH ?_
      · obtain ⟨k0_0, k0_1, k0_2, k0_3⟩ := hW.get (wq104.heap.size) (z) (.head _)
        clear hW hH
        go_simp
      simp only [Act.put, List.setIfInBounds_toArray, List.set_cons_zero, List.set_cons_succ]
      refine take_d (i := 20) (d := some 199) (v := .agg #[.int .u64 (lim a 0), .int .u64 (lim a 1), .int .u64 (lim a 2), .int .u64 (lim a 3)]) rfl rfl (by kernel_rfl) (by kernel_rfl) (by kernel_rfl) (fun _ _ _ h => h) (Or.inl ⟨by rfl, fun W hW => ?_⟩) hH ?_
      · obtain ⟨k0_0, k0_1, k0_2, k0_3⟩ := hW.get (w.heap.size) (a) (.tail _ (.tail _ (.tail _ (.tail _ (.tail _ (.tail _ (.tail _ (.tail _ (.tail _ (.tail _ (.tail _ (.tail _ (.tail _ (.head _))))))))))))))
        clear hW hH
        go_simp
      simp only [Act.put, List.setIfInBounds_toArray, List.set_cons_zero, List.set_cons_succ]
      refine take_d (i := 21) (d := some 200) (v := .agg #[.int .u64 0, .int .u64 0, .int .u64 0, .int .u64 0]) rfl rfl (by kernel_rfl) (by kernel_rfl) (by kernel_rfl) (fun _ _ _ h => h) (Or.inl ⟨by rfl, fun W hW => ?_⟩) hH ?_
      · clear hW hH
        go_simp
      simp only [Act.put, List.setIfInBounds_toArray, List.set_cons_zero, List.set_cons_succ]
      refine take_d (i := 22) (d := some 201) (v := .bool t) rfl rfl (by kernel_rfl) (by kernel_rfl) (by kernel_rfl) (fun _ _ _ h => h) (Or.inl ⟨by rfl, fun W hW => ?_⟩) hH ?_
      · clear hW hH
        go_simp
      simp only [Act.put, List.setIfInBounds_toArray, List.set_cons_zero, List.set_cons_succ]
      refine wpAnyH_ready (rs := [18]) (by kernel_rfl) (by simp) ?_
      refine AllReadyH.cons rfl (fun K hK => ?_) AllReadyH.nil
      go_simp
      refine (of_ 1 (by decide) (by decide) _).mono ?_
      rintro e wq106 ⟨rfl, hbn⟩
      go_wp2_with fail
      refine hK.out _ _ (HeldL.keep hH hbn) (fun hH => ?_)
      clear hbn hK K
      refine take_d (i := 19) (d := some 198) (v := .bool t) rfl rfl (by kernel_rfl) (by kernel_rfl) (by kernel_rfl) (fun _ _ _ h => h) (Or.inl ⟨by rfl, fun W hW => ?_⟩) hH ?_
      · clear hW hH
        go_simp
      simp only [Act.put, List.setIfInBounds_toArray, List.set_cons_zero, List.set_cons_succ]
      refine take_d (i := 23) (d := some 202) (v := .bool true) rfl rfl (by kernel_rfl) (by kernel_rfl) (by kernel_rfl) (fun _ _ _ h => h) (Or.inl ⟨by rfl, fun W hW => ?_⟩) hH ?_
      · clear hW hH
        go_simp
      simp only [Act.put, List.setIfInBounds_toArray, List.set_cons_zero, List.set_cons_succ]
      refine take_d (i := 24) (d := some 203) (v := .bool true) rfl rfl (by kernel_rfl) (by kernel_rfl) (by kernel_rfl) (fun _ _ _ h => h) (Or.inl ⟨by rfl, fun W hW => ?_⟩) hH ?_
      · clear hW hH
        go_simp
      simp only [Act.put, List.setIfInBounds_toArray, List.set_cons_zero, List.set_cons_succ]
      refine take_d (i := 25) (d := some 4) (v := .bool true) rfl rfl (by kernel_rfl) (by kernel_rfl) (by kernel_rfl) (fun _ _ _ h => h) (Or.inl ⟨by rfl, fun W hW => ?_⟩) hH ?_
      · clear hW hH
        go_simp
      simp only [Act.put, List.setIfInBounds_toArray, List.set_cons_zero, List.set_cons_succ]
      refine wpAnyH_done (by kernel_rfl) ?_ _
      have hS := hH
      clear hH
      go_wp2
      go_ret
      exact ⟨rfl, hS.b⟩

end Go.Proofs.Ytbephahokhnccaa
