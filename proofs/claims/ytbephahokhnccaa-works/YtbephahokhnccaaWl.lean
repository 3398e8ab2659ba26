/-
  purserlaw.Works at this program: it returns true, the answers of both Works given by letters.
-/
import Derived.Test.YtbephahokhnccaaLs
import Derived.Test.YtbephahokhnccaaJ13
import Derived.Deep.CutRange
namespace Go.Proofs.Ytbephahokhnccaa
open Go.RowKit Go.Shelf
attribute [local go_sem] wd run_eq4 eq4_self

set_option maxHeartbeats 4000000 in
set_option maxRecDepth 100000 in
theorem works_walk (op : Int) (a b c r z : Nat) (w : World)
    (H0 : ∀ w : World, Calls Try.prog 7 #[.int .u8 3, .agg #[.int .u64 4294967296, .int .u64 0, .int .u64 0, .int .u64 0], .agg #[.int .u64 8589934592, .int .u64 0, .int .u64 0, .int .u64 0], .agg #[.int .u64 0, .int .u64 0, .int .u64 0, .int .u64 0]] w fun e w' => e = .returned (wd z) ∧ Below w.heap.size w w')
    (HG : PW op a b c r) (HR : RWork op a b c r)
    (Ez : eq4 (lim z 0) (lim z 1) (lim z 2) (lim z 3) 0 2 0 0 = true) :
    Calls Try.prog 3 #[.int .u8 op, wd a, wd b, wd c] w fun e w' => e = .returned (.bool true) ∧ Below w.heap.size w w' := by
  have hS := heldL3 w a b c
  dsimp only [put4] at hS
  go_enter Try.func3, Try.ntmps3
  go_upto_region 1 with fail
  generalize ((w.alloc (.cells #[.int .u64 (lim a 0), .int .u64 (lim a 1), .int .u64 (lim a 2), .int .u64 (lim a 3)] 24)).alloc (.cells #[.int .u64 (lim b 0), .int .u64 (lim b 1), .int .u64 (lim b 2), .int .u64 (lim b 3)] 24)).alloc (.cells #[.int .u64 (lim c 0), .int .u64 (lim c 1), .int .u64 (lim c 2), .int .u64 (lim c 3)] 24) = W0 at hS ⊢
  go_wp2_with fail
  refine (H0 _).mono ?_
  rintro e wq1 ⟨rfl, hbn⟩
  replace hS := hS.keep hbn
  clear hbn
  go_upto_region 2 with fail
  replace hS := hS.put z
  dsimp only [put4] at hS
  generalize wq1.alloc (.cells #[.int .u64 (lim z 0), .int .u64 (lim z 1), .int .u64 (lim z 2), .int .u64 (lim z 3)] 24) = Wq2 at hS ⊢
  obtain ⟨k0_0, k0_1, k0_2, k0_3⟩ := hS.get (w.heap.size) (a) (.tail _ (.head _))
  obtain ⟨k1_0, k1_1, k1_2, k1_3⟩ := hS.get (w.heap.size + 1) (b) (.tail _ (.tail _ (.head _)))
  obtain ⟨k2_0, k2_1, k2_2, k2_3⟩ := hS.get (w.heap.size + 1 + 1) (c) (.tail _ (.tail _ (.tail _ (.head _))))
  go_wp2_with fail
  refine (HG _).mono ?_
  rintro e wq3 ⟨rfl, hbn⟩
  replace hS := hS.keep hbn
  clear hbn k0_0 k0_1 k0_2 k0_3 k1_0 k1_1 k1_2 k1_3 k2_0 k2_1 k2_2 k2_3
  go_upto_region 3 with fail
  replace hS := hS.put r
  dsimp only [put4] at hS
  generalize wq3.alloc (.cells #[.int .u64 (lim r 0), .int .u64 (lim r 1), .int .u64 (lim r 2), .int .u64 (lim r 3)] 24) = Wq4 at hS ⊢
  refine wp_region_held_drew (S := fun W => HeldL w W [(wq3.heap.size, r), (wq1.heap.size, z), (w.heap.size, a), (w.heap.size + 1, b), (w.heap.size + 1 + 1, c)]) (by kernel_rfl) hS.drew (fun hH => ?_)
  clear hS
  refine take_d (i := 0) (d := some 20) (v := .agg #[.int .u64 (lim z 0), .int .u64 (lim z 1), .int .u64 (lim z 2), .int .u64 (lim z 3)]) rfl rfl (by kernel_rfl) (by kernel_rfl) (by kernel_rfl) (fun _ _ _ h => h) (Or.inl ⟨by rfl, fun W hW => ?_⟩) hH ?_
  · obtain ⟨k0_0, k0_1, k0_2, k0_3⟩ := hW.get (wq1.heap.size) (z) (.tail _ (.head _))
    clear hW hH
    go_simp
  simp only [Act.put, List.setIfInBounds_toArray, List.set_cons_zero, List.set_cons_succ]
  refine take_d (i := 1) (d := some 21) (v := .agg #[.int .u64 0, .int .u64 2, .int .u64 0, .int .u64 0]) rfl rfl (by kernel_rfl) (by kernel_rfl) (by kernel_rfl) (fun _ _ _ h => h) (Or.inl ⟨by rfl, fun W hW => ?_⟩) hH ?_
  · clear hW hH
    go_simp
  simp only [Act.put, List.setIfInBounds_toArray, List.set_cons_zero, List.set_cons_succ]
  refine take_d (i := 2) (d := some 22) (v := .bool true) rfl rfl (by kernel_rfl) (by kernel_rfl) (by kernel_rfl) (fun _ _ _ h => h) (Or.inl ⟨by rfl, fun W hW => ?_⟩) hH ?_
  · clear hW hH
    go_simp
  simp only [Act.put, List.setIfInBounds_toArray, List.set_cons_zero, List.set_cons_succ]
  refine take_d (i := 3) (d := some 23) (v := .bool true) rfl rfl (by kernel_rfl) (by kernel_rfl) (by kernel_rfl) (fun _ _ _ h => h) (Or.inl ⟨by rfl, fun W hW => ?_⟩) hH ?_
  · clear hW hH
    go_simp
  simp only [Act.put, List.setIfInBounds_toArray, List.set_cons_zero, List.set_cons_succ]
  refine take_d (i := 4) (d := some 24) (v := .agg #[.int .u64 (lim r 0), .int .u64 (lim r 1), .int .u64 (lim r 2), .int .u64 (lim r 3)]) rfl rfl (by kernel_rfl) (by kernel_rfl) (by kernel_rfl) (fun _ _ _ h => h) (Or.inl ⟨by rfl, fun W hW => ?_⟩) hH ?_
  · obtain ⟨k0_0, k0_1, k0_2, k0_3⟩ := hW.get (wq3.heap.size) (r) (.head _)
    clear hW hH
    go_simp
  simp only [Act.put, List.setIfInBounds_toArray, List.set_cons_zero, List.set_cons_succ]
  refine take_d (i := 5) (d := some 25) (v := .int .u8 op) rfl rfl (by kernel_rfl) (by kernel_rfl) (by kernel_rfl) (fun _ _ _ h => h) (Or.inl ⟨by rfl, fun W hW => ?_⟩) hH ?_
  · clear hW hH
    go_simp
  simp only [Act.put, List.setIfInBounds_toArray, List.set_cons_zero, List.set_cons_succ]
  refine take_d (i := 6) (d := some 26) (v := .agg #[.int .u64 (lim a 0), .int .u64 (lim a 1), .int .u64 (lim a 2), .int .u64 (lim a 3)]) rfl rfl (by kernel_rfl) (by kernel_rfl) (by kernel_rfl) (fun _ _ _ h => h) (Or.inl ⟨by rfl, fun W hW => ?_⟩) hH ?_
  · obtain ⟨k0_0, k0_1, k0_2, k0_3⟩ := hW.get (w.heap.size) (a) (.tail _ (.tail _ (.head _)))
    clear hW hH
    go_simp
  simp only [Act.put, List.setIfInBounds_toArray, List.set_cons_zero, List.set_cons_succ]
  refine take_d (i := 7) (d := some 27) (v := .agg #[.int .u64 (lim b 0), .int .u64 (lim b 1), .int .u64 (lim b 2), .int .u64 (lim b 3)]) rfl rfl (by kernel_rfl) (by kernel_rfl) (by kernel_rfl) (fun _ _ _ h => h) (Or.inl ⟨by rfl, fun W hW => ?_⟩) hH ?_
  · obtain ⟨k0_0, k0_1, k0_2, k0_3⟩ := hW.get (w.heap.size + 1) (b) (.tail _ (.tail _ (.tail _ (.head _))))
    clear hW hH
    go_simp
  simp only [Act.put, List.setIfInBounds_toArray, List.set_cons_zero, List.set_cons_succ]
  refine take_d (i := 8) (d := some 28) (v := .agg #[.int .u64 (lim c 0), .int .u64 (lim c 1), .int .u64 (lim c 2), .int .u64 (lim c 3)]) rfl rfl (by kernel_rfl) (by kernel_rfl) (by kernel_rfl) (fun _ _ _ h => h) (Or.inl ⟨by rfl, fun W hW => ?_⟩) hH ?_
  · obtain ⟨k0_0, k0_1, k0_2, k0_3⟩ := hW.get (w.heap.size + 1 + 1) (c) (.tail _ (.tail _ (.tail _ (.tail _ (.head _)))))
    clear hW hH
    go_simp
  simp only [Act.put, List.setIfInBounds_toArray, List.set_cons_zero, List.set_cons_succ]
  refine wpAnyH_ready (rs := [9]) (by kernel_rfl) (by simp) ?_
  refine AllReadyH.cons rfl (fun K hK => ?_) AllReadyH.nil
  go_simp
  refine (HR _).mono ?_
  rintro e wq5 ⟨rfl, hbn⟩
  go_wp2_with fail
  refine hK.out _ _ (HeldL.keep hH hbn) (fun hH => ?_)
  clear hbn hK K
  refine take_d (i := 10) (d := some 30) (v := .bool true) rfl rfl (by kernel_rfl) (by kernel_rfl) (by kernel_rfl) (fun _ _ _ h => h) (Or.inl ⟨by rfl, fun W hW => ?_⟩) hH ?_
  · clear hW hH
    go_simp
  simp only [Act.put, List.setIfInBounds_toArray, List.set_cons_zero, List.set_cons_succ]
  refine take_d (i := 11) (d := some 31) (v := .bool true) rfl rfl (by kernel_rfl) (by kernel_rfl) (by kernel_rfl) (fun _ _ _ h => h) (Or.inl ⟨by rfl, fun W hW => ?_⟩) hH ?_
  · clear hW hH
    go_simp
  simp only [Act.put, List.setIfInBounds_toArray, List.set_cons_zero, List.set_cons_succ]
  refine take_d (i := 12) (d := some 8) (v := .bool true) rfl rfl (by kernel_rfl) (by kernel_rfl) (by kernel_rfl) (fun _ _ _ h => h) (Or.inl ⟨by rfl, fun W hW => ?_⟩) hH ?_
  · clear hW hH
    go_simp
  simp only [Act.put, List.setIfInBounds_toArray, List.set_cons_zero, List.set_cons_succ]
  refine wpAnyH_done (by kernel_rfl) ?_ _
  have hS := hH
  clear hH
  go_wp2
  go_ret
  exact ⟨rfl, hS.b⟩

end Go.Proofs.Ytbephahokhnccaa
