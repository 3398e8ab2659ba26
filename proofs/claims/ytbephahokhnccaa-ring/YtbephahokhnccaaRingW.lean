/-
  purserkeep.Ring at this program: it returns true.
-/
import Derived.Test.YtbephahokhnccaaWork
import Derived.Test.YtbephahokhnccaaEq
import Derived.Test.YtbephahokhnccaaHeld
namespace Go.Proofs.Ytbephahokhnccaa
open Go.RowKit Go.Shelf
attribute [local go_sem] wd run_eq4 eq4_self


set_option maxHeartbeats 4000000 in
set_option maxRecDepth 100000 in
theorem ring_t (a b c : Nat) (ha : a < M) (hb : b < M) (hc : c < M) (w : World)
    (f1 : opw 1 2 3 = 5) (f2 : opw 3 2 3 = 6)
    (e1 : opw 1 b a = opw 1 a b) (e2 : opw 2 (opw 1 a b) b = a) (e30 : lim (opw 2 a a) 0 = 0) (e31 : lim (opw 2 a a) 1 = 0) (e32 : lim (opw 2 a a) 2 = 0) (e33 : lim (opw 2 a a) 3 = 0) (e4 : opw 1 a 0 = a)
    (e5 : opw 3 b a = opw 3 a b) (e6 : opw 3 a 1 = a) (e7 : opw 3 a (opw 1 b c) = opw 1 (opw 3 a b) (opw 3 a c)) (e8 : opw 3 (opw 3 a b) c = opw 3 a (opw 3 b c)) (e9 : opw 1 (opw 1 a b) c = opw 1 a (opw 1 b c))
    (e10 : opw 10 a (opw 1 b 1) = opw 3 (opw 10 a b) a) (e11 : opw 10 a 0 = 1) :
    Calls Try.prog 4 #[wd a, wd b, wd c] w fun e w' => e = .returned (.bool true) ∧ Below w.heap.size w w' := by
  have hS := held_start w a b c
  go_enter Try.func4, Try.ntmps4
  go_wp2_with (first | (go_at_call 10; refine (of_ _ (by decide) (by decide) _).mono ?_; rintro e ws ⟨rfl, hbn⟩; replace hS := Held3.keep hS hbn; clear hbn) | (go_at_call 9; refine (work _ (by decide) _ _ (by first | assumption | exact opw_lt _ _ _ | exact small_lt _ (by decide)) (by first | assumption | exact opw_lt _ _ _ | exact small_lt _ (by decide)) _).mono ?_; rintro e ws ⟨rfl, hbn⟩; replace hS := Held3.keep hS hbn; clear hbn))
  replace hS := hS.put (opw 1 a b)
  go_region_held3 (fun W => Held4 w W w.heap.size a (w.heap.size + 1) b (w.heap.size + 1 + 1) c ws.heap.size (opw 1 a b)) (first | exact Held4.drew hS | exact Held4.keep (by assumption) (by assumption))
    (first | (go_at_call 10; refine (of_ _ (by decide) (by decide) _).mono ?_; rintro e wq ⟨rfl, hbn⟩) | (go_at_call 9; refine (work _ (by decide) _ _ (by first | assumption | exact opw_lt _ _ _ | exact small_lt _ (by decide)) (by first | assumption | exact opw_lt _ _ _ | exact small_lt _ (by decide)) _).mono ?_; rintro e wq ⟨rfl, hbn⟩))
  clear hS
  have hS : Held4 w wq w.heap.size a (w.heap.size + 1) b (w.heap.size + 1 + 1) c ws.heap.size (opw 1 a b) := by assumption
  go_wp2_with (first | (go_at_call 10; refine (of_ _ (by decide) (by decide) _).mono ?_; rintro e wp ⟨rfl, hbn⟩; replace hS := Held4.keep hS hbn; clear hbn) | (go_at_call 9; refine (work _ (by decide) _ _ (by first | assumption | exact opw_lt _ _ _ | exact small_lt _ (by decide)) (by first | assumption | exact opw_lt _ _ _ | exact small_lt _ (by decide)) _).mono ?_; rintro e wp ⟨rfl, hbn⟩; replace hS := Held4.keep hS hbn; clear hbn))
  replace hS := hS.put (opw 3 a b)
  go_region_held3 (fun W => Held5 w W w.heap.size a (w.heap.size + 1) b (w.heap.size + 1 + 1) c ws.heap.size (opw 1 a b) wp.heap.size (opw 3 a b)) (first | exact Held5.drew hS | exact Held5.keep (by assumption) (by assumption))
    (first | (go_at_call 10; refine (of_ _ (by decide) (by decide) _).mono ?_; rintro e wq ⟨rfl, hbn⟩) | (go_at_call 9; refine (work _ (by decide) _ _ (by first | assumption | exact opw_lt _ _ _ | exact small_lt _ (by decide)) (by first | assumption | exact opw_lt _ _ _ | exact small_lt _ (by decide)) _).mono ?_; rintro e wq ⟨rfl, hbn⟩))
  clear hS
  have hS : Held5 w wq w.heap.size a (w.heap.size + 1) b (w.heap.size + 1 + 1) c ws.heap.size (opw 1 a b) wp.heap.size (opw 3 a b) := by assumption
  go_wp2
  go_region_held3 (fun W => Held5 w W w.heap.size a (w.heap.size + 1) b (w.heap.size + 1 + 1) c ws.heap.size (opw 1 a b) wp.heap.size (opw 3 a b)) (first | exact Held5.drew hS | exact Held5.keep (by assumption) (by assumption))
    (first | (go_at_call 10; refine (of_ _ (by decide) (by decide) _).mono ?_; rintro e wq ⟨rfl, hbn⟩) | (go_at_call 9; refine (work _ (by decide) _ _ (by first | assumption | exact opw_lt _ _ _ | exact small_lt _ (by decide)) (by first | assumption | exact opw_lt _ _ _ | exact small_lt _ (by decide)) _).mono ?_; rintro e wq ⟨rfl, hbn⟩))
  clear hS
  have hS : Held5 w wq w.heap.size a (w.heap.size + 1) b (w.heap.size + 1 + 1) c ws.heap.size (opw 1 a b) wp.heap.size (opw 3 a b) := by assumption
  replace hS : Held3 w wq w.heap.size a (w.heap.size + 1) b (w.heap.size + 1 + 1) c := ⟨hS.1, hS.2.1, hS.2.2.1, ⟨hS.2.2.2.2.2.1.1, hS.2.2.2.2.2.1.2.1, hS.2.2.2.2.2.1.2.2.1⟩, hS.2.2.2.2.2.2⟩
  go_wp2_with (first | (go_at_call 10; refine (of_ _ (by decide) (by decide) _).mono ?_; rintro e wx ⟨rfl, hbn⟩; replace hS := Held3.keep hS hbn; clear hbn) | (go_at_call 9; refine (work _ (by decide) _ _ (by first | assumption | exact opw_lt _ _ _ | exact small_lt _ (by decide)) (by first | assumption | exact opw_lt _ _ _ | exact small_lt _ (by decide)) _).mono ?_; rintro e wx ⟨rfl, hbn⟩; replace hS := Held3.keep hS hbn; clear hbn))
  replace hS := hS.put (opw 10 a b)
  refine wp_region_held_drew (S := fun W => Held4 w W w.heap.size a (w.heap.size + 1) b (w.heap.size + 1 + 1) c wx.heap.size (opw 10 a b)) (by kernel_rfl) hS.drew (fun hH => ?_)
  clear hS
  refine take_d (i := 0) (d := some 107) (v := .agg #[.int .u64 (lim a 0), .int .u64 (lim a 1), .int .u64 (lim a 2), .int .u64 (lim a 3)]) rfl rfl (by kernel_rfl) (by kernel_rfl) (by kernel_rfl) (fun _ _ _ h => h) (Or.inl ⟨by rfl, fun W hW => ?_⟩) hH ?_
  · go_simp
  simp only [Act.put, List.setIfInBounds_toArray, List.set_cons_zero, List.set_cons_succ]
  refine take_d (i := 1) (d := some 108) (v := .agg #[.int .u64 (lim b 0), .int .u64 (lim b 1), .int .u64 (lim b 2), .int .u64 (lim b 3)]) rfl rfl (by kernel_rfl) (by kernel_rfl) (by kernel_rfl) (fun _ _ _ h => h) (Or.inl ⟨by rfl, fun W hW => ?_⟩) hH ?_
  · go_simp
  simp only [Act.put, List.setIfInBounds_toArray, List.set_cons_zero, List.set_cons_succ]
  refine take_d (i := 5) (d := some 112) (v := .agg #[.int .u64 (lim (opw 10 a b) 0), .int .u64 (lim (opw 10 a b) 1), .int .u64 (lim (opw 10 a b) 2), .int .u64 (lim (opw 10 a b) 3)]) rfl rfl (by kernel_rfl) (by kernel_rfl) (by kernel_rfl) (fun _ _ _ h => h) (Or.inl ⟨by rfl, fun W hW => ?_⟩) hH ?_
  · go_simp
  simp only [Act.put, List.setIfInBounds_toArray, List.set_cons_zero, List.set_cons_succ]
  refine take_d (i := 6) (d := some 113) (v := .agg #[.int .u64 (lim a 0), .int .u64 (lim a 1), .int .u64 (lim a 2), .int .u64 (lim a 3)]) rfl rfl (by kernel_rfl) (by kernel_rfl) (by kernel_rfl) (fun _ _ _ h => h) (Or.inl ⟨by rfl, fun W hW => ?_⟩) hH ?_
  · go_simp
  simp only [Act.put, List.setIfInBounds_toArray, List.set_cons_zero, List.set_cons_succ]
  refine wpAnyH_ready (rs := [2]) (by kernel_rfl) (by simp) ?_
  refine AllReadyH.cons rfl (fun K hK => ?_) AllReadyH.nil
  go_simp
  refine (of_ 1 (by decide) (by decide) _).mono ?_
  rintro e wq ⟨rfl, hbn⟩
  go_wp2_with fail
  refine hK.out _ _ (Held4.keep hH hbn) (fun hH => ?_)
  clear hbn hK K
  refine wpAnyH_ready (rs := [3]) (by kernel_rfl) (by simp) ?_
  refine AllReadyH.cons rfl (fun K hK => ?_) AllReadyH.nil
  go_simp
  refine (work 1 (by decide) b 1 hb (small_lt 1 (by decide)) _).mono ?_
  rintro e wq ⟨rfl, hbn⟩
  go_wp2_with fail
  refine hK.out _ _ (Held4.keep hH hbn) (fun hH => ?_)
  clear hbn hK K
  refine wpAnyH_ready (rs := [4]) (by kernel_rfl) (by simp) ?_
  refine AllReadyH.cons rfl (fun K hK => ?_) AllReadyH.nil
  go_simp
  refine (work 10 (by decide) a (opw 1 b 1) ha (opw_lt _ _ _) _).mono ?_
  rintro e wq ⟨rfl, hbn⟩
  go_wp2_with fail
  refine hK.out _ _ (Held4.keep hH hbn) (fun hH => ?_)
  clear hbn hK K
  refine wpAnyH_ready (rs := [7]) (by kernel_rfl) (by simp) ?_
  refine AllReadyH.cons rfl (fun K hK => ?_) AllReadyH.nil
  go_simp
  refine (work 3 (by decide) (opw 10 a b) a (opw_lt _ _ _) ha _).mono ?_
  rintro e wq ⟨rfl, hbn⟩
  go_wp2_with fail
  refine hK.out _ _ (Held4.keep hH hbn) (fun hH => ?_)
  clear hbn hK K
  refine take_d (i := 8) (d := some 115) (v := .bool true) rfl rfl (by kernel_rfl) (by kernel_rfl) (by kernel_rfl) (fun _ _ _ h => h) (Or.inl ⟨by rfl, fun W hW => ?_⟩) hH ?_
  · go_simp
  simp only [Act.put, List.setIfInBounds_toArray, List.set_cons_zero, List.set_cons_succ]
  refine take_d (i := 9) (d := some 116) (v := .bool true) rfl rfl (by kernel_rfl) (by kernel_rfl) (by kernel_rfl) (fun _ _ _ h => h) (Or.inl ⟨by rfl, fun W hW => ?_⟩) hH ?_
  · go_simp
  simp only [Act.put, List.setIfInBounds_toArray, List.set_cons_zero, List.set_cons_succ]
  refine take_d (i := 10) (d := some 117) (v := undef) rfl rfl (by kernel_rfl) (by kernel_rfl) (by kernel_rfl) (fun _ _ _ h => h) (Or.inr ⟨by rfl, rfl⟩) hH ?_
  simp only [Act.put, List.setIfInBounds_toArray, List.set_cons_zero, List.set_cons_succ]
  refine take_d (i := 11) (d := some 118) (v := undef) rfl rfl (by kernel_rfl) (by kernel_rfl) (by kernel_rfl) (fun _ _ _ h => h) (Or.inr ⟨by rfl, rfl⟩) hH ?_
  simp only [Act.put, List.setIfInBounds_toArray, List.set_cons_zero, List.set_cons_succ]
  refine take_d (i := 12) (d := some 119) (v := undef) rfl rfl (by kernel_rfl) (by kernel_rfl) (by kernel_rfl) (fun _ _ _ h => h) (Or.inr ⟨by rfl, rfl⟩) hH ?_
  simp only [Act.put, List.setIfInBounds_toArray, List.set_cons_zero, List.set_cons_succ]
  refine take_d (i := 13) (d := some 120) (v := undef) rfl rfl (by kernel_rfl) (by kernel_rfl) (by kernel_rfl) (fun _ _ _ h => h) (Or.inr ⟨by rfl, rfl⟩) hH ?_
  simp only [Act.put, List.setIfInBounds_toArray, List.set_cons_zero, List.set_cons_succ]
  refine take_d (i := 14) (d := some 121) (v := undef) rfl rfl (by kernel_rfl) (by kernel_rfl) (by kernel_rfl) (fun _ _ _ h => h) (Or.inr ⟨by rfl, rfl⟩) hH ?_
  simp only [Act.put, List.setIfInBounds_toArray, List.set_cons_zero, List.set_cons_succ]
  refine take_d (i := 15) (d := some 122) (v := .bool true) rfl rfl (by kernel_rfl) (by kernel_rfl) (by kernel_rfl) (fun _ _ _ h => h) (Or.inl ⟨by rfl, fun W hW => ?_⟩) hH ?_
  · go_simp
  simp only [Act.put, List.setIfInBounds_toArray, List.set_cons_zero, List.set_cons_succ]
  refine take_d (i := 16) (d := some 14) (v := .bool true) rfl rfl (by kernel_rfl) (by kernel_rfl) (by kernel_rfl) (fun _ _ _ h => h) (Or.inl ⟨by rfl, fun W hW => ?_⟩) hH ?_
  · go_simp
  simp only [Act.put, List.setIfInBounds_toArray, List.set_cons_zero, List.set_cons_succ]
  refine wpAnyH_done (by kernel_rfl) ?_ _
  have hS := hH
  clear hH
  go_wp2
  go_region_held3 (fun W => Held4 w W w.heap.size a (w.heap.size + 1) b (w.heap.size + 1 + 1) c wx.heap.size (opw 10 a b)) (first | exact Held4.drew hS | exact Held4.keep (by assumption) (by assumption))
    (first | (go_at_call 10; refine (of_ _ (by decide) (by decide) _).mono ?_; rintro e wq ⟨rfl, hbn⟩) | (go_at_call 9; refine (work _ (by decide) _ _ (by first | assumption | exact opw_lt _ _ _ | exact small_lt _ (by decide)) (by first | assumption | exact opw_lt _ _ _ | exact small_lt _ (by decide)) _).mono ?_; rintro e wq ⟨rfl, hbn⟩))
  clear hS
  have hS : Held4 w wq w.heap.size a (w.heap.size + 1) b (w.heap.size + 1 + 1) c wx.heap.size (opw 10 a b) := by assumption
  go_wp2
  go_ret
  exact ⟨rfl, hS.2.2.2.2.2⟩

end Go.Proofs.Ytbephahokhnccaa
