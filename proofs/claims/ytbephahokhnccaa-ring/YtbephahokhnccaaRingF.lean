/-
  purserkeep.Ring at this program: it returns true where the law of powers goes by the greatest number.
-/
import Derived.Test.YtbephahokhnccaaWork
import Derived.Test.YtbephahokhnccaaEq
import Derived.Test.YtbephahokhnccaaHeld
namespace Go.Proofs.Ytbephahokhnccaa
open Go.RowKit Go.Shelf
attribute [local go_sem] wd run_eq4 eq4_self


set_option maxHeartbeats 4000000 in
set_option maxRecDepth 100000 in
theorem ring_f (a b c : Nat) (ha : a < M) (hb : b < M) (hc : c < M) (w : World)
    (f1 : opw 1 2 3 = 5) (f2 : opw 3 2 3 = 6)
    (e1 : opw 1 b a = opw 1 a b) (e2 : opw 2 (opw 1 a b) b = a) (e30 : lim (opw 2 a a) 0 = 0) (e31 : lim (opw 2 a a) 1 = 0) (e32 : lim (opw 2 a a) 2 = 0) (e33 : lim (opw 2 a a) 3 = 0) (e4 : opw 1 a 0 = a)
    (e5 : opw 3 b a = opw 3 a b) (e6 : opw 3 a 1 = a) (e7 : opw 3 a (opw 1 b c) = opw 1 (opw 3 a b) (opw 3 a c)) (e8 : opw 3 (opw 3 a b) c = opw 3 a (opw 3 b c)) (e9 : opw 1 (opw 1 a b) c = opw 1 a (opw 1 b c))
    (e10 : eq4 (lim (opw 10 a (opw 1 b 1)) 0) (lim (opw 10 a (opw 1 b 1)) 1) (lim (opw 10 a (opw 1 b 1)) 2) (lim (opw 10 a (opw 1 b 1)) 3) (lim (opw 3 (opw 10 a b) a) 0) (lim (opw 3 (opw 10 a b) a) 1) (lim (opw 3 (opw 10 a b) a) 2) (lim (opw 3 (opw 10 a b) a) 3) = false) (e12 : opw 21 0 0 = b) (e11 : opw 10 a 0 = 1) :
    Calls Try.prog 4 #[wd a, wd b, wd c] w fun e w' => e = .returned (.bool true) ∧ Below w.heap.size w w' := by
  have hS := held_start w a b c
  go_enter Try.func4, Try.ntmps4
  go_wp2_with (first | (go_at_call 10; refine (of_ _ (by decide) (by decide) _).mono ?_; rintro e ws ⟨rfl, hbn⟩; replace hS := Held3.keep hS hbn; clear hbn) | (go_at_call 9; refine (work _ (by decide) _ _ (by first | assumption | exact opw_lt _ _ _ | exact small_lt _ (by decide)) (by first | assumption | exact opw_lt _ _ _ | exact small_lt _ (by decide)) _).mono ?_; rintro e ws ⟨rfl, hbn⟩; replace hS := Held3.keep hS hbn; clear hbn))
  replace hS := hS.put (opw 1 a b)
  go_region_held3 (fun W => Held4 w W w.heap.size a (w.heap.size + 1) b (w.heap.size + 1 + 1) c ws.heap.size (opw 1 a b)) (first | exact Held4.drew hS | exact Held4.keep (by assumption) (by assumption))
    (first | (go_at_call 10; refine (of_ _ (by decide) (by decide) _).mono ?_; rintro e wq ⟨rfl, hbn⟩) | (go_at_call 9; refine (work _ (by decide) _ _ (by first | assumption | exact opw_lt _ _ _ | exact small_lt _ (by decide)) (by first | assumption | exact opw_lt _ _ _ | exact small_lt _ (by decide)) _).mono ?_; rintro e wq ⟨rfl, hbn⟩))
  clear hS
  have hS : Held4 w wq w.heap.size a (w.heap.size + 1) b (w.heap.size + 1 + 1) c ws.heap.size (opw 1 a b) := by assumption
  go_wp2_with (first | (go_at_call 10; refine (of_ _ (by decide) (by decide) _).mono ?_; rintro e wp ⟨rfl, hbn⟩; replace hS := Held4.keep hS hbn; clear hbn) | (go_at_call 9; refine (work _ (by decide) _ _ (by first | assumption | exact opw_lt _ _ _ | exact small_lt _ (by decide)) (by first | assumption | exact opw_lt _ _ _ | exact small_lt _ (by decide)) _).mono ?_; rintro e wp ⟨rfl, hbn⟩; replace hS := Held4.keep hS hbn; clear hbn))
  replace hS := hS.put (opw 3 a b)
  go_region_held3 (fun W => Held5 w W w.heap.size a (w.heap.size + 1) b (w.heap.size + 1 + 1) c ws.heap.size (opw 1 a b) wp.heap.size (opw 3 a b)) (first | exact Held5.drew hS | exact Held5.keep (by assumption) (by assumption))
    (first | (go_at_call 10; refine (of_ _ (by decide) (by decide) _).mono ?_; rintro e wq ⟨rfl, hbn⟩) | (go_at_call 9; refine (work _ (by decide) _ _ (by first | assumption | exact opw_lt _ _ _ | exact small_lt _ (by decide)) (by first | assumption | exact opw_lt _ _ _ | exact small_lt _ (by decide)) _).mono ?_; rintro e wq ⟨rfl, hbn⟩))
  clear hS
  have hS : Held5 w wq w.heap.size a (w.heap.size + 1) b (w.heap.size + 1 + 1) c ws.heap.size (opw 1 a b) wp.heap.size (opw 3 a b) := by assumption
  go_wp2
  go_region_held3 (fun W => Held5 w W w.heap.size a (w.heap.size + 1) b (w.heap.size + 1 + 1) c ws.heap.size (opw 1 a b) wp.heap.size (opw 3 a b)) (first | exact Held5.drew hS | exact Held5.keep (by assumption) (by assumption))
    (first | (go_at_call 10; refine (of_ _ (by decide) (by decide) _).mono ?_; rintro e wq ⟨rfl, hbn⟩) | (go_at_call 9; refine (work _ (by decide) _ _ (by first | assumption | exact opw_lt _ _ _ | exact small_lt _ (by decide)) (by first | assumption | exact opw_lt _ _ _ | exact small_lt _ (by decide)) _).mono ?_; rintro e wq ⟨rfl, hbn⟩))
  clear hS
  have hS : Held5 w wq w.heap.size a (w.heap.size + 1) b (w.heap.size + 1 + 1) c ws.heap.size (opw 1 a b) wp.heap.size (opw 3 a b) := by assumption
  replace hS : Held3 w wq w.heap.size a (w.heap.size + 1) b (w.heap.size + 1 + 1) c := ⟨hS.1, hS.2.1, hS.2.2.1, ⟨hS.2.2.2.2.2.1.1, hS.2.2.2.2.2.1.2.1, hS.2.2.2.2.2.1.2.2.1⟩, hS.2.2.2.2.2.2⟩
  go_wp2_with (first | (go_at_call 10; refine (of_ _ (by decide) (by decide) _).mono ?_; rintro e wx ⟨rfl, hbn⟩; replace hS := Held3.keep hS hbn; clear hbn) | (go_at_call 9; refine (work _ (by decide) _ _ (by first | assumption | exact opw_lt _ _ _ | exact small_lt _ (by decide)) (by first | assumption | exact opw_lt _ _ _ | exact small_lt _ (by decide)) _).mono ?_; rintro e wx ⟨rfl, hbn⟩; replace hS := Held3.keep hS hbn; clear hbn))
  replace hS := hS.put (opw 10 a b)
  go_region_held3 (fun W => Held4 w W w.heap.size a (w.heap.size + 1) b (w.heap.size + 1 + 1) c wx.heap.size (opw 10 a b)) (first | exact Held4.drew hS | exact Held4.keep (by assumption) (by assumption))
    (first | (go_at_call 10; refine (of_ _ (by decide) (by decide) _).mono ?_; rintro e wq ⟨rfl, hbn⟩) | (go_at_call 9; refine (work _ (by decide) _ _ (by first | assumption | exact opw_lt _ _ _ | exact small_lt _ (by decide)) (by first | assumption | exact opw_lt _ _ _ | exact small_lt _ (by decide)) _).mono ?_; rintro e wq ⟨rfl, hbn⟩))
  clear hS
  have hS : Held4 w wq w.heap.size a (w.heap.size + 1) b (w.heap.size + 1 + 1) c wx.heap.size (opw 10 a b) := by assumption
  go_wp2
  go_region_held3 (fun W => Held4 w W w.heap.size a (w.heap.size + 1) b (w.heap.size + 1 + 1) c wx.heap.size (opw 10 a b)) (first | exact Held4.drew hS | exact Held4.keep (by assumption) (by assumption))
    (first | (go_at_call 10; refine (of_ _ (by decide) (by decide) _).mono ?_; rintro e wq ⟨rfl, hbn⟩) | (go_at_call 9; refine (work _ (by decide) _ _ (by first | assumption | exact opw_lt _ _ _ | exact small_lt _ (by decide)) (by first | assumption | exact opw_lt _ _ _ | exact small_lt _ (by decide)) _).mono ?_; rintro e wq ⟨rfl, hbn⟩))
  clear hS
  have hS : Held4 w wq w.heap.size a (w.heap.size + 1) b (w.heap.size + 1 + 1) c wx.heap.size (opw 10 a b) := by assumption
  go_wp2
  go_ret
  exact ⟨rfl, hS.2.2.2.2.2⟩

end Go.Proofs.Ytbephahokhnccaa
