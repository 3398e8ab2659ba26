/-
  number.size and SLess at this program: what they return.
-/
import Derived.Test.YtbephahokhnccaaSm
import Derived.Test.YtbephahokhnccaaHeld
import Derived.Deep.RegionHeld3
namespace Go.Proofs.Ytbephahokhnccaa
open Go.RowKit Go.Shelf
attribute [local go_sem] wd

theorem siz_lt (a : Nat) (ha : a < M) : siz a < M := by
  unfold siz
  split
  · exact opp_lt a
  · exact ha

set_option maxHeartbeats 400000 in
theorem size (a : Nat) (ha : a < M) (w : World) : Calls Try.prog 61 #[wd a] w fun e w' => e = .returned (wd (siz a)) ∧ Below w.heap.size w w' := by
  cases hn : neg a
  · have es : siz a = a := by unfold siz; rw [hn]; rfl
    rw [es]
    clear es
    go_enter Try.func61, Try.ntmps61
    go_wp2_with fail
    refine (negative a ha _).mono ?_
    rintro e w1 ⟨rfl, hb1⟩
    obtain ⟨hc, hf⟩ := bcell hb1
    have hB : Below w.heap.size w w1 := Below.trans (((Below.refl _ _).alloc (Nat.le_refl _) _).alloc (by simp) _) (hb1.mono (by simp; omega))
    clear hb1
    go_wp2
    simp [bodyPost, results, Try.results61, go_sem, hc]
    exact set4_below hB (by omega) _
  · have es : siz a = opp a := by unfold siz; rw [hn]; rfl
    rw [es]
    clear es
    go_enter Try.func61, Try.ntmps61
    go_wp2_with fail
    refine (negative a ha _).mono ?_
    rintro e w1 ⟨rfl, hb1⟩
    obtain ⟨hc, hf⟩ := bcell hb1
    have hB : Below w.heap.size w w1 := Below.trans (((Below.refl _ _).alloc (Nat.le_refl _) _).alloc (by simp) _) (hb1.mono (by simp; omega))
    have hz : w.heap.size + 1 < w1.heap.size := by have := hb1.size; simp at this; omega
    have C1 : Cells4 w1 (w.heap.size + 1) 0 := ⟨by simp [hc, go_sem, lim_z], by simp [hc, go_sem, lim_z], by simp [hc, go_sem, lim_z], by simp [hc, go_sem, lim_z], by simp [hf, go_sem], by simp [hf, go_sem], by simp [hf, go_sem], by simp [hf, go_sem]⟩
    clear hb1
    go_wp2_with fail
    refine (negate a ha _).mono ?_
    rintro e w2 ⟨rfl, hb2⟩
    replace hB := hB.trans (hb2.mono hB.size)
    obtain ⟨x0, x1, x2, x3, x4, x5, x6, x7⟩ := C1.below hb2 hz
    clear hb2 C1 hc hf
    go_wp2
    simp [bodyPost, results, Try.results61, go_sem, x0, x1, x2, x3]
    exact set4_below hB (by omega) _

/-- a below b as signed numbers. -/
def slt (a b : Nat) : Bool := if neg a != neg b then neg a else decide (a < b)

theorem held_start2 (w : World) (a b : Nat) : Held3 w (put4 (put4 w a) b) w.heap.size a (w.heap.size + 1) b w.heap.size a := by
  have h1 := put4_new w a
  have h2 := put4_new (put4 w a) b
  have s1 : (put4 w a).heap.size = w.heap.size + 1 := by simp
  have s2 : (put4 (put4 w a) b).heap.size = w.heap.size + 1 + 1 := by simp
  have k2 := put4_below (put4 w a) b
  have e1 := Eq4.keep h1 k2 (by omega)
  rw [s1] at h2
  exact ⟨e1, h2, e1, ⟨by omega, by omega, by omega⟩, (put4_below w a).trans (k2.mono (by omega))⟩

set_option maxHeartbeats 1000000 in
theorem sless (a b : Nat) (ha : a < M) (hb : b < M) (w : World) : Calls Try.prog 40 #[wd a, wd b] w fun e w' => e = .returned (.bool (slt a b)) ∧ Below w.heap.size w w' := by
  have hS := held_start2 w a b
  cases hna : neg a <;> cases hnb : neg b
  · have es : slt a b = decide (a < b) := by unfold slt; rw [hna, hnb]; rfl
    rw [es]
    clear es
    go_enter Try.func40, Try.ntmps40
    go_wp2
    go_region_held3 (fun W => Held3 w W w.heap.size a (w.heap.size + 1) b w.heap.size a) (first | exact Held3.drew hS | exact Held3.keep (by assumption) (by assumption))
      (first | (go_at_call 62; refine (negative a ha _).mono ?_; rintro e wq ⟨rfl, hbn⟩) | (go_at_call 62; refine (negative b hb _).mono ?_; rintro e wq ⟨rfl, hbn⟩))
    clear hS
    have hS : Held3 w wq w.heap.size a (w.heap.size + 1) b w.heap.size a := by assumption
    go_wp2_with fail
    refine (less a b ha hb _).mono ?_
    rintro e w2 ⟨rfl, hb2⟩
    go_wp2
    go_ret
    exact ⟨rfl, (Held3.keep hS hb2).2.2.2.2⟩
  · have es : slt a b = false := by unfold slt; rw [hna, hnb]; rfl
    rw [es]
    clear es
    go_enter Try.func40, Try.ntmps40
    go_wp2
    go_region_held3 (fun W => Held3 w W w.heap.size a (w.heap.size + 1) b w.heap.size a) (first | exact Held3.drew hS | exact Held3.keep (by assumption) (by assumption))
      (first | (go_at_call 62; refine (negative a ha _).mono ?_; rintro e wq ⟨rfl, hbn⟩) | (go_at_call 62; refine (negative b hb _).mono ?_; rintro e wq ⟨rfl, hbn⟩))
    clear hS
    have hS : Held3 w wq w.heap.size a (w.heap.size + 1) b w.heap.size a := by assumption
    go_wp2_with fail
    refine (negative a ha _).mono ?_
    rintro e w2 ⟨rfl, hb2⟩
    go_wp2
    go_ret
    exact ⟨rfl, (Held3.keep hS hb2).2.2.2.2⟩
  · have es : slt a b = true := by unfold slt; rw [hna, hnb]; rfl
    rw [es]
    clear es
    go_enter Try.func40, Try.ntmps40
    go_wp2
    go_region_held3 (fun W => Held3 w W w.heap.size a (w.heap.size + 1) b w.heap.size a) (first | exact Held3.drew hS | exact Held3.keep (by assumption) (by assumption))
      (first | (go_at_call 62; refine (negative a ha _).mono ?_; rintro e wq ⟨rfl, hbn⟩) | (go_at_call 62; refine (negative b hb _).mono ?_; rintro e wq ⟨rfl, hbn⟩))
    clear hS
    have hS : Held3 w wq w.heap.size a (w.heap.size + 1) b w.heap.size a := by assumption
    go_wp2_with fail
    refine (negative a ha _).mono ?_
    rintro e w2 ⟨rfl, hb2⟩
    go_wp2
    go_ret
    exact ⟨rfl, (Held3.keep hS hb2).2.2.2.2⟩
  · have es : slt a b = decide (a < b) := by unfold slt; rw [hna, hnb]; rfl
    rw [es]
    clear es
    go_enter Try.func40, Try.ntmps40
    go_wp2
    go_region_held3 (fun W => Held3 w W w.heap.size a (w.heap.size + 1) b w.heap.size a) (first | exact Held3.drew hS | exact Held3.keep (by assumption) (by assumption))
      (first | (go_at_call 62; refine (negative a ha _).mono ?_; rintro e wq ⟨rfl, hbn⟩) | (go_at_call 62; refine (negative b hb _).mono ?_; rintro e wq ⟨rfl, hbn⟩))
    clear hS
    have hS : Held3 w wq w.heap.size a (w.heap.size + 1) b w.heap.size a := by assumption
    go_wp2_with fail
    refine (less a b ha hb _).mono ?_
    rintro e w2 ⟨rfl, hb2⟩
    go_wp2
    go_ret
    exact ⟨rfl, (Held3.keep hS hb2).2.2.2.2⟩

end Go.Proofs.Ytbephahokhnccaa
