/-
  purserref.Work at Byte: what it returns.
-/
import Derived.Test.YtbephahokhnccaaJ8
namespace Go.Proofs.Ytbephahokhnccaa
open Go.RowKit Go.Shelf
attribute [local go_sem] wd

abbrev S4 (w W : World) (a b : Nat) : Prop := Below w.heap.size w W ∧ Eq4 W w.heap.size a ∧ Eq4 W (w.heap.size + 1) b ∧ (∃ m, Cells4 W (w.heap.size + 1 + 1 + 1) m) ∧ w.heap.size + 1 + 1 + 1 < W.heap.size
theorem S4.keep {w W W' : World} {a b : Nat} (h : S4 w W a b) (hb : Below W.heap.size W W') : S4 w W' a b := by
  obtain ⟨hB, h1, h2, ⟨m, C⟩, hz⟩ := h
  exact ⟨hB.trans (hb.mono hB.size), Eq4.keep h1 hb (by omega), Eq4.keep h2 hb (by omega), ⟨m, C.below hb hz⟩, Nat.lt_of_lt_of_le hz hb.size⟩
theorem s4_start (w : World) (a b c : Nat) : S4 w ((((w.alloc (.cells #[.int .u64 (lim a 0), .int .u64 (lim a 1), .int .u64 (lim a 2), .int .u64 (lim a 3)] 24)).alloc (.cells #[.int .u64 (lim b 0), .int .u64 (lim b 1), .int .u64 (lim b 2), .int .u64 (lim b 3)] 24)).alloc (.cells #[.int .u64 (lim c 0), .int .u64 (lim c 1), .int .u64 (lim c 2), .int .u64 (lim c 3)] 24)).alloc (.cells #[.int .u64 0, .int .u64 0, .int .u64 0, .int .u64 0] 24)) a b :=
  ⟨below4 w _ _ _ _, by refine ⟨?_, ?_, ?_, ?_⟩ <;> simp [go_sem], by refine ⟨?_, ?_, ?_, ?_⟩ <;> simp [go_sem], ⟨0, by refine ⟨?_, ?_, ?_, ?_, ?_, ?_, ?_, ?_⟩ <;> simp [go_sem, lim_z]⟩, by simp⟩
set_option maxHeartbeats 1000000 in
theorem rwork22_lo (a b c : Nat) (h : a < 32) (w : World) : Calls Try.prog 8 #[.int .u8 22, wd a, wd b, wd c] w fun e w' => e = .returned (wd (bytev a b)) ∧ Below w.heap.size w w' := by
  have hsm := small_lo a (by omega)
  have hoc := octets b
  have hg := ob_get b 32 a h
  have hl := ob_len b 32
  have h32 : (a : Int) < 32 := by omega
  have h0 : 0 ≤ (a : Int) := by omega
  have hS := s4_start w a b c
  have hv : bytev a b = b / 2 ^ (8 * (31 - a)) % 256 := by unfold bytev; rw [if_pos h]
  obtain ⟨v0, v1, v2, v3⟩ := lim_small (bytev a b) (by rw [hv]; exact Nat.lt_of_lt_of_le (Nat.mod_lt _ (by decide)) (by decide))
  have ev : wd (bytev a b) = .agg #[.int .u64 ((bytev a b : Nat) : Int), .int .u64 0, .int .u64 0, .int .u64 0] := by unfold wd; rw [v0, v1, v2, v3]
  rw [ev]
  clear ev v0 v1 v2 v3
  have hw : ∀ hi, IntKind.u64.wrap ((((⟨(ob b 32).toArray⟩ : ByteArray)[a]'hi).toNat : Nat) : Int) = ((bytev a b : Nat) : Int) := fun hi => by
    have e : ((⟨(ob b 32).toArray⟩ : ByteArray)[a]'hi) = UInt8.ofNat (b / 2 ^ (8 * (32 - 1 - a))) := by
      have h1 := List.getElem?_eq_some_iff.1 hg
      exact h1.2
    rw [e, hv, IntKind.wrap_u64]
    have e2 : (UInt8.ofNat (b / 2 ^ (8 * (32 - 1 - a)))).toNat = b / 2 ^ (8 * (31 - a)) % 256 := by simp
    rw [e2]
    omega
  generalize bytev a b = v at hw ⊢
  clear hv
  generalize ob b 32 = l at hoc hg hl hw
  go_enter Try.func8, Try.ntmps8
  go_upto_region 24 with fail
  generalize (((w.alloc (.cells #[.int .u64 (lim a 0), .int .u64 (lim a 1), .int .u64 (lim a 2), .int .u64 (lim a 3)] 24)).alloc (.cells #[.int .u64 (lim b 0), .int .u64 (lim b 1), .int .u64 (lim b 2), .int .u64 (lim b 3)] 24)).alloc (.cells #[.int .u64 (lim c 0), .int .u64 (lim c 1), .int .u64 (lim c 2), .int .u64 (lim c 3)] 24)).alloc (.cells #[.int .u64 0, .int .u64 0, .int .u64 0, .int .u64 0] 24) = W0 at hS ⊢
  obtain ⟨hB, h1, h2, ⟨m, C⟩, hz⟩ := id hS
  obtain ⟨k0, k1, k2, k3⟩ := h1
  go_wp2_with fail
  clear k0 k1 k2 k3 hB C hz h2
  refine (hsm _).mono ?_
  rintro e w1 ⟨rfl, hbn⟩
  replace hS := hS.keep hbn
  clear hbn hsm
  obtain ⟨hB, h1, h2, ⟨m, C⟩, hz⟩ := id hS
  obtain ⟨k0, k1, k2, k3⟩ := h2
  go_wp2_with fail
  clear k0 k1 k2 k3 hB C hz h1
  refine (hoc _).mono ?_
  rintro e w2 ⟨rfl, hbn⟩
  replace hS := hS.keep hbn
  clear hbn hoc
  obtain ⟨hB, h1, h2, ⟨m, C⟩, hz⟩ := hS
  obtain ⟨y0, y1, y2, y3, y4, y5, y6, y7⟩ := C
  have hle : w.heap.size ≤ w.heap.size + 1 + 1 + 1 := by omega
  go_wp2
  simp [bodyPost, results, Try.results8, go_sem, y0, y1, y2, y3]
  exact (((hB.setCell (p := ⟨w.heap.size + 1 + 1 + 1, 0, none⟩) hle _).setCell (p := ⟨w.heap.size + 1 + 1 + 1, 1, none⟩) hle _).setCell (p := ⟨w.heap.size + 1 + 1 + 1, 2, none⟩) hle _).setCell (p := ⟨w.heap.size + 1 + 1 + 1, 3, none⟩) hle _
set_option maxHeartbeats 1000000 in
theorem rwork22_hi (a b c n : Nat) (h : 32 ≤ n) (w : World) (hsm : ∀ w : World, Calls Try.prog 25 #[wd a] w fun e w' => e = .returned (.int .i64 n) ∧ Below w.heap.size w w') :
    Calls Try.prog 8 #[.int .u8 22, wd a, wd b, wd c] w fun e w' => e = .returned (wd 0) ∧ Below w.heap.size w w' := by
  have h32 : ¬ (n : Int) < 32 := by omega
  have hS := s4_start w a b c
  have ez : wd 0 = .agg #[.int .u64 0, .int .u64 0, .int .u64 0, .int .u64 0] := by unfold wd; simp [lim_z]
  rw [ez]
  clear ez
  go_enter Try.func8, Try.ntmps8
  go_upto_region 24 with fail
  generalize (((w.alloc (.cells #[.int .u64 (lim a 0), .int .u64 (lim a 1), .int .u64 (lim a 2), .int .u64 (lim a 3)] 24)).alloc (.cells #[.int .u64 (lim b 0), .int .u64 (lim b 1), .int .u64 (lim b 2), .int .u64 (lim b 3)] 24)).alloc (.cells #[.int .u64 (lim c 0), .int .u64 (lim c 1), .int .u64 (lim c 2), .int .u64 (lim c 3)] 24)).alloc (.cells #[.int .u64 0, .int .u64 0, .int .u64 0, .int .u64 0] 24) = W0 at hS ⊢
  obtain ⟨hB, h1, h2, ⟨m, C⟩, hz⟩ := id hS
  obtain ⟨k0, k1, k2, k3⟩ := h1
  go_wp2_with fail
  clear k0 k1 k2 k3 hB C hz h2
  refine (hsm _).mono ?_
  rintro e w1 ⟨rfl, hbn⟩
  replace hS := hS.keep hbn
  clear hbn hsm
  obtain ⟨hB, h1, h2, ⟨m, C⟩, hz⟩ := hS
  obtain ⟨y0, y1, y2, y3, y4, y5, y6, y7⟩ := C
  have hle : w.heap.size ≤ w.heap.size + 1 + 1 + 1 := by omega
  go_wp2
  simp [bodyPost, results, Try.results8, go_sem, y0, y1, y2, y3]
  exact (((hB.setCell (p := ⟨w.heap.size + 1 + 1 + 1, 0, none⟩) hle _).setCell (p := ⟨w.heap.size + 1 + 1 + 1, 1, none⟩) hle _).setCell (p := ⟨w.heap.size + 1 + 1 + 1, 2, none⟩) hle _).setCell (p := ⟨w.heap.size + 1 + 1 + 1, 3, none⟩) hle _
theorem rwork22 (a b c : Nat) (ha : a < M) (w : World) : Calls Try.prog 8 #[.int .u8 22, wd a, wd b, wd c] w fun e w' => e = .returned (wd (bytev a b)) ∧ Below w.heap.size w w' := by
  by_cases h : a < 32
  · exact rwork22_lo a b c h w
  · have e : bytev a b = 0 := by unfold bytev; rw [if_neg h]
    rw [e]
    by_cases k : a ≤ 1099511627776
    · exact rwork22_hi a b c a (by omega) w (small_lo a k)
    · exact rwork22_hi a b c 1099511627776 (by omega) w (small_hi a ha (by omega))

end Go.Proofs.Ytbephahokhnccaa
