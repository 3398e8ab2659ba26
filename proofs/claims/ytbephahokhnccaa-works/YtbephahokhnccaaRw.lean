/-
  Rows of parts in blocks of the call's own.
-/
import Derived.Test.YtbephahokhnccaaMem
import Derived.Test.YtbephahokhnccaaLen
import Derived.Test.YtbephahokhnccaaCells
namespace Go.Proofs.Ytbephahokhnccaa
open Go.RowKit Go.Shelf

/-- The block b holds 4 parts, and may be written. -/
structure Row4 (W : World) (b : Nat) (x0 x1 x2 x3 : Int) : Prop where
  c0 : W.cell? ⟨b, 0, none⟩ = some (.int .u64 x0)
  c1 : W.cell? ⟨b, 1, none⟩ = some (.int .u64 x1)
  c2 : W.cell? ⟨b, 2, none⟩ = some (.int .u64 x2)
  c3 : W.cell? ⟨b, 3, none⟩ = some (.int .u64 x3)
  fz : ∀ j, j < 4 → W.frozen? ⟨b, j, none⟩ = false

theorem Row4.below {W W' : World} {b B : Nat} {x0 x1 x2 x3 : Int} (h : Row4 W b x0 x1 x2 x3) (hb : Below B W W') (hz : b < B) : Row4 W' b x0 x1 x2 x3 :=
  ⟨(hb.cell (p := ⟨b, 0, none⟩) hz).trans h.c0, (hb.cell (p := ⟨b, 1, none⟩) hz).trans h.c1, (hb.cell (p := ⟨b, 2, none⟩) hz).trans h.c2, (hb.cell (p := ⟨b, 3, none⟩) hz).trans h.c3, fun j hj => (hb.frozen (p := ⟨b, j, none⟩) hz).trans (h.fz j hj)⟩
theorem Row4.only {W W' : World} {b b' lo hi : Nat} {x0 x1 x2 x3 : Int} (h : Row4 W b x0 x1 x2 x3) (ho : Only W W' b' lo hi) (hz : b ≠ b') : Row4 W' b x0 x1 x2 x3 :=
  ⟨(ho.other hz 0).trans h.c0, (ho.other hz 1).trans h.c1, (ho.other hz 2).trans h.c2, (ho.other hz 3).trans h.c3, fun j hj => (ho.otherF hz j).trans (h.fz j hj)⟩

/-- The block b holds 8 parts, and may be written. -/
structure Row8 (W : World) (b : Nat) (x0 x1 x2 x3 x4 x5 x6 x7 : Int) : Prop where
  c0 : W.cell? ⟨b, 0, none⟩ = some (.int .u64 x0)
  c1 : W.cell? ⟨b, 1, none⟩ = some (.int .u64 x1)
  c2 : W.cell? ⟨b, 2, none⟩ = some (.int .u64 x2)
  c3 : W.cell? ⟨b, 3, none⟩ = some (.int .u64 x3)
  c4 : W.cell? ⟨b, 4, none⟩ = some (.int .u64 x4)
  c5 : W.cell? ⟨b, 5, none⟩ = some (.int .u64 x5)
  c6 : W.cell? ⟨b, 6, none⟩ = some (.int .u64 x6)
  c7 : W.cell? ⟨b, 7, none⟩ = some (.int .u64 x7)
  fz : ∀ j, j < 8 → W.frozen? ⟨b, j, none⟩ = false

theorem Row8.below {W W' : World} {b B : Nat} {x0 x1 x2 x3 x4 x5 x6 x7 : Int} (h : Row8 W b x0 x1 x2 x3 x4 x5 x6 x7) (hb : Below B W W') (hz : b < B) : Row8 W' b x0 x1 x2 x3 x4 x5 x6 x7 :=
  ⟨(hb.cell (p := ⟨b, 0, none⟩) hz).trans h.c0, (hb.cell (p := ⟨b, 1, none⟩) hz).trans h.c1, (hb.cell (p := ⟨b, 2, none⟩) hz).trans h.c2, (hb.cell (p := ⟨b, 3, none⟩) hz).trans h.c3, (hb.cell (p := ⟨b, 4, none⟩) hz).trans h.c4, (hb.cell (p := ⟨b, 5, none⟩) hz).trans h.c5, (hb.cell (p := ⟨b, 6, none⟩) hz).trans h.c6, (hb.cell (p := ⟨b, 7, none⟩) hz).trans h.c7, fun j hj => (hb.frozen (p := ⟨b, j, none⟩) hz).trans (h.fz j hj)⟩
theorem Row8.only {W W' : World} {b b' lo hi : Nat} {x0 x1 x2 x3 x4 x5 x6 x7 : Int} (h : Row8 W b x0 x1 x2 x3 x4 x5 x6 x7) (ho : Only W W' b' lo hi) (hz : b ≠ b') : Row8 W' b x0 x1 x2 x3 x4 x5 x6 x7 :=
  ⟨(ho.other hz 0).trans h.c0, (ho.other hz 1).trans h.c1, (ho.other hz 2).trans h.c2, (ho.other hz 3).trans h.c3, (ho.other hz 4).trans h.c4, (ho.other hz 5).trans h.c5, (ho.other hz 6).trans h.c6, (ho.other hz 7).trans h.c7, fun j hj => (ho.otherF hz j).trans (h.fz j hj)⟩

/-- The block b holds 9 parts, and may be written. -/
structure Row9 (W : World) (b : Nat) (x0 x1 x2 x3 x4 x5 x6 x7 x8 : Int) : Prop where
  c0 : W.cell? ⟨b, 0, none⟩ = some (.int .u64 x0)
  c1 : W.cell? ⟨b, 1, none⟩ = some (.int .u64 x1)
  c2 : W.cell? ⟨b, 2, none⟩ = some (.int .u64 x2)
  c3 : W.cell? ⟨b, 3, none⟩ = some (.int .u64 x3)
  c4 : W.cell? ⟨b, 4, none⟩ = some (.int .u64 x4)
  c5 : W.cell? ⟨b, 5, none⟩ = some (.int .u64 x5)
  c6 : W.cell? ⟨b, 6, none⟩ = some (.int .u64 x6)
  c7 : W.cell? ⟨b, 7, none⟩ = some (.int .u64 x7)
  c8 : W.cell? ⟨b, 8, none⟩ = some (.int .u64 x8)
  fz : ∀ j, j < 9 → W.frozen? ⟨b, j, none⟩ = false

theorem Row9.below {W W' : World} {b B : Nat} {x0 x1 x2 x3 x4 x5 x6 x7 x8 : Int} (h : Row9 W b x0 x1 x2 x3 x4 x5 x6 x7 x8) (hb : Below B W W') (hz : b < B) : Row9 W' b x0 x1 x2 x3 x4 x5 x6 x7 x8 :=
  ⟨(hb.cell (p := ⟨b, 0, none⟩) hz).trans h.c0, (hb.cell (p := ⟨b, 1, none⟩) hz).trans h.c1, (hb.cell (p := ⟨b, 2, none⟩) hz).trans h.c2, (hb.cell (p := ⟨b, 3, none⟩) hz).trans h.c3, (hb.cell (p := ⟨b, 4, none⟩) hz).trans h.c4, (hb.cell (p := ⟨b, 5, none⟩) hz).trans h.c5, (hb.cell (p := ⟨b, 6, none⟩) hz).trans h.c6, (hb.cell (p := ⟨b, 7, none⟩) hz).trans h.c7, (hb.cell (p := ⟨b, 8, none⟩) hz).trans h.c8, fun j hj => (hb.frozen (p := ⟨b, j, none⟩) hz).trans (h.fz j hj)⟩
theorem Row9.only {W W' : World} {b b' lo hi : Nat} {x0 x1 x2 x3 x4 x5 x6 x7 x8 : Int} (h : Row9 W b x0 x1 x2 x3 x4 x5 x6 x7 x8) (ho : Only W W' b' lo hi) (hz : b ≠ b') : Row9 W' b x0 x1 x2 x3 x4 x5 x6 x7 x8 :=
  ⟨(ho.other hz 0).trans h.c0, (ho.other hz 1).trans h.c1, (ho.other hz 2).trans h.c2, (ho.other hz 3).trans h.c3, (ho.other hz 4).trans h.c4, (ho.other hz 5).trans h.c5, (ho.other hz 6).trans h.c6, (ho.other hz 7).trans h.c7, (ho.other hz 8).trans h.c8, fun j hj => (ho.otherF hz j).trans (h.fz j hj)⟩

theorem Row8.put0 {W : World} {b : Nat} {x0 x1 x2 x3 x4 x5 x6 x7 : Int} (h : Row8 W b x0 x1 x2 x3 x4 x5 x6 x7) (q : Int) : Row8 (W.setCell ⟨b, 0, none⟩ (.int .u64 q)) b q x1 x2 x3 x4 x5 x6 x7 := by
  obtain ⟨c0, c1, c2, c3, c4, c5, c6, c7, fz⟩ := h
  refine ⟨?_, ?_, ?_, ?_, ?_, ?_, ?_, ?_, fun j hj => ?_⟩
  all_goals first | (simp [go_sem, *]; done) | (rw [← fz j hj]; simp [go_sem])
theorem Row8.put1 {W : World} {b : Nat} {x0 x1 x2 x3 x4 x5 x6 x7 : Int} (h : Row8 W b x0 x1 x2 x3 x4 x5 x6 x7) (q : Int) : Row8 (W.setCell ⟨b, 1, none⟩ (.int .u64 q)) b x0 q x2 x3 x4 x5 x6 x7 := by
  obtain ⟨c0, c1, c2, c3, c4, c5, c6, c7, fz⟩ := h
  refine ⟨?_, ?_, ?_, ?_, ?_, ?_, ?_, ?_, fun j hj => ?_⟩
  all_goals first | (simp [go_sem, *]; done) | (rw [← fz j hj]; simp [go_sem])
theorem Row8.put2 {W : World} {b : Nat} {x0 x1 x2 x3 x4 x5 x6 x7 : Int} (h : Row8 W b x0 x1 x2 x3 x4 x5 x6 x7) (q : Int) : Row8 (W.setCell ⟨b, 2, none⟩ (.int .u64 q)) b x0 x1 q x3 x4 x5 x6 x7 := by
  obtain ⟨c0, c1, c2, c3, c4, c5, c6, c7, fz⟩ := h
  refine ⟨?_, ?_, ?_, ?_, ?_, ?_, ?_, ?_, fun j hj => ?_⟩
  all_goals first | (simp [go_sem, *]; done) | (rw [← fz j hj]; simp [go_sem])
theorem Row8.put3 {W : World} {b : Nat} {x0 x1 x2 x3 x4 x5 x6 x7 : Int} (h : Row8 W b x0 x1 x2 x3 x4 x5 x6 x7) (q : Int) : Row8 (W.setCell ⟨b, 3, none⟩ (.int .u64 q)) b x0 x1 x2 q x4 x5 x6 x7 := by
  obtain ⟨c0, c1, c2, c3, c4, c5, c6, c7, fz⟩ := h
  refine ⟨?_, ?_, ?_, ?_, ?_, ?_, ?_, ?_, fun j hj => ?_⟩
  all_goals first | (simp [go_sem, *]; done) | (rw [← fz j hj]; simp [go_sem])
theorem Row8.put4 {W : World} {b : Nat} {x0 x1 x2 x3 x4 x5 x6 x7 : Int} (h : Row8 W b x0 x1 x2 x3 x4 x5 x6 x7) (q : Int) : Row8 (W.setCell ⟨b, 4, none⟩ (.int .u64 q)) b x0 x1 x2 x3 q x5 x6 x7 := by
  obtain ⟨c0, c1, c2, c3, c4, c5, c6, c7, fz⟩ := h
  refine ⟨?_, ?_, ?_, ?_, ?_, ?_, ?_, ?_, fun j hj => ?_⟩
  all_goals first | (simp [go_sem, *]; done) | (rw [← fz j hj]; simp [go_sem])
theorem Row8.put5 {W : World} {b : Nat} {x0 x1 x2 x3 x4 x5 x6 x7 : Int} (h : Row8 W b x0 x1 x2 x3 x4 x5 x6 x7) (q : Int) : Row8 (W.setCell ⟨b, 5, none⟩ (.int .u64 q)) b x0 x1 x2 x3 x4 q x6 x7 := by
  obtain ⟨c0, c1, c2, c3, c4, c5, c6, c7, fz⟩ := h
  refine ⟨?_, ?_, ?_, ?_, ?_, ?_, ?_, ?_, fun j hj => ?_⟩
  all_goals first | (simp [go_sem, *]; done) | (rw [← fz j hj]; simp [go_sem])
theorem Row8.put6 {W : World} {b : Nat} {x0 x1 x2 x3 x4 x5 x6 x7 : Int} (h : Row8 W b x0 x1 x2 x3 x4 x5 x6 x7) (q : Int) : Row8 (W.setCell ⟨b, 6, none⟩ (.int .u64 q)) b x0 x1 x2 x3 x4 x5 q x7 := by
  obtain ⟨c0, c1, c2, c3, c4, c5, c6, c7, fz⟩ := h
  refine ⟨?_, ?_, ?_, ?_, ?_, ?_, ?_, ?_, fun j hj => ?_⟩
  all_goals first | (simp [go_sem, *]; done) | (rw [← fz j hj]; simp [go_sem])
theorem Row8.put7 {W : World} {b : Nat} {x0 x1 x2 x3 x4 x5 x6 x7 : Int} (h : Row8 W b x0 x1 x2 x3 x4 x5 x6 x7) (q : Int) : Row8 (W.setCell ⟨b, 7, none⟩ (.int .u64 q)) b x0 x1 x2 x3 x4 x5 x6 q := by
  obtain ⟨c0, c1, c2, c3, c4, c5, c6, c7, fz⟩ := h
  refine ⟨?_, ?_, ?_, ?_, ?_, ?_, ?_, ?_, fun j hj => ?_⟩
  all_goals first | (simp [go_sem, *]; done) | (rw [← fz j hj]; simp [go_sem])

theorem Row4.drew {W : World} {b : Nat} {x0 x1 x2 x3 : Int} (h : Row4 W b x0 x1 x2 x3) : Row4 W.drew b x0 x1 x2 x3 := ⟨h.c0, h.c1, h.c2, h.c3, h.fz⟩
theorem Row8.drew {W : World} {b : Nat} {x0 x1 x2 x3 x4 x5 x6 x7 : Int} (h : Row8 W b x0 x1 x2 x3 x4 x5 x6 x7) : Row8 W.drew b x0 x1 x2 x3 x4 x5 x6 x7 := ⟨h.c0, h.c1, h.c2, h.c3, h.c4, h.c5, h.c6, h.c7, h.fz⟩
theorem Row9.drew {W : World} {b : Nat} {x0 x1 x2 x3 x4 x5 x6 x7 x8 : Int} (h : Row9 W b x0 x1 x2 x3 x4 x5 x6 x7 x8) : Row9 W.drew b x0 x1 x2 x3 x4 x5 x6 x7 x8 := ⟨h.c0, h.c1, h.c2, h.c3, h.c4, h.c5, h.c6, h.c7, h.c8, h.fz⟩
/-- A new block. -/
theorem row4_new (W : World) (x0 x1 x2 x3 : Int) : Row4 (W.alloc (.cells #[.int .u64 x0, .int .u64 x1, .int .u64 x2, .int .u64 x3] 24)) W.heap.size x0 x1 x2 x3 := by
  refine ⟨?_, ?_, ?_, ?_, fun j hj => ?_⟩ <;> simp [go_sem]
theorem row8_new (W : World) (x0 x1 x2 x3 x4 x5 x6 x7 : Int) : Row8 (W.alloc (.cells #[.int .u64 x0, .int .u64 x1, .int .u64 x2, .int .u64 x3, .int .u64 x4, .int .u64 x5, .int .u64 x6, .int .u64 x7] 56)) W.heap.size x0 x1 x2 x3 x4 x5 x6 x7 := by
  refine ⟨?_, ?_, ?_, ?_, ?_, ?_, ?_, ?_, fun j hj => ?_⟩ <;> simp [go_sem]
theorem row9_new (W : World) (x0 x1 x2 x3 x4 x5 x6 x7 x8 : Int) : Row9 (W.alloc (.cells #[.int .u64 x0, .int .u64 x1, .int .u64 x2, .int .u64 x3, .int .u64 x4, .int .u64 x5, .int .u64 x6, .int .u64 x7, .int .u64 x8] 67)) W.heap.size x0 x1 x2 x3 x4 x5 x6 x7 x8 := by
  refine ⟨?_, ?_, ?_, ?_, ?_, ?_, ?_, ?_, ?_, fun j hj => ?_⟩ <;> simp [go_sem]
theorem below1 (W : World) (o : Obj) : Below W.heap.size W (W.alloc o) := (Below.refl _ _).alloc (Nat.le_refl _) _

/-- LeadingZeros64 of a part that is not 0: by so much it may be shifted up. -/
theorem lz_s (x : Int) (w : World) (h0 : 0 < x) (h1 : x < 18446744073709551616) :
    Calls Try.prog 71 #[.int .u64 x] w fun e w' => ∃ s : Nat, e = .returned (.int .i64 s) ∧ s < 64 ∧ Hid (9223372036854775808 ≤ x * 2 ^ s ∧ x * 2 ^ s < 18446744073709551616) ∧ w' = w := by
  refine (leadingZeros64 x w (by omega) (by omega)).mono fun e w' ⟨he, hw⟩ => ⟨64 - Lib.bitLen x.toNat, ?_, ?_, ?_, hw⟩
  all_goals
    have a := bitLen_lt x.toNat (by omega)
    have b := bitLen_ge x.toNat (by omega) (by omega)
    have c := Lib.bitLen_le x.toNat 64 (Nat.le_refl _) (by omega)
  · rw [he]
    congr 2
    omega
  · have : Lib.bitLen x.toNat ≠ 0 := fun h => by rw [h] at a; simp at a; omega
    omega
  · obtain ⟨y, rfl⟩ := Int.eq_ofNat_of_zero_le (show 0 ≤ x by omega)
    rw [Int.toNat_natCast] at a b c ⊢
    generalize Lib.bitLen y = L at *
    have e : ((y : Int) * 2 ^ (64 - L)) = ((y * 2 ^ (64 - L) : Nat) : Int) := by rw [Int.natCast_mul, Int.natCast_pow]; rfl
    have e2 : 2 ^ L * 2 ^ (64 - L) = 18446744073709551616 := by rw [← Nat.pow_add, show L + (64 - L) = 64 by omega]
    have p := Nat.two_pow_pos (64 - L)
    have m1 := Nat.mul_lt_mul_of_pos_right a p
    have m2 := Nat.mul_le_mul_right (2 ^ (64 - L)) b
    rw [Nat.mul_assoc] at m2
    rw [e]
    show _ ∧ _
    rw [e2] at m1 m2
    generalize y * 2 ^ (64 - L) = P at *
    omega

end Go.Proofs.Ytbephahokhnccaa
