/-
  Sixteen digits that lie in a block of memory.
-/
import Derived.Test.YtbephahokhnccaaLg
import Derived.Test.YtbephahokhnccaaMem
import Derived.Test.YtbephahokhnccaaSum
import Derived.Deep.MidRow
import Derived.Deep.WholeRow
namespace Go.Proofs.Ytbephahokhnccaa
open Go.RowKit Go.Shelf

/-- The block b holds sixteen digits, and may be written. -/
structure Row16 (W : World) (b : Nat) (x0 x1 x2 x3 x4 x5 x6 x7 x8 x9 x10 x11 x12 x13 x14 x15 : Int) : Prop where
  c0 : W.cell? ⟨b, 0, none⟩ = some (.int .u64 x0)
  c1 : W.cell? ⟨b, 1, none⟩ = some (.int .u64 x1)
  c2 : W.cell? ⟨b, 2, none⟩ = some (.int .u64 x2)
  c3 : W.cell? ⟨b, 3, none⟩ = some (.int .u64 x3)
  c4 : W.cell? ⟨b, 4, none⟩ = some (.int .u64 x4)
  c5 : W.cell? ⟨b, 5, none⟩ = some (.int .u64 x5)
  c6 : W.cell? ⟨b, 6, none⟩ = some (.int .u64 x6)
  c7 : W.cell? ⟨b, 7, none⟩ = some (.int .u64 x7)
  c8 : W.cell? ⟨b, 8, none⟩ = some (.int .u64 x8)
  c9 : W.cell? ⟨b, 9, none⟩ = some (.int .u64 x9)
  c10 : W.cell? ⟨b, 10, none⟩ = some (.int .u64 x10)
  c11 : W.cell? ⟨b, 11, none⟩ = some (.int .u64 x11)
  c12 : W.cell? ⟨b, 12, none⟩ = some (.int .u64 x12)
  c13 : W.cell? ⟨b, 13, none⟩ = some (.int .u64 x13)
  c14 : W.cell? ⟨b, 14, none⟩ = some (.int .u64 x14)
  c15 : W.cell? ⟨b, 15, none⟩ = some (.int .u64 x15)
  fz : ∀ j, j < 16 → W.frozen? ⟨b, j, none⟩ = false

theorem Row16.below {W W' : World} {b Z : Nat} {x0 x1 x2 x3 x4 x5 x6 x7 x8 x9 x10 x11 x12 x13 x14 x15 : Int} (h : Row16 W b x0 x1 x2 x3 x4 x5 x6 x7 x8 x9 x10 x11 x12 x13 x14 x15) (hb : Below Z W W') (hz : b < Z) : Row16 W' b x0 x1 x2 x3 x4 x5 x6 x7 x8 x9 x10 x11 x12 x13 x14 x15 :=
  ⟨(hb.cell (p := ⟨b, 0, none⟩) hz).trans h.c0, (hb.cell (p := ⟨b, 1, none⟩) hz).trans h.c1, (hb.cell (p := ⟨b, 2, none⟩) hz).trans h.c2, (hb.cell (p := ⟨b, 3, none⟩) hz).trans h.c3, (hb.cell (p := ⟨b, 4, none⟩) hz).trans h.c4, (hb.cell (p := ⟨b, 5, none⟩) hz).trans h.c5, (hb.cell (p := ⟨b, 6, none⟩) hz).trans h.c6, (hb.cell (p := ⟨b, 7, none⟩) hz).trans h.c7, (hb.cell (p := ⟨b, 8, none⟩) hz).trans h.c8, (hb.cell (p := ⟨b, 9, none⟩) hz).trans h.c9, (hb.cell (p := ⟨b, 10, none⟩) hz).trans h.c10, (hb.cell (p := ⟨b, 11, none⟩) hz).trans h.c11, (hb.cell (p := ⟨b, 12, none⟩) hz).trans h.c12, (hb.cell (p := ⟨b, 13, none⟩) hz).trans h.c13, (hb.cell (p := ⟨b, 14, none⟩) hz).trans h.c14, (hb.cell (p := ⟨b, 15, none⟩) hz).trans h.c15, fun j hj => (hb.frozen (p := ⟨b, j, none⟩) hz).trans (h.fz j hj)⟩
theorem Row16.drew {W : World} {b : Nat} {x0 x1 x2 x3 x4 x5 x6 x7 x8 x9 x10 x11 x12 x13 x14 x15 : Int} (h : Row16 W b x0 x1 x2 x3 x4 x5 x6 x7 x8 x9 x10 x11 x12 x13 x14 x15) : Row16 W.drew b x0 x1 x2 x3 x4 x5 x6 x7 x8 x9 x10 x11 x12 x13 x14 x15 := h.below (Z := b + 1) (Below.refl _ _).drew (by omega)
theorem row16_new (w : World) (x0 x1 x2 x3 x4 x5 x6 x7 x8 x9 x10 x11 x12 x13 x14 x15 : Int) : Row16 (w.alloc (.cells #[.int .u64 x0, .int .u64 x1, .int .u64 x2, .int .u64 x3, .int .u64 x4, .int .u64 x5, .int .u64 x6, .int .u64 x7, .int .u64 x8, .int .u64 x9, .int .u64 x10, .int .u64 x11, .int .u64 x12, .int .u64 x13, .int .u64 x14, .int .u64 x15] 34)) w.heap.size x0 x1 x2 x3 x4 x5 x6 x7 x8 x9 x10 x11 x12 x13 x14 x15 :=
  ⟨by simp [go_sem], by simp [go_sem], by simp [go_sem], by simp [go_sem], by simp [go_sem], by simp [go_sem], by simp [go_sem], by simp [go_sem], by simp [go_sem], by simp [go_sem], by simp [go_sem], by simp [go_sem], by simp [go_sem], by simp [go_sem], by simp [go_sem], by simp [go_sem], fun j hj => by simp [go_sem]⟩
theorem Row16.alloc {W : World} {b : Nat} {x0 x1 x2 x3 x4 x5 x6 x7 x8 x9 x10 x11 x12 x13 x14 x15 : Int} (h : Row16 W b x0 x1 x2 x3 x4 x5 x6 x7 x8 x9 x10 x11 x12 x13 x14 x15) (hz : b < W.heap.size) (o : Obj) : Row16 (W.alloc o) b x0 x1 x2 x3 x4 x5 x6 x7 x8 x9 x10 x11 x12 x13 x14 x15 := h.below ((Below.refl _ _).alloc (Nat.le_refl _) o) hz
theorem Row16.only {W W' : World} {b b' lo hi : Nat} {x0 x1 x2 x3 x4 x5 x6 x7 x8 x9 x10 x11 x12 x13 x14 x15 : Int} (h : Row16 W b x0 x1 x2 x3 x4 x5 x6 x7 x8 x9 x10 x11 x12 x13 x14 x15) (ho : Only W W' b' lo hi) (hz : b ≠ b') : Row16 W' b x0 x1 x2 x3 x4 x5 x6 x7 x8 x9 x10 x11 x12 x13 x14 x15 :=
  ⟨(ho.other hz 0).trans h.c0, (ho.other hz 1).trans h.c1, (ho.other hz 2).trans h.c2, (ho.other hz 3).trans h.c3, (ho.other hz 4).trans h.c4, (ho.other hz 5).trans h.c5, (ho.other hz 6).trans h.c6, (ho.other hz 7).trans h.c7, (ho.other hz 8).trans h.c8, (ho.other hz 9).trans h.c9, (ho.other hz 10).trans h.c10, (ho.other hz 11).trans h.c11, (ho.other hz 12).trans h.c12, (ho.other hz 13).trans h.c13, (ho.other hz 14).trans h.c14, (ho.other hz 15).trans h.c15, fun j hj => (ho.otherF hz j).trans (h.fz j hj)⟩

theorem Row16.range {W : World} {b : Nat} {x0 x1 x2 x3 x4 x5 x6 x7 x8 x9 x10 x11 x12 x13 x14 x15 : Int} (h : Row16 W b x0 x1 x2 x3 x4 x5 x6 x7 x8 x9 x10 x11 x12 x13 x14 x15) : W.rangeAt b 0 [.int .u64 x0, .int .u64 x1, .int .u64 x2, .int .u64 x3, .int .u64 x4, .int .u64 x5, .int .u64 x6, .int .u64 x7, .int .u64 x8, .int .u64 x9, .int .u64 x10, .int .u64 x11, .int .u64 x12, .int .u64 x13, .int .u64 x14, .int .u64 x15] := by
  intro j v hv
  rcases j with _ | _ | _ | _ | _ | _ | _ | _ | _ | _ | _ | _ | _ | _ | _ | _ | j
  · cases hv; exact h.c0
  · cases hv; exact h.c1
  · cases hv; exact h.c2
  · cases hv; exact h.c3
  · cases hv; exact h.c4
  · cases hv; exact h.c5
  · cases hv; exact h.c6
  · cases hv; exact h.c7
  · cases hv; exact h.c8
  · cases hv; exact h.c9
  · cases hv; exact h.c10
  · cases hv; exact h.c11
  · cases hv; exact h.c12
  · cases hv; exact h.c13
  · cases hv; exact h.c14
  · cases hv; exact h.c15
  · simp at hv
theorem Row16.there {W : World} {b : Nat} {x0 x1 x2 x3 x4 x5 x6 x7 x8 x9 x10 x11 x12 x13 x14 x15 : Int} (h : Row16 W b x0 x1 x2 x3 x4 x5 x6 x7 x8 x9 x10 x11 x12 x13 x14 x15) : W.there b 0 16 :=
  fun j hj => ⟨h.range.isSome j hj, by simpa using h.fz j hj⟩
theorem below_setCells (b : Nat) : ∀ (vs : List Value) (o : Nat) (B : Nat) (a w : World), Below B a w → B ≤ b → Below B a (w.setCells b o vs)
  | [], _, _, _, _, h, _ => h
  | v :: r, o, B, a, w, h, hb => by
    rw [World.setCells]
    exact below_setCells b r (o + 1) B a _ (h.setCell (p := ⟨b, o, none⟩) hb v) hb
theorem size_setCells (b : Nat) : ∀ (vs : List Value) (o : Nat) (w : World), (w.setCells b o vs).heap.size = w.heap.size
  | [], _, _ => rfl
  | v :: r, o, w => by
    rw [World.setCells, size_setCells b r]
    simp

/-- The digits of a number, as cells; a number as a value of sixteen digits. -/
def dl (n : Nat) : List Value := [.int .u64 (dig n 0), .int .u64 (dig n 1), .int .u64 (dig n 2), .int .u64 (dig n 3), .int .u64 (dig n 4), .int .u64 (dig n 5), .int .u64 (dig n 6), .int .u64 (dig n 7), .int .u64 (dig n 8), .int .u64 (dig n 9), .int .u64 (dig n 10), .int .u64 (dig n 11), .int .u64 (dig n 12), .int .u64 (dig n 13), .int .u64 (dig n 14), .int .u64 (dig n 15)]
def lv (n : Nat) : Value := .agg (dl n).toArray
theorem lv_lg (n : Nat) : lv n = lg n := rfl
theorem lv_dl (n : Nat) : lv n = .agg (dl n).toArray := rfl
theorem dl_len (n : Nat) : (dl n).length = 16 := rfl
theorem dl_one (n : Nat) : (dl n).toArray.all (·.oneCell') = true := by simp [dl, Value.oneCell']
theorem i34 : (Try.prog.info? 34).map (·.size) = some 16 := by kernel_rfl

/-- Sixteen cells. -/
structure LL (l : List Value) : Prop where
  len : l.length = 16
  one : l.toArray.all (·.oneCell') = true
theorem ll_dl (n : Nat) : LL (dl n) := ⟨dl_len n, dl_one n⟩
/-- The block b holds these sixteen cells, and may be written. -/
structure LH (W : World) (b : Nat) (l : List Value) : Prop where
  r : W.rangeAt b 0 l
  t : W.there b 0 16
  z : b < W.heap.size
theorem LH.below {W W' : World} {b : Nat} {l : List Value} (h : LH W b l) (hb : Below W.heap.size W W') : LH W' b l :=
  ⟨fun j v hv => (hb.cell (p := ⟨b, 0 + j, none⟩) h.z).trans (h.r j v hv), fun j hj => by
    have e := hb.cell (p := ⟨b, 0 + j, none⟩) h.z
    have f := hb.frozen (p := ⟨b, 0 + j, none⟩) h.z
    rw [e, f]
    exact h.t j hj, Nat.lt_of_lt_of_le h.z hb.size⟩
theorem LH.alloc {W : World} {b : Nat} {l : List Value} (h : LH W b l) (o : Obj) : LH (W.alloc o) b l := h.below ((Below.refl _ _).alloc (Nat.le_refl _) o)
theorem LH.drew {W : World} {b : Nat} {l : List Value} (h : LH W b l) : LH W.drew b l := h.below (Below.refl _ _).drew
theorem lh_new (w : World) {l : List Value} (hl : LL l) : LH (w.alloc (.cells l.toArray 34)) w.heap.size l := by
  have hr : (w.alloc (.cells l.toArray 34)).rangeAt w.heap.size 0 l := fun j v hv => by
    rw [cell_of_row _ _ _ _ _ _ (heap_alloc_last w _)]
    simpa using hv
  exact ⟨hr, fun j hj => ⟨hr.isSome j (by rw [hl.len]; exact hj), by simp [go_sem]⟩, by simp⟩
theorem LH.set {W : World} {b : Nat} {m l : List Value} (h : LH W b m) (hl : LL l) : LH (W.setCells b 0 l) b l :=
  ⟨World.rangeAt_setCells_same _ _ _ _ (by rw [hl.len]; exact h.t), World.there_setCells h.t _ _ _, by rw [size_setCells]; exact h.z⟩
theorem LH.other {W : World} {b c : Nat} {m : List Value} (h : LH W b m) (hne : b ≠ c) (l : List Value) : LH (W.setCells c 0 l) b m :=
  ⟨World.rangeAt_setCells_apart h.r _ _ _ (.inl hne), World.there_setCells h.t _ _ _, by rw [size_setCells]; exact h.z⟩
theorem z16 : (#[.int .u64 0, .int .u64 0, .int .u64 0, .int .u64 0, .int .u64 0, .int .u64 0, .int .u64 0, .int .u64 0, .int .u64 0, .int .u64 0, .int .u64 0, .int .u64 0, .int .u64 0, .int .u64 0, .int .u64 0, .int .u64 0] : Array Value) = (dl 0).toArray := by simp [dl, dig_z]
theorem lh_new0 (w : World) : LH (w.alloc (.cells #[.int .u64 0, .int .u64 0, .int .u64 0, .int .u64 0, .int .u64 0, .int .u64 0, .int .u64 0, .int .u64 0, .int .u64 0, .int .u64 0, .int .u64 0, .int .u64 0, .int .u64 0, .int .u64 0, .int .u64 0, .int .u64 0] 34)) w.heap.size (dl 0) := by
  rw [z16]
  exact lh_new w (ll_dl 0)
theorem LH.loadVar {W : World} {b : Nat} {l : List Value} (h : LH W b l) (hl : LL l) : (loadVar 34 ⟨b, 0, none⟩).run Try.prog W = .ok (.agg l.toArray) W :=
  run_loadVar_mid W b 0 34 l _ h.r Try.underlying34 rfl (by rw [hl.len]; exact i34)
/-- A load and a store of a number, in a plain region. -/
theorem ld34 {ops : Array Oper} {rest : List Oper} {op : Oper} {a : Act} {W : World} {Q : Exit → Act → World → Prop} {x : Operand} {b : Nat} {l : List Value} (h : LH W b l) (hl : LL l) (hgd : op.guard = none) (ho : op.op = .load 34 x) (hx : a.eval x = .pointer (some ⟨b, 0, none⟩))
    (k : wpList Try.prog ops Q rest (a.put op.dst (.agg l.toArray)) W) : wpList Try.prog ops Q (op :: rest) a W :=
  wpList_load_mid hgd 34 x ho b 0 hx l _ h.r Try.underlying34 rfl (by rw [hl.len]; exact i34) k
theorem st34 {ops : Array Oper} {rest : List Oper} {op : Oper} {a : Act} {W : World} {Q : Exit → Act → World → Prop} {x y : Operand} {b : Nat} {m l : List Value} (h : LH W b m) (hl : LL l) (hgd : op.guard = none) (ho : op.op = .store 34 x y) (hx : a.eval x = .pointer (some ⟨b, 0, none⟩)) (hy : a.eval y = .agg l.toArray)
    (k : wpList Try.prog ops Q rest (a.put op.dst undef) (W.setCells b 0 l)) : wpList Try.prog ops Q (op :: rest) a W :=
  wpList_store_mid hgd 34 x y ho b 0 l.toArray hx hy (by simpa [hl.len] using h.t) (by simpa [hl.len] using i34) hl.one k

theorem res34 {fn : Func} {T : TypeId} {R : Ending → World → Prop} {a : Act} {W : World} {t b : Nat} {v : Value} (hr : fn.results = #[.cell t T]) (ht : a.tmps.getD t undef = .pointer (some ⟨b, 0, none⟩))
    (h3 : (loadVar T ⟨b, 0, none⟩).run Try.prog W = .ok v W) (h : R (.returned v) W) (hd : a.defers = [] := by rfl) : bodyPost Try.prog fn R .ret a W := by
  refine ⟨hd, v, ?_, h⟩
  have ht' : a.tmps[t]?.getD undef = .pointer (some ⟨b, 0, none⟩) := by simpa using ht
  unfold results
  rw [hr]
  simp [ht', h3, asAddr]

end Go.Proofs.Ytbephahokhnccaa
