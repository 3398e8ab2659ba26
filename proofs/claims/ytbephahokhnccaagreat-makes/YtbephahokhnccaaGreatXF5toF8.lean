/-
 A Long in memory.
-/
import Derived.Test.YtbephahokhnccaaGreatXF10toF3
import Derived.Test.YtbephahokhnccaaGreatXE7toF4
import Derived.Deep.MidRow
import Derived.Deep.WholeRow
import Derived.Test.YtbephahokhnccaaGreatF6
import Derived.Deep.CutRange
namespace Go.Mark
open Go.RowKit Go.Proofs
structure Row16 (W : World) (b : Nat) (x0 x1 x2 x3 x4 x5 x6 x7 x8 x9 x10 x11 x12 x13 x14 x15 : Int) : Prop where
 c0 : W.cell? ⟨b, 0, none⟩ = some (.int .u64 x0)
 c1 : W.cell? ⟨b, 1, none⟩ = some (.int .u64 x1)
 c2 : W.cell? ⟨b, 2, none⟩ = some (.int .u64 x2)
 c3 : W.cell? ⟨b, 3, none⟩ = some (.int .u64 x3)
 c4 : W.cell? ⟨b, 4, none⟩ = some (.int .u64 x4)
 c5 : W.cell? ⟨b, 5, none⟩ = some (.int .u64 x5)
 c6 : W.cell? ⟨b, 6, none⟩ = some (.int .u64 x6)
 c7 : W.cell? ⟨b, 7, none⟩ = some (.int .u64 x7)
 c8 : W.cell? ⟨b, 8, none⟩ = some (.int .u64 x8)
 c9 : W.cell? ⟨b, 9, none⟩ = some (.int .u64 x9)
 c10 : W.cell? ⟨b, 10, none⟩ = some (.int .u64 x10)
 c11 : W.cell? ⟨b, 11, none⟩ = some (.int .u64 x11)
 c12 : W.cell? ⟨b, 12, none⟩ = some (.int .u64 x12)
 c13 : W.cell? ⟨b, 13, none⟩ = some (.int .u64 x13)
 c14 : W.cell? ⟨b, 14, none⟩ = some (.int .u64 x14)
 c15 : W.cell? ⟨b, 15, none⟩ = some (.int .u64 x15)
 fz : ∀ j, j < 16 → W.frozen? ⟨b, j, none⟩ = false
set_option maxRecDepth 100000 in
set_option maxHeartbeats 1000000 in
theorem Row16.below {W W' : World} {b Z : Nat} {x0 x1 x2 x3 x4 x5 x6 x7 x8 x9 x10 x11 x12 x13 x14 x15 : Int} (h : Row16 W b x0 x1 x2 x3 x4 x5 x6 x7 x8 x9 x10 x11 x12 x13 x14 x15) (hb : Below Z W W') (hz : b < Z) : Row16 W' b x0 x1 x2 x3 x4 x5 x6 x7 x8 x9 x10 x11 x12 x13 x14 x15 :=
 ⟨(hb.cell (p := ⟨b, 0, none⟩) hz).trans h.c0, (hb.cell (p := ⟨b, 1, none⟩) hz).trans h.c1, (hb.cell (p := ⟨b, 2, none⟩) hz).trans h.c2, (hb.cell (p := ⟨b, 3, none⟩) hz).trans h.c3, (hb.cell (p := ⟨b, 4, none⟩) hz).trans h.c4, (hb.cell (p := ⟨b, 5, none⟩) hz).trans h.c5, (hb.cell (p := ⟨b, 6, none⟩) hz).trans h.c6, (hb.cell (p := ⟨b, 7, none⟩) hz).trans h.c7, (hb.cell (p := ⟨b, 8, none⟩) hz).trans h.c8, (hb.cell (p := ⟨b, 9, none⟩) hz).trans h.c9, (hb.cell (p := ⟨b, 10, none⟩) hz).trans h.c10, (hb.cell (p := ⟨b, 11, none⟩) hz).trans h.c11, (hb.cell (p := ⟨b, 12, none⟩) hz).trans h.c12, (hb.cell (p := ⟨b, 13, none⟩) hz).trans h.c13, (hb.cell (p := ⟨b, 14, none⟩) hz).trans h.c14, (hb.cell (p := ⟨b, 15, none⟩) hz).trans h.c15, fun j hj => (hb.frozen (p := ⟨b, j, none⟩) hz).trans (h.fz j hj)⟩
set_option maxRecDepth 100000 in
set_option maxHeartbeats 1000000 in
theorem Row16.drew {W : World} {b : Nat} {x0 x1 x2 x3 x4 x5 x6 x7 x8 x9 x10 x11 x12 x13 x14 x15 : Int} (h : Row16 W b x0 x1 x2 x3 x4 x5 x6 x7 x8 x9 x10 x11 x12 x13 x14 x15) : Row16 W.drew b x0 x1 x2 x3 x4 x5 x6 x7 x8 x9 x10 x11 x12 x13 x14 x15 := h.below (Z := b + 1) (Below.refl _ _).drew (by omega)
set_option maxRecDepth 100000 in
set_option maxHeartbeats 1000000 in
theorem Row16.alloc {W : World} {b : Nat} {x0 x1 x2 x3 x4 x5 x6 x7 x8 x9 x10 x11 x12 x13 x14 x15 : Int} (h : Row16 W b x0 x1 x2 x3 x4 x5 x6 x7 x8 x9 x10 x11 x12 x13 x14 x15) (hz : b < W.heap.size) (o : Obj) : Row16 (W.alloc o) b x0 x1 x2 x3 x4 x5 x6 x7 x8 x9 x10 x11 x12 x13 x14 x15 := h.below ((Below.refl _ _).alloc (Nat.le_refl _) o) hz
set_option maxRecDepth 100000 in
set_option maxHeartbeats 1000000 in
theorem Row16.only {W W' : World} {b b' lo hi : Nat} {x0 x1 x2 x3 x4 x5 x6 x7 x8 x9 x10 x11 x12 x13 x14 x15 : Int} (h : Row16 W b x0 x1 x2 x3 x4 x5 x6 x7 x8 x9 x10 x11 x12 x13 x14 x15) (ho : Only W W' b' lo hi) (hz : b ≠ b') : Row16 W' b x0 x1 x2 x3 x4 x5 x6 x7 x8 x9 x10 x11 x12 x13 x14 x15 :=
 ⟨(ho.other hz 0).trans h.c0, (ho.other hz 1).trans h.c1, (ho.other hz 2).trans h.c2, (ho.other hz 3).trans h.c3, (ho.other hz 4).trans h.c4, (ho.other hz 5).trans h.c5, (ho.other hz 6).trans h.c6, (ho.other hz 7).trans h.c7, (ho.other hz 8).trans h.c8, (ho.other hz 9).trans h.c9, (ho.other hz 10).trans h.c10, (ho.other hz 11).trans h.c11, (ho.other hz 12).trans h.c12, (ho.other hz 13).trans h.c13, (ho.other hz 14).trans h.c14, (ho.other hz 15).trans h.c15, fun j hj => (ho.otherF hz j).trans (h.fz j hj)⟩
set_option maxRecDepth 100000 in
set_option maxHeartbeats 1000000 in
theorem Row16.range {W : World} {b : Nat} {x0 x1 x2 x3 x4 x5 x6 x7 x8 x9 x10 x11 x12 x13 x14 x15 : Int} (h : Row16 W b x0 x1 x2 x3 x4 x5 x6 x7 x8 x9 x10 x11 x12 x13 x14 x15) : W.rangeAt b 0 [.int .u64 x0, .int .u64 x1, .int .u64 x2, .int .u64 x3, .int .u64 x4, .int .u64 x5, .int .u64 x6, .int .u64 x7, .int .u64 x8, .int .u64 x9, .int .u64 x10, .int .u64 x11, .int .u64 x12, .int .u64 x13, .int .u64 x14, .int .u64 x15] := by
 intro j v hv
 rcases j with _ | _ | _ | _ | _ | _ | _ | _ | _ | _ | _ | _ | _ | _ | _ | _ | j
 ·cases hv; exact h.c0
 ·cases hv; exact h.c1
 ·cases hv; exact h.c2
 ·cases hv; exact h.c3
 ·cases hv; exact h.c4
 ·cases hv; exact h.c5
 ·cases hv; exact h.c6
 ·cases hv; exact h.c7
 ·cases hv; exact h.c8
 ·cases hv; exact h.c9
 ·cases hv; exact h.c10
 ·cases hv; exact h.c11
 ·cases hv; exact h.c12
 ·cases hv; exact h.c13
 ·cases hv; exact h.c14
 ·cases hv; exact h.c15
 ·simp at hv
set_option maxRecDepth 100000 in
set_option maxHeartbeats 1000000 in
theorem Row16.there {W : World} {b : Nat} {x0 x1 x2 x3 x4 x5 x6 x7 x8 x9 x10 x11 x12 x13 x14 x15 : Int} (h : Row16 W b x0 x1 x2 x3 x4 x5 x6 x7 x8 x9 x10 x11 x12 x13 x14 x15) : W.there b 0 16 :=
 fun j hj => ⟨h.range.isSome j hj, by simpa using h.fz j hj⟩
set_option maxRecDepth 100000 in
set_option maxHeartbeats 1000000 in
theorem below_setCells (b : Nat) : ∀ (vs : List Value) (o : Nat) (B : Nat) (a w : World), Below B a w → B ≤ b → Below B a (w.setCells b o vs)
 | [], _, _, _, _, h, _ => h
 | v :: r, o, B, a, w, h, hb => by
  rw [World.setCells]
  exact below_setCells b r (o + 1) B a _ (h.setCell (p := ⟨b, o, none⟩) hb v) hb
set_option maxRecDepth 100000 in
set_option maxHeartbeats 1000000 in
theorem size_setCells (b : Nat) : ∀ (vs : List Value) (o : Nat) (w : World), (w.setCells b o vs).heap.size = w.heap.size
 | [], _, _ => rfl
 | v :: r, o, w => by
  rw [World.setCells, size_setCells b r]
  simp
def dl (n : Nat) : List Value := [.int .u64 (dig n 0), .int .u64 (dig n 1), .int .u64 (dig n 2), .int .u64 (dig n 3), .int .u64 (dig n 4), .int .u64 (dig n 5), .int .u64 (dig n 6), .int .u64 (dig n 7), .int .u64 (dig n 8), .int .u64 (dig n 9), .int .u64 (dig n 10), .int .u64 (dig n 11), .int .u64 (dig n 12), .int .u64 (dig n 13), .int .u64 (dig n 14), .int .u64 (dig n 15)]
def lv (n : Nat) : Value := .agg (dl n).toArray
set_option maxRecDepth 100000 in
set_option maxHeartbeats 1000000 in
theorem lv_lg (n : Nat) : lv n = lg n := rfl
set_option maxRecDepth 100000 in
set_option maxHeartbeats 1000000 in
theorem lv_dl (n : Nat) : lv n = .agg (dl n).toArray := rfl
set_option maxRecDepth 100000 in
set_option maxHeartbeats 1000000 in
theorem dl_len (n : Nat) : (dl n).length = 16 := rfl
set_option maxRecDepth 100000 in
set_option maxHeartbeats 1000000 in
theorem dl_one (n : Nat) : (dl n).toArray.all (·.oneCell') = true := by simp [dl, Value.oneCell']
set_option maxRecDepth 100000 in
set_option maxHeartbeats 1000000 in
theorem i34 : (TryQ.prog.info? 96).map (·.size) = some 16 := by kernel_rfl
structure LL (l : List Value) : Prop where
 len : l.length = 16
 one : l.toArray.all (·.oneCell') = true
set_option maxRecDepth 100000 in
set_option maxHeartbeats 1000000 in
theorem ll_dl (n : Nat) : LL (dl n) := ⟨dl_len n, dl_one n⟩
structure LH (W : World) (b : Nat) (l : List Value) : Prop where
 r : W.rangeAt b 0 l
 t : W.there b 0 16
 z : b < W.heap.size
set_option maxRecDepth 100000 in
set_option maxHeartbeats 1000000 in
theorem LH.below {W W' : World} {b : Nat} {l : List Value} (h : LH W b l) (hb : Below W.heap.size W W') : LH W' b l :=
 ⟨fun j v hv => (hb.cell (p := ⟨b, 0 + j, none⟩) h.z).trans (h.r j v hv), fun j hj => by
  have e := hb.cell (p := ⟨b, 0 + j, none⟩) h.z
  have f := hb.frozen (p := ⟨b, 0 + j, none⟩) h.z
  rw [e, f]
  exact h.t j hj, Nat.lt_of_lt_of_le h.z hb.size⟩
set_option maxRecDepth 100000 in
set_option maxHeartbeats 1000000 in
theorem LH.alloc {W : World} {b : Nat} {l : List Value} (h : LH W b l) (o : Obj) : LH (W.alloc o) b l := h.below ((Below.refl _ _).alloc (Nat.le_refl _) o)
set_option maxRecDepth 100000 in
set_option maxHeartbeats 1000000 in
theorem LH.drew {W : World} {b : Nat} {l : List Value} (h : LH W b l) : LH W.drew b l := h.below (Below.refl _ _).drew
set_option maxRecDepth 100000 in
set_option maxHeartbeats 1000000 in
theorem lh_new (w : World) {l : List Value} (hl : LL l) : LH (w.alloc (.cells l.toArray 96)) w.heap.size l := by
 have hr : (w.alloc (.cells l.toArray 96)).rangeAt w.heap.size 0 l := fun j v hv => by
  rw [cell_of_row _ _ _ _ _ _ (heap_alloc_last w _)]
  simpa using hv
 exact ⟨hr, fun j hj => ⟨hr.isSome j (by rw [hl.len]; exact hj), by simp [go_sem]⟩, by simp⟩
set_option maxRecDepth 100000 in
set_option maxHeartbeats 1000000 in
theorem LH.set {W : World} {b : Nat} {m l : List Value} (h : LH W b m) (hl : LL l) : LH (W.setCells b 0 l) b l :=
 ⟨World.rangeAt_setCells_same _ _ _ _ (by rw [hl.len]; exact h.t), World.there_setCells h.t _ _ _, by rw [size_setCells]; exact h.z⟩
set_option maxRecDepth 100000 in
set_option maxHeartbeats 1000000 in
theorem LH.other {W : World} {b c : Nat} {m : List Value} (h : LH W b m) (hne : b ≠ c) (l : List Value) : LH (W.setCells c 0 l) b m :=
 ⟨World.rangeAt_setCells_apart h.r _ _ _ (.inl hne), World.there_setCells h.t _ _ _, by rw [size_setCells]; exact h.z⟩
set_option maxRecDepth 100000 in
set_option maxHeartbeats 1000000 in
theorem z16 : (#[.int .u64 0, .int .u64 0, .int .u64 0, .int .u64 0, .int .u64 0, .int .u64 0, .int .u64 0, .int .u64 0, .int .u64 0, .int .u64 0, .int .u64 0, .int .u64 0, .int .u64 0, .int .u64 0, .int .u64 0, .int .u64 0] : Array Value) = (dl 0).toArray := by simp [dl, dig_z]
set_option maxRecDepth 100000 in
set_option maxHeartbeats 1000000 in
theorem lh_new0 (w : World) : LH (w.alloc (.cells #[.int .u64 0, .int .u64 0, .int .u64 0, .int .u64 0, .int .u64 0, .int .u64 0, .int .u64 0, .int .u64 0, .int .u64 0, .int .u64 0, .int .u64 0, .int .u64 0, .int .u64 0, .int .u64 0, .int .u64 0, .int .u64 0] 96)) w.heap.size (dl 0) := by
 rw [z16]
 exact lh_new w (ll_dl 0)
set_option maxRecDepth 100000 in
set_option maxHeartbeats 1000000 in
theorem LH.loadVar {W : World} {b : Nat} {l : List Value} (h : LH W b l) (hl : LL l) : (loadVar 96 ⟨b, 0, none⟩).run TryQ.prog W = .ok (.agg l.toArray) W :=
 run_loadVar_mid W b 0 96 l _ h.r ((q_underlying 96).trans Tryz.underlying96) rfl (by rw [hl.len]; exact i34)
set_option maxRecDepth 100000 in
set_option maxHeartbeats 1000000 in
theorem ld34 {ops : Array Oper} {rest : List Oper} {op : Oper} {a : Act} {W : World} {Q : Exit → Act → World → Prop} {x : Operand} {b : Nat} {l : List Value} (h : LH W b l) (hl : LL l) (hgd : op.guard = none) (ho : op.op = .load 96 x) (hx : a.eval x = .pointer (some ⟨b, 0, none⟩))
  (k : wpList TryQ.prog ops Q rest (a.put op.dst (.agg l.toArray)) W) : wpList TryQ.prog ops Q (op :: rest) a W :=
 wpList_load_mid hgd 96 x ho b 0 hx l _ h.r ((q_underlying 96).trans Tryz.underlying96) rfl (by rw [hl.len]; exact i34) k
set_option maxRecDepth 100000 in
set_option maxHeartbeats 1000000 in
theorem st34 {ops : Array Oper} {rest : List Oper} {op : Oper} {a : Act} {W : World} {Q : Exit → Act → World → Prop} {x y : Operand} {b : Nat} {m l : List Value} (h : LH W b m) (hl : LL l) (hgd : op.guard = none) (ho : op.op = .store 96 x y) (hx : a.eval x = .pointer (some ⟨b, 0, none⟩)) (hy : a.eval y = .agg l.toArray)
  (k : wpList TryQ.prog ops Q rest (a.put op.dst undef) (W.setCells b 0 l)) : wpList TryQ.prog ops Q (op :: rest) a W :=
 wpList_store_mid hgd 96 x y ho b 0 l.toArray hx hy (by simpa [hl.len] using h.t) (by simpa [hl.len] using i34) hl.one k
set_option maxRecDepth 100000 in
set_option maxHeartbeats 1000000 in
theorem res34 {fn : Func} {T : TypeId} {R : Ending → World → Prop} {a : Act} {W : World} {t b : Nat} {v : Value} (hr : fn.results = #[.cell t T]) (ht : a.tmps.getD t undef = .pointer (some ⟨b, 0, none⟩))
  (h3 : (loadVar T ⟨b, 0, none⟩).run TryQ.prog W = .ok v W) (h : R (.returned v) W) (hd : a.defers = [] := by rfl) : bodyPost TryQ.prog fn R .ret a W := by
 refine ⟨hd, v, ?_, h⟩
 have ht' : a.tmps[t]?.getD undef = .pointer (some ⟨b, 0, none⟩) := by simpa using ht
 unfold results
 rw [hr]
 simp [ht', h3, asAddr]
end Go.Mark
/-
 purserref.plus at the stripped program.
-/
namespace Go.Mark
open Go.RowKit Go.Proofs
set_option maxRecDepth 100000 in
set_option maxHeartbeats 1000000 in
theorem dl_get (n k : Nat) (hk : k < 16) : (dl n)[k]? = some (.int .u64 (dig n k)) := by
 unfold dl
 rcases k with _ | _ | _ | _ | _ | _ | _ | _ | _ | _ | _ | _ | _ | _ | _ | _ | k
 iterate 16 rfl
 omega
def mix (s a k : Nat) : List Value := (dl s).take k ++ (dl a).drop k
set_option maxRecDepth 100000 in
set_option maxHeartbeats 1000000 in
theorem mix_0 (s a : Nat) : mix s a 0 = dl a := by unfold mix; simp
set_option maxRecDepth 100000 in
set_option maxHeartbeats 1000000 in
theorem mix_16 (s a : Nat) : mix s a 16 = dl s := by unfold mix; rw [List.take_of_length_le (Nat.le_of_eq (dl_len s)), List.drop_of_length_le (Nat.le_of_eq (dl_len a))]; simp
set_option maxRecDepth 100000 in
set_option maxHeartbeats 1000000 in
theorem mix_len (s a k : Nat) (hk : k ≤ 16) : (mix s a k).length = 16 := by unfold mix; simp [dl_len]; omega
set_option maxRecDepth 100000 in
set_option maxHeartbeats 1000000 in
theorem mix_get (s a k : Nat) (hk : k < 16) : (mix s a k)[k]? = some (.int .u64 (dig a k)) := by
 unfold mix
 rw [List.getElem?_append_right (by simp [dl_len]; omega)]
 simp only [List.length_take, dl_len, Nat.min_eq_left (Nat.le_of_lt hk), Nat.sub_self, List.getElem?_drop, Nat.add_zero]
 exact dl_get a k hk
set_option maxRecDepth 100000 in
set_option maxHeartbeats 1000000 in
theorem mix_set (s a k : Nat) (hk : k < 16) : (mix s a k).set k (.int .u64 (dig s k)) = mix s a (k + 1) := by
 unfold mix
 apply List.ext_getElem?
 intro j
 rw [List.getElem?_set]
 by_cases h : k = j
 ·subst h
  rw [if_pos rfl, if_pos (by simp [dl_len]; omega), List.getElem?_append_left (by simp [dl_len]; omega), List.getElem?_take_of_lt (by omega), dl_get s k hk]
 ·rw [if_neg h]
  by_cases hj : j < k
  ·rw [List.getElem?_append_left (by simp [dl_len]; omega), List.getElem?_append_left (by simp [dl_len]; omega), List.getElem?_take_of_lt hj, List.getElem?_take_of_lt (by omega)]
  ·rw [List.getElem?_append_right (by simp [dl_len]; omega), List.getElem?_append_right (by simp [dl_len]; omega)]
   simp only [List.length_take, dl_len, List.getElem?_drop]
   congr 1
   omega
set_option maxRecDepth 100000 in
set_option maxHeartbeats 1000000 in
theorem LH.setAt {W : World} {b k : Nat} {l : List Value} (h : LH W b l) (hl : l.length = 16) (hk : k < 16) (v : Value) : LH (W.setCell ⟨b, k, none⟩ v) b (l.set k v) := by
 refine ⟨fun j u hu => ?_, World.there_setCells h.t b k [v], by simpa using h.z⟩
 rw [Nat.zero_add]
 rw [List.getElem?_set] at hu
 by_cases e : k = j
 ·subst e
  rw [if_pos rfl, if_pos (by omega)] at hu
  cases hu
  obtain ⟨x, hx⟩ := Option.isSome_iff_exists.1 (h.t k hk).1
  rw [Nat.zero_add] at hx
  exact World.cell?_setCell_same _ _ _ hx
 ·rw [if_neg e] at hu
  rw [World.cell?_setCell_other _ _ _ _ (fun h => e (congrArg Addr.off h))]
  simpa using h.r j u hu
set_option maxRecDepth 100000 in
set_option maxHeartbeats 1000000 in
theorem LH.otherAt {W : World} {b c k : Nat} {l : List Value} (h : LH W b l) (hne : b ≠ c) (v : Value) : LH (W.setCell ⟨c, k, none⟩ v) b l :=
 ⟨World.rangeAt_setCells_apart h.r c k [v] (.inl hne), World.there_setCells h.t c k [v], by simpa using h.z⟩
set_option maxRecDepth 100000 in
set_option maxHeartbeats 1000000 in
theorem LH.cell {W : World} {b k : Nat} {l : List Value} {v : Value} (h : LH W b l) (hv : l[k]? = some v) : W.cell? ⟨b, k, none⟩ = some v := by
 have := h.r k v hv
 rwa [Nat.zero_add] at this
set_option maxRecDepth 100000 in
set_option maxHeartbeats 1000000 in
theorem LH.fz {W : World} {b k : Nat} {l : List Value} (h : LH W b l) (hk : k < 16) : W.frozen? ⟨b, k, none⟩ = false := by
 have := (h.t k hk).2
 rwa [Nat.zero_add] at this
def cyP (a b k : Nat) : Nat := (a % 4294967296 ^ k + b % 4294967296 ^ k) / 4294967296 ^ k
set_option maxRecDepth 100000 in
set_option maxHeartbeats 1000000 in
theorem cyP_0 (a b : Nat) : cyP a b 0 = 0 := by unfold cyP; simp [Nat.mod_one]
set_option maxRecDepth 100000 in
set_option maxHeartbeats 1000000 in
theorem pow_pos' (k : Nat) : 0 < (4294967296 : Nat) ^ k := Nat.pow_pos (by decide)
set_option maxRecDepth 100000 in
set_option maxHeartbeats 1000000 in
theorem cyP_le (a b k : Nat) : cyP a b k ≤ 1 := by
 unfold cyP
 have h1 := Nat.mod_lt a (pow_pos' k); have h2 := Nat.mod_lt b (pow_pos' k)
 have : (a % 4294967296 ^ k + b % 4294967296 ^ k) / 4294967296 ^ k < 2 := Nat.div_lt_of_lt_mul (by omega)
 omega
set_option maxRecDepth 100000 in
set_option maxHeartbeats 1000000 in
theorem digN (n k : Nat) : dig n k = ((n / 4294967296 ^ k % 4294967296 : Nat) : Int) := rfl
set_option maxRecDepth 100000 in
set_option maxHeartbeats 1000000 in
theorem mod_next (n k : Nat) : n % 4294967296 ^ (k + 1) = n % 4294967296 ^ k + 4294967296 ^ k * (n / 4294967296 ^ k % 4294967296) := by
 rw [Nat.pow_succ, Nat.mod_mul]
set_option maxRecDepth 100000 in
set_option maxHeartbeats 1000000 in
theorem plus_dig (a b k : Nat) : dig a k + dig b k + cyP a b k = dig (a + b) k + cyP a b (k + 1) * 4294967296 := by
 have hp := pow_pos' k
 have e : (a % 4294967296 ^ (k + 1) + b % 4294967296 ^ (k + 1)) / 4294967296 ^ k = a / 4294967296 ^ k % 4294967296 + b / 4294967296 ^ k % 4294967296 + cyP a b k := by
  rw [mod_next, mod_next]
  have : a % 4294967296 ^ k + 4294967296 ^ k * (a / 4294967296 ^ k % 4294967296) + (b % 4294967296 ^ k + 4294967296 ^ k * (b / 4294967296 ^ k % 4294967296)) = (a % 4294967296 ^ k + b % 4294967296 ^ k) + 4294967296 ^ k * (a / 4294967296 ^ k % 4294967296 + b / 4294967296 ^ k % 4294967296) := by
   rw [Nat.mul_add]; omega
  rw [this, Nat.add_mul_div_left _ _ hp]
  unfold cyP
  omega
 have d : cyP a b (k + 1) = (a % 4294967296 ^ (k + 1) + b % 4294967296 ^ (k + 1)) / 4294967296 ^ k / 4294967296 := by
  unfold cyP
  rw [Nat.div_div_eq_div_mul, ← Nat.pow_succ]
 have f : (a + b) / 4294967296 ^ k % 4294967296 = (a % 4294967296 ^ (k + 1) + b % 4294967296 ^ (k + 1)) / 4294967296 ^ k % 4294967296 := by
  rw [← Nat.mod_mul_right_div_self (a + b), ← Nat.mod_mul_right_div_self (a % _ + b % _), ← Nat.pow_succ, ← Nat.add_mod]
 rw [digN, digN, digN, f, d]
 rw [e]
 omega
set_option maxRecDepth 100000 in
set_option maxHeartbeats 1000000 in
theorem dig_MM (n k : Nat) (hk : k < 16) : dig (n % MM) k = dig n k := by
 rw [digN, digN]
 have e : MM = 4294967296 ^ k * (4294967296 ^ (15 - k) * 4294967296) := by
  rw [← Nat.pow_succ, ← Nat.pow_add, show k + (15 - k + 1) = 16 by omega]
  decide
 rw [e, Nat.mod_mul_right_div_self, Nat.mod_mod_of_dvd _ ⟨_, Nat.mul_comm _ _⟩]
set_option maxRecDepth 100000 in
set_option maxHeartbeats 1000000 in
theorem plus_step (x y c : Int) (x0 : 0 ≤ x) (x1 : x < 4294967296) (y0 : 0 ≤ y) (y1 : y < 4294967296) (c0 : 0 ≤ c) (c1 : c ≤ 1) :
  ∃ u d : Int, IntKind.u64.wrap (x + y) = x + y ∧ IntKind.u64.wrap (x + y + c) = x + y + c ∧ 0 ≤ x + y + c ∧ (x + y + c) % 4294967296 = u ∧ (x + y + c).tmod 4294967296 = u ∧
   IntKind.u64.wrap ((x + y + c).tdiv 4294967296) = d ∧ u + d * 4294967296 = x + y + c ∧ 0 ≤ u ∧ u < 4294967296 ∧ 0 ≤ d ∧ d ≤ 1 := by
 refine ⟨(x + y + c) % 4294967296, (x + y + c) / 4294967296, uw _ (by omega) (by omega), uw _ (by omega) (by omega), by omega, rfl, Int.tmod_eq_emod_of_nonneg (by omega), ?_, by omega, by omega, by omega, by omega, by omega⟩
 rw [Int.tdiv_eq_ediv_of_nonneg (by omega)]
 exact uw _ (by omega) (by omega)
set_option maxRecDepth 100000 in
set_option maxHeartbeats 1000000 in
theorem plus (a b : Nat) (w : World) :
  Calls TryQ.prog 28 #[.agg (dl a).toArray, .agg (dl b).toArray] w fun e w' => e = .returned (.agg (dl ((a + b) % MM)).toArray) ∧ Below w.heap.size w w' := by
 go_enter TryQ.func28, Tryz.ntmps28
 go_wp2
 go_loopw [5, 6] (fun c i wr => ∃ k : Nat, i = .int .i64 k ∧ k ≤ 16 ∧ c = .int .u64 (cyP a b k) ∧ LH wr w.heap.size (mix ((a + b) % MM) a k) ∧ LH wr (w.heap.size + 1) (dl b) ∧ LH wr (w.heap.size + 1 + 1) (dl 0) ∧ Below w.heap.size w wr) (fun _ i _ => 16 - (Go.RowKit.intOf i).toNat)
 case atStart =>
  refine ⟨0, rfl, by decide, by rw [cyP_0]; rfl, ?_, ?_, ?_, below3 w _ _ _⟩
  ·rw [mix_0]; exact ((lh_new w (ll_dl a)).alloc _).alloc _
  ·have h := lh_new (w.alloc (.cells (dl a).toArray 96)) (ll_dl b)
   rw [show (w.alloc (.cells (dl a).toArray 96)).heap.size = w.heap.size + 1 by simp] at h
   exact h.alloc _
  ·have h := lh_new0 ((w.alloc (.cells (dl a).toArray 96)).alloc (.cells (dl b).toArray 96))
   rw [show ((w.alloc (.cells (dl a).toArray 96)).alloc (.cells (dl b).toArray 96)).heap.size = w.heap.size + 1 + 1 by simp] at h
   exact h
 case round =>
  obtain ⟨k, rfl, hk, rfl, L0, L1, L2, hB⟩ := hrel
  by_cases hlt : k < 16
  ·have hlt' : (k : Int) < 16 := by omega
   have c0 := L0.cell (mix_get _ a k hlt)
   have c1 := L1.cell (dl_get b k hlt)
   have f0 := L0.fz hlt
   have hd := plus_dig a b k
   have he := dig_MM (a + b) k hlt
   have b1 := dig_nn (a + b) k
   have b2 := dig_lt (a + b) k
   have hc := cyP_le a b k
   obtain ⟨u, d, k1, k2, k3, k4, k5, k6, k7, k8, k9, k10, k11⟩ := plus_step (dig a k) (dig b k) (cyP a b k) (dig_nn a k) (dig_lt a k) (dig_nn b k) (dig_lt b k) (by omega) (by omega)
   have eu : u = dig ((a + b) % MM) k := by omega
   have ed : d = cyP a b (k + 1) := by omega
   subst ed
   have HS := mix_set ((a + b) % MM) a k hlt
   rw [← eu] at HS
   clear hd he b1 b2 hc k7 k8 k9 k10 k11 eu
   go_wp2
   go_region
   go_wp2
   go_roundw
   case rel =>
    refine ⟨k + 1, by go_num, by omega, rfl, ?_, (L1.otherAt (by omega) _).drew, (L2.otherAt (by omega) _).drew, (hB.setCell (p := ⟨w.heap.size, k, none⟩) (Nat.le_refl _) _).drew⟩
    rw [← HS]
    exact (L0.setAt (mix_len _ a k hk) hlt _).drew
   case measure => simp [Go.RowKit.intOf]; omega
  ·have hk16 : k = 16 := by omega
   subst hk16
   rw [mix_16] at L0
   go_upto_region 8 with fail
   refine wp_region_list ?_
   have hL := ll_dl ((a + b) % MM)
   refine ld34 L0 hL rfl rfl rfl ?_
   refine st34 L2 hL rfl rfl rfl rfl ?_
   replace hB := below_setCells (w.heap.size + 1 + 1) (dl ((a + b) % MM)) 0 _ _ _ hB (by omega)
   replace L2 := L2.set hL
   generalize wr.setCells (w.heap.size + 1 + 1) 0 (dl ((a + b) % MM)) = Wf at hB L2 ⊢
   go_wp2
   exact res34 Tryz.results28 rfl (L2.loadVar hL) ⟨rfl, hB⟩
end Go.Mark
/-
 purserref.below at the stripped program.
-/
namespace Go.Mark
open Go.RowKit Go.Proofs
set_option maxRecDepth 100000 in
set_option maxHeartbeats 1000000 in
theorem up_dig (a j : Nat) : a / 4294967296 ^ j = a / 4294967296 ^ j % 4294967296 + 4294967296 * (a / 4294967296 ^ (j + 1)) := by
 rw [Nat.pow_succ, ← Nat.div_div_eq_div_mul]
 omega
set_option maxRecDepth 100000 in
set_option maxHeartbeats 1000000 in
theorem below_eq (a b j : Nat) (h : a / 4294967296 ^ (j + 1) = b / 4294967296 ^ (j + 1)) (e : dig a j = dig b j) : a / 4294967296 ^ j = b / 4294967296 ^ j := by
 rw [digN, digN] at e
 rw [up_dig a j, up_dig b j, h]
 omega
set_option maxRecDepth 100000 in
set_option maxHeartbeats 1000000 in
theorem below_lt (a b j : Nat) (h : a / 4294967296 ^ (j + 1) = b / 4294967296 ^ (j + 1)) (e : dig a j ≠ dig b j) : decide (dig a j < dig b j) = decide (a < b) := by
 have ua := up_dig a j
 have ub := up_dig b j
 rw [h] at ua
 rw [digN, digN] at *
 rcases Nat.lt_trichotomy (a / 4294967296 ^ j) (b / 4294967296 ^ j) with c | c | c
 ·rw [decide_eq_true (show _ < _ by omega), decide_eq_true (Nat.lt_of_div_lt_div c)]
 ·exact absurd (by omega) e
 ·have hba := Nat.lt_of_div_lt_div c
  rw [decide_eq_false (show ¬ _ < _ by omega), decide_eq_false (show ¬ _ < _ by omega)]
set_option maxRecDepth 100000 in
set_option maxHeartbeats 1000000 in
theorem below (a b : Nat) (ha : a < MM) (hb : b < MM) (w : World) :
  Calls TryQ.prog 33 #[.agg (dl a).toArray, .agg (dl b).toArray] w fun e w' => e = .returned (.bool (decide (a < b))) ∧ Below w.heap.size w w' := by
 have h16 : a / 4294967296 ^ 16 = b / 4294967296 ^ 16 := by
  rw [Nat.div_eq_of_lt (show a < 4294967296 ^ 16 from ha), Nat.div_eq_of_lt (show b < 4294967296 ^ 16 from hb)]
 go_enter TryQ.func33, Tryz.ntmps33
 go_wp2
 go_loopw [5] (fun i wr => ((∃ j : Nat, i = .int .i64 j ∧ j < 16 ∧ a / 4294967296 ^ (j + 1) = b / 4294967296 ^ (j + 1)) ∨ (i = .int .i64 (-1) ∧ a = b)) ∧ LH wr w.heap.size (dl a) ∧ LH wr (w.heap.size + 1) (dl b) ∧ Below w.heap.size w wr) (fun i _ => (Go.RowKit.intOf i + 1).toNat)
 case atStart =>
  refine ⟨.inl ⟨15, rfl, by decide, h16⟩, (lh_new w (ll_dl a)).alloc _, ?_, ((Below.refl _ _).alloc (Nat.le_refl _) _).alloc (by simp) _⟩
  have h := lh_new (w.alloc (.cells (dl a).toArray 96)) (ll_dl b)
  rw [show (w.alloc (.cells (dl a).toArray 96)).heap.size = w.heap.size + 1 by simp] at h
  exact h
 case round =>
  clear h16
  obtain ⟨h, L0, L1, hB⟩ := hrel
  rcases h with ⟨j, rfl, hj, he⟩ | ⟨rfl, he⟩
  ·have hj' : (0 : Int) ≤ j := by omega
   have hj2 : (j : Int) < 16 := by omega
   have c0 := L0.cell (dl_get a j hj)
   have c1 := L1.cell (dl_get b j hj)
   by_cases hx : dig a j = dig b j
   ·have hq : (dig a j != dig b j) = false := by simp [hx]
    have hn := below_eq a b j he hx
    clear hx he
    go_wp2
    go_region
    go_wp2
    go_roundw
    case rel =>
     refine ⟨?_, L0.drew, L1.drew, hB.drew⟩
     rcases j with _ | j
     ·right; exact ⟨by go_num, by simpa using hn⟩
     ·left; exact ⟨j, by go_num, by omega, hn⟩
    case measure => simp [Go.RowKit.intOf]
   ·have hq : (dig a j != dig b j) = true := by simp [hx]
    have hr := below_lt a b j he hx
    go_wp2
    go_region
    go_wp2
    go_region
    go_wp2
    go_ret
    exact ⟨by rw [← hr]; rfl, hB.drew.drew⟩
  ·have e : decide (a < b) = false := decide_eq_false (by omega)
   go_wp2
   go_ret
   exact ⟨by rw [e]; rfl, hB⟩
end Go.Mark
