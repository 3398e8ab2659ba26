/-
 made (4): its code in parts; what it lays ahead of New.
-/
import Derived.Test.YtbephahokhnccaaGreatF22
namespace Go.Mark
open Go.RowKit Go.Proofs
/-- codes one behind the other -/
def chain : List Code → Code → Code
 | [], c => c
 | d :: l, c => .seq d (chain l c)
def wpChain (P : Program) (Q : Act → World → Prop) : List Code → Act → World → Prop
 | [], a, w => Q a w
 | d :: l, a, w => d.wp P (fun e a' w' => e = .normal ∧ wpChain P Q l a' w') a w
noncomputable def p4 : List Code := match Tryz.f4.body with
 | some (.seq a (.seq b (.seq c (.seq d (.seq e _))))) => [a, b, c, d, e]
 | _ => []
noncomputable def q4 : Code := match Tryz.f4.body with
 | some (.seq _ (.seq _ (.seq _ (.seq _ (.seq _ q))))) => q
 | _ => .skip
theorem body4 : Tryz.f4.body = some (chain p4 q4) := by kernel_rfl
/-- what stands behind the accounts that are handed over -/
abbrev d79 : AccD := ⟨77, 0, 78, ⟨#[55, 57]⟩, []⟩
abbrev e79 : AccD × SV := (d79, ⟨none, 0, 0⟩)
theorem d79_cells : accCells d79 ⟨none, 0, 0⟩ = [.int .i64 77, .int .u64 0, .int .u64 0, .int .u64 0, .int .u64 0, .int .i64 78, .string ⟨#[55, 57]⟩, .slice none 0 0] := by
 simp [accCells, lim]
/-- a room: the slots, eight more behind -/
structure RoomAt (W : World) (g : Nat) (ss : List (Nat × Nat)) : Prop where
 sl : SlotsFrom W g 0 (ss ++ List.replicate 8 s78)
 th : W.there g 0 ((ss.length + 8) * 8)
theorem cell_lt4 {W : World} {a : Addr} {v : Value} (h : W.cell? a = some v) : a.block < W.heap.size := by
 simp only [World.cell?] at h
 cases hh : W.heap[a.block]? with
 | none => rw [hh] at h; cases h
 | some o => exact (Array.getElem?_eq_some_iff.1 hh).1
theorem RoomAt.lt {W : World} {g : Nat} {ss : List (Nat × Nat)} (h : RoomAt W g ss) : g < W.heap.size := by
 obtain ⟨v, hv⟩ := Option.isSome_iff_exists.1 (h.th 0 (by omega)).1
 exact cell_lt4 (a := ⟨g, 0 + 0, none⟩) hv
theorem SlotsFrom.same {W W' : World} {g o : Nat} {ss : List (Nat × Nat)} (h : SlotsFrom W g o ss) (hs : W'.heap[g]? = W.heap[g]?) : SlotsFrom W' g o ss := fun i p hp j v hj =>
 (World.cell?_of_block (a := ⟨g, o + i * 8 + j, none⟩) hs).trans (h i p hp j v hj)
theorem RoomAt.same {W W' : World} {g : Nat} {ss : List (Nat × Nat)} (h : RoomAt W g ss) (hs : W'.heap[g]? = W.heap[g]?) : RoomAt W' g ss :=
 ⟨h.sl.same hs, fun j hj => by
  rw [World.cell?_of_block (a := ⟨g, 0 + j, none⟩) hs, World.frozen?_of_block (a := ⟨g, 0 + j, none⟩) hs]
  exact h.th j hj⟩
/-- the slice of a room -/
def roomV (p : AccD × SV) : Value := .slice p.2.a (p.1.slots.length + 8) p.2.c
/-- memory in the loop ahead of New: all (block E), the rooms -/
structure Lay (E : Nat) (W : World) (ds es : List (AccD × SV)) (m : Nat) (vR : SV) (xs : List Value) : Prop where
 fst : es.map (·.1) = (ds.take es.length).map (·.1)
 own : W.ownsRow E 31 8 (.slice (some ⟨E, 0, none⟩) (ds.length + 8) (ds.length + 8)) (ds.length + 8) (flatA (es ++ List.replicate m e79) ++ xs)
 one : ∀ v ∈ xs, v.oneCell' = true
 rooms : W.ownsRow (E + 1) 29 1 (.slice vR.a vR.n vR.c) es.length (es.map roomV)
 room : ∀ p ∈ es, ∃ g, p.2 = ⟨some ⟨g, 0, none⟩, p.1.slots.length, p.1.slots.length + 8⟩ ∧ E < g ∧ RoomAt W g p.1.slots ∧ (Value.slice vR.a vR.n vR.c).ownBlock ≠ some g
 nd : (es.map (·.2.a)).Nodup
structure Pre (w W : World) (ds es : List (AccD × SV)) (m : Nat) (vR : SV) (xs : List Value) : Prop extends Lay w.heap.size W ds es m vR xs where
 below : Below w.heap.size w W
theorem Pre.keep {w W W' : World} {ds es : List (AccD × SV)} {m : Nat} {vR : SV} {xs : List Value} (h : Pre w W ds es m vR xs) (hb : Below W.heap.size W W') : Pre w W' ds es m vR xs :=
 ⟨⟨h.fst, own_below h.own hb, h.one, own_below h.rooms hb, fun p hp => let ⟨g, h1, h2, h3, h4⟩ := h.room p hp; ⟨g, h1, h2, h3.same (hb.block g h3.lt), h4⟩, h.nd⟩, h.below.trans (hb.mono h.below.size)⟩
theorem Pre.len {w W : World} {ds es : List (AccD × SV)} {m : Nat} {vR : SV} {xs : List Value} (h : Pre w W ds es m vR xs) : (es.length + m) * 8 + xs.length = (ds.length + 8) * 8 := by
 have := h.own.1
 rw [List.length_append, flatA_len, List.length_append, List.length_replicate] at this
 exact this
theorem own_next {W : World} {base n g cap : Nat} {e : TypeId} {A xs l : List Value} (h : W.ownsRow base e 8 (.slice (some ⟨g, 0, none⟩) n cap) n (A ++ xs)) (hl : l.length = 8) (hx : 8 ≤ xs.length) :
  (W.setCells g A.length l).ownsRow base e 8 (.slice (some ⟨g, 0, none⟩) n cap) n (A ++ l ++ xs.drop 8) ∧ W.grownBy (W.setCells g A.length l) (some g) := by
 have h1 := own_put l W (A ++ xs) A.length h
 have h2 := putL_left l (xs.take 8) (xs.drop 8) A (by simp; omega)
 rw [List.append_assoc A, List.take_append_drop] at h2
 rw [h2] at h1
 exact h1
theorem Pre.start {w : World} {ds : List (AccD × SV)} {Z : Array Value} (hz : Z.size = (ds.length + 8) * 8) (h1 : ∀ v ∈ Z.toList, v.oneCell' = true) (hn : ds.length < 2199023255552) : Pre w (w.alloc (.cells Z 31)) ds [] 0 ⟨none, 0, 0⟩ Z.toList := by
 refine ⟨⟨by simp, ⟨by simpa [flatA] using hz, .inr ⟨_, _, Z, rfl, Nat.le_refl _, (show (w.heap.push (.cells Z 31))[w.heap.size]? = _ by simp), Nat.le_refl _, by simp only [maxLen]; omega, hz, ?_⟩⟩, h1, ⟨rfl, .inl ⟨rfl, rfl⟩⟩, fun p hp => (by cases hp), by simp⟩, (Below.refl _ _).alloc (Nat.le_refl _) _⟩
 simp only [List.replicate_zero, List.append_nil, flatA, List.nil_append]
 exact List.take_of_length_le (by rw [Array.length_toList, hz]; exact Nat.le_refl _)
/-- one more account behind those that are handed over -/
theorem Pre.more {w W : World} {ds es : List (AccD × SV)} {m : Nat} {vR : SV} {xs : List Value} (h : Pre w W ds es m vR xs) (hd : es.length = ds.length) (hm : m < 8) :
  Pre w (W.setCells w.heap.size ((es.length + m) * 8) (accCells d79 ⟨none, 0, 0⟩)) ds es (m + 1) vR (xs.drop 8) := by
 have hlen := h.len
 have hA : (flatA (es ++ List.replicate m e79)).length = (es.length + m) * 8 := by rw [flatA_len, List.length_append, List.length_replicate]
 have h1 := own_next (l := accCells d79 ⟨none, 0, 0⟩) h.own rfl (by omega)
 rw [hA] at h1
 have hg := h1.2
 refine ⟨⟨h.fst, ?_, fun v hv => h.one v (List.mem_of_mem_drop hv), ?_, fun p hp => ?_, h.nd⟩, h.below.trans (gb_to_below hg (fun g hg => by cases hg; exact Nat.le_refl _) h.below.size)⟩
 ·have e : flatA (es ++ List.replicate (m + 1) e79) = flatA (es ++ List.replicate m e79) ++ accCells d79 ⟨none, 0, 0⟩ := by
   rw [List.replicate_succ', ← List.append_assoc, flatA_append (es ++ List.replicate m e79)]
   rfl
  rw [e]
  exact h1.1
 ·exact own_grown h.rooms hg (fun g hg e => by cases e; have := own_ge h.rooms _ hg; omega)
 ·obtain ⟨g, x1, x2, x3, x4⟩ := h.room p hp
  exact ⟨g, x1, x2, x3.same (hg.block g x3.lt (fun e => by cases e; omega)), x4⟩
/-- one more account that is handed over -/
theorem Pre.next {w W W3 : World} {ds es : List (AccD × SV)} {vR : SV} {xs : List Value} {d : AccD} {sv : SV} {g gR cR : Nat} (h : Pre w W ds es 0 vR xs) (hds : ds[es.length]? = some (d, sv)) (hg : w.heap.size < g) (hr : RoomAt W g d.slots) (hne : ∀ p ∈ es, p.2.a ≠ some ⟨g, 0, none⟩)
  (hb : W.grownBy W3 (Value.slice vR.a vR.n vR.c).ownBlock) (hvg : (Value.slice vR.a vR.n vR.c).ownBlock ≠ some g)
  (hro : W3.ownsRow (w.heap.size + 1) 29 1 (.slice (some ⟨gR, 0, none⟩) (es.length + 1) cR) (es.length + 1) (es.map roomV ++ [.slice (some ⟨g, 0, none⟩) (d.slots.length + 8) (d.slots.length + 8)]))
  (hat : (Value.slice vR.a vR.n vR.c).ownBlock = some gR ∨ W.heap.size ≤ gR) :
  Pre w ((W3.setCells w.heap.size (es.length * 8) (accCells d sv)).setCell ⟨w.heap.size, es.length * 8 + 7, none⟩ (.slice (some ⟨g, 0, none⟩) d.slots.length (d.slots.length + 8))) ds (es ++ [(d, ⟨some ⟨g, 0, none⟩, d.slots.length, d.slots.length + 8⟩)]) 0 ⟨some ⟨gR, 0, none⟩, es.length + 1, cR⟩ (xs.drop 8) := by
 have hlt : es.length < ds.length := (List.getElem?_eq_some_iff.1 hds).1
 have hlen := h.len
 have hE : ∀ k, (Value.slice vR.a vR.n vR.c).ownBlock = some k → w.heap.size + 1 ≤ k := own_ge h.rooms
 have h3 := own_grown h.own hb (fun k hk e => by cases hk; have : w.heap.size + 1 ≤ w.heap.size := hE _ e; omega)
 simp only [List.replicate_zero, List.append_nil] at h3
 have hA : (flatA es).length = es.length * 8 := flatA_len es
 have h4 := own_next (l := accCells d sv) h3 rfl (by omega)
 rw [hA] at h4
 have h5 := h4.1.stored (es.length * 8 + 7) (.slice (some ⟨g, 0, none⟩) d.slots.length (d.slots.length + 8))
 have g5 : W3.grownBy ((W3.setCells w.heap.size (es.length * 8) (accCells d sv)).setCell ⟨w.heap.size, es.length * 8 + 7, none⟩ (.slice (some ⟨g, 0, none⟩) d.slots.length (d.slots.length + 8))) (some w.heap.size) := h4.2.trans h5.2
 have hkeep : ∀ k, k < W.heap.size → k ≠ w.heap.size → (Value.slice vR.a vR.n vR.c).ownBlock ≠ some k → ((W3.setCells w.heap.size (es.length * 8) (accCells d sv)).setCell ⟨w.heap.size, es.length * 8 + 7, none⟩ (.slice (some ⟨g, 0, none⟩) d.slots.length (d.slots.length + 8))).heap[k]? = W.heap[k]? := fun k hk h1 h2 =>
  (g5.block k (Nat.lt_of_lt_of_le hk hb.size) (fun e => h1 (by cases e; rfl))).trans (hb.block k hk (fun e => h2 e.symm))
 have hroom : ∀ k ss, RoomAt W k ss → w.heap.size < k → (Value.slice vR.a vR.n vR.c).ownBlock ≠ some k → RoomAt ((W3.setCells w.heap.size (es.length * 8) (accCells d sv)).setCell ⟨w.heap.size, es.length * 8 + 7, none⟩ (.slice (some ⟨g, 0, none⟩) d.slots.length (d.slots.length + 8))) k ss ∧ (Value.slice (some ⟨gR, 0, none⟩) (es.length + 1) cR).ownBlock ≠ some k := fun k ss h1 h2 h3 => by
  refine ⟨h1.same (hkeep k h1.lt (by omega) h3), fun e => ?_⟩
  cases e
  rcases hat with hat | hat
  ·exact h3 hat
  ·have : gR < W.heap.size := h1.lt
   omega
 have b1 : Below w.heap.size W W3 := gb_to_below hb (fun k hk => by have := hE k hk; omega) h.below.size
 refine ⟨⟨?_, ?_, fun v hv => h.one v (List.mem_of_mem_drop hv), ?_, fun p hp => ?_, ?_⟩, (h.below.trans b1).trans (gb_to_below g5 (fun k hk => by cases hk; exact Nat.le_refl _) (Nat.le_trans h.below.size hb.size))⟩
 ·rw [List.map_append, h.fst, List.length_append, List.length_singleton, List.take_add_one, hds]
  simp
 ·have e : (flatA es ++ accCells d sv ++ xs.drop 8).set (es.length * 8 + 7) (.slice (some ⟨g, 0, none⟩) d.slots.length (d.slots.length + 8)) = flatA (es ++ [(d, ⟨some ⟨g, 0, none⟩, d.slots.length, d.slots.length + 8⟩)] ++ List.replicate 0 e79) ++ xs.drop 8 := by
   rw [List.append_assoc, List.set_append_right _ _ (by omega), hA, Nat.add_sub_cancel_left, List.replicate_zero, List.append_nil, flatA_append, List.append_assoc]
   rfl
  rw [← e]
  exact h5.1
 ·rw [List.length_append, List.length_singleton, List.map_append]
  exact own_grown hro g5 (fun k hk e => by cases e; have := own_ge hro _ hk; omega)
 ·rcases List.mem_append.1 hp with hp | hp
  ·obtain ⟨k, x1, x2, x3, x4⟩ := h.room p hp
   obtain ⟨y1, y2⟩ := hroom k _ x3 x2 x4
   exact ⟨k, x1, x2, y1, y2⟩
  ·rw [List.mem_singleton.1 hp]
   obtain ⟨y1, y2⟩ := hroom g _ hr hg hvg
   exact ⟨g, rfl, hg, y1, y2⟩
 ·rw [List.map_append, List.nodup_append]
  refine ⟨h.nd, by simp, fun a ha b hb e => ?_⟩
  obtain ⟨p, hp, rfl⟩ := List.mem_map.1 ha
  simp only [List.map_cons, List.map_nil, List.mem_singleton] at hb
  exact hne p hp (e.trans hb)
end Go.Mark
/-
 made (4): ahead of New.
-/
namespace Go.Mark
open Go.RowKit Go.Proofs
theorem info29 : ∃ i z, TryQ.prog.info? 29 = some i ∧ i.zero = some z ∧ i.size = 1 ∧ i.bytes = 24 ∧ z.cells.size = 1 := by
 have e8 : (TryQ.prog.info? 29).map (·.size) = some 1 := by kernel_rfl
 have e64 : (TryQ.prog.info? 29).map (·.bytes) = some 24 := by kernel_rfl
 have ez : ((TryQ.prog.info? 29).bind (·.zero)).map (·.cells.size) = some 1 := by kernel_rfl
 obtain ⟨i, hi⟩ : ∃ i, TryQ.prog.info? 29 = some i := by
  cases h : TryQ.prog.info? 29 with
  | none => rw [h] at e8; cases e8
  | some i => exact ⟨i, rfl⟩
 rw [hi] at e8 e64 ez
 replace ez : i.zero.map (·.cells.size) = some 1 := ez
 cases hz : i.zero with
 | none => rw [hz] at ez; cases ez
 | some z => rw [hz] at ez; exact ⟨i, z, hi, hz, Option.some.inj e8, Option.some.inj e64, Option.some.inj ez⟩
theorem made_one (z : Array Value) (hz : z.all (·.oneCell') = true) (h0 : 0 < z.size) (n : Nat) : ∀ v ∈ (madeCells z n).toList, v.oneCell' = true := fun v hv => by
 simp only [madeCells, Array.toList_map, List.mem_map] at hv
 obtain ⟨i, _, rfl⟩ := hv
 have hlt : i % z.size < z.size := Nat.mod_lt _ h0
 rw [getElem!_pos z _ hlt]
 exact Array.all_eq_true.1 hz _ hlt
set_option maxRecDepth 100000 in
set_option maxHeartbeats 2000000 in
theorem make22 (n : Nat) (hn : n < 2300000000000) (w : World) : ∃ Z : Array Value, Z.size = n * 8 ∧ (∀ v ∈ Z.toList, v.oneCell' = true) ∧ (Instr.makeSlice 22 (.int .i64 (n : Int)) (.int .i64 (n : Int))).run TryQ.prog w = .ok (.slice (some ⟨w.heap.size, 0, none⟩) n n) (w.alloc (.cells Z 31)) := by
 have ea : ((TryQ.prog.info? 31).bind (·.zero)).map (·.cells.all (·.oneCell')) = some true := by kernel_rfl
 obtain ⟨i, z, hi, hz, h8, h64, hzs⟩ := info31
 have ea' : z.cells.all (·.oneCell') = true := by
  rw [hi] at ea
  replace ea : i.zero.map (·.cells.all (·.oneCell')) = some true := ea
  rw [hz] at ea
  exact Option.some.inj ea
 have h := run_make (P := TryQ.prog) w 22 31 i z ((q_underlying 22).trans Tryz.underlying22) hi hz .i64 .i64 (n : Int) (n : Int) (by omega) (Int.le_refl _) (by rw [h64]; omega) (by omega)
 refine ⟨_, ?_, made_one _ ea' (by rw [hzs]; omega) _, h⟩
 rw [size_madeCells, h8]
 simp
theorem Lay.cells {E : Nat} {W : World} {ds es : List (AccD × SV)} {m : Nat} {vR : SV} {xs : List Value} (h : Lay E W ds es m vR xs) (j : Nat) (hj : j < (ds.length + 8) * 8) : ∃ v, W.cell? ⟨E, j, none⟩ = some v ∧ W.frozen? ⟨E, j, none⟩ = false := by
 have h1 := h.own.cellAt j hj
 have h2 := h.own.1
 refine ⟨_, h1.trans (List.getElem?_eq_getElem (by rw [h2]; exact hj)), h.own.frozenAt j⟩
set_option maxRecDepth 100000 in
set_option maxHeartbeats 8000000 in
/-- made ahead of New -/
theorem pre4 (ds : List (AccD × SV)) (a : Option Addr) (cap : Nat) (w : World) (hI : InR w a ds) (Φ : Act → World → Prop)
  (hΦ : Shut (∀ (T : Array Value) (W : World) (es : List (AccD × SV)) (vR : SV), T.size = 146 → T[0]? = some (.slice a ds.length cap) → T[4]? = some (.int .i64 (ds.length : Int)) → T[5]? = some (.slice (some ⟨w.heap.size, 0, none⟩) (ds.length + 8) (ds.length + 8)) → T[6]? = some (.slice vR.a vR.n vR.c) → es.length = ds.length → Pre w W ds es 8 vR [] → Φ ⟨T, []⟩ W)) :
  wpChain TryQ.prog Φ p4 ⟨#[.slice a ds.length cap, undef, undef, undef, undef, undef, undef, undef, undef, undef, undef, undef, undef, undef, undef, undef, undef, undef, undef, undef, undef, undef, undef, undef, undef, undef, undef, undef, undef, undef, undef, undef, undef, undef, undef, undef, undef, undef, undef, undef, undef, undef, undef, undef, undef, undef, undef, undef, undef, undef, undef, undef, undef, undef, undef, undef, undef, undef, undef, undef, undef, undef, undef, undef, undef, undef, undef, undef, undef, undef, undef, undef, undef, undef, undef, undef, undef, undef, undef, undef, undef, undef, undef, undef, undef, undef, undef, undef, undef, undef, undef, undef, undef, undef, undef, undef, undef, undef, undef, undef, undef, undef, undef, undef, undef, undef, undef, undef, undef, undef, undef, undef, undef, undef, undef, undef, undef, undef, undef, undef, undef, undef, undef, undef, undef, undef, undef, undef, undef, undef, undef, undef, undef, undef, undef, undef, undef, undef, undef, undef, undef, undef, undef, undef, undef, undef], []⟩ w := by
 have hn := hI.len
 obtain ⟨Z, hZ, hZ1, hmk⟩ := make22 (ds.length + 8) (by omega) w
 rw [show ((ds.length + 8 : Nat) : Int) = (ds.length : Int) + 8 by omega] at hmk
 have hP0 := Pre.start (w := w) (ds := ds) hZ hZ1 hn
 obtain ⟨i29, z29, hi29, hz29, hs29, hb29, hzs29⟩ := info29
 dsimp only [p4, Tryz.f4, wpChain]
 go_wp2_with fail
 go_loopw [6, 7] (fun r i W => ∃ (es : List (AccD × SV)) (m : Nat) (vR : SV) (xs : List Value), r = .slice vR.a vR.n vR.c ∧ i = .int .i64 ((es.length + m : Nat) : Int) ∧ (es.length < ds.length → m = 0) ∧ es.length ≤ ds.length ∧ m ≤ 8 ∧ Pre w W ds es m vR xs) (fun _ i _ => ds.length + 8 - (Go.RowKit.intOf i).toNat)
 case atStart => exact ⟨[], 0, ⟨none, 0, 0⟩, _, rfl, rfl, fun _ => rfl, Nat.zero_le _, Nat.zero_le _, hP0⟩
 case round =>
  clear hP0 hmk hZ hZ1
  obtain ⟨es, m, vR, xs, rfl, rfl, hm0, hel, hm8, hP⟩ := hrel
  by_cases hlt : es.length < ds.length
  ·have hm := hm0 hlt
   subst hm
   clear hm0 hm8
   have hds := List.getElem?_eq_getElem hlt
   obtain ⟨b, o, rfl, hA⟩ := hI.acc.resolve_left (by intro e; rw [e] at hlt; simp at hlt)
   have hmem := List.getElem_mem hlt
   have hAll := fun (W : World) (hb : Below w.heap.size w W) => (hA.below hb) es.length ds[es.length] hds
   obtain ⟨hsn, hsl⟩ := hI.sl _ hmem
   have hnum := hI.num _ hmem
   generalize ds[es.length] = p at *
   obtain ⟨d, sv⟩ := p
   obtain ⟨sa, sn, sc⟩ := sv
   simp only at hsn hsl hnum hAll
   subst hsn
   have hbw : b < w.heap.size := cell_lt4 (hAll w (Below.refl _ _) 0 _ rfl)
   have hlt' : (es.length : Int) < (ds.length : Int) := by omega
   have hlt2 : (es.length : Int) < (ds.length : Int) + 8 := by omega
   have c7 := hAll wr hP.below 7 _ rfl
   simp only [Nat.add_zero]
   have hPs : Shut (Pre w wr ds es 0 vR xs) := hP
   have hesl : Shut (es.length < ds.length) := hlt
   obtain ⟨k, hk⟩ : ∃ k, es.length = k := ⟨_, rfl⟩
   have hks : Shut (es.length = k) := hk
   rw [hk] at c7 hlt' hlt2 ⊢
   clear hP hlt hel hk
   go_wp2_with fail
   refine (room d.slots sa sc wr (by omega) (hsl.imp id fun ⟨bs, os, h1, h2⟩ => ⟨bs, os, h1, h2.below hPs.out.below⟩)).mono ?_
   rintro e W1 ⟨rfl, hs1, ht1, hb1⟩
   have hP1 := hPs.out.keep hb1
   have hb2 : Below W1.heap.size W1 (W1.alloc (.cells #[.slice (some ⟨wr.heap.size, 0, none⟩) (d.slots.length + 8) (d.slots.length + 8)] 29)) := (Below.refl _ _).alloc (Nat.le_refl _) _
   have hP2 := hP1.keep hb2
   have hn2 := cells_new W1 [.slice (some ⟨wr.heap.size, 0, none⟩) (d.slots.length + 8) (d.slots.length + 8)] 29
   have hrm : RoomAt W1 wr.heap.size d.slots := ⟨hs1, ht1⟩
   have hrm2 := hrm.same (hb2.block _ hrm.lt)
   have hro := hP2.rooms
   rw [hks.out] at hro
   have hkn : k < 2300000000000 := by omega
   have hPsz := hP2.below.size
   have hbs : w.heap.size + 1 ≤ (W1.alloc (.cells #[.slice (some ⟨wr.heap.size, 0, none⟩) (d.slots.length + 8) (d.slots.length + 8)] 29)).heap.size := by
    have := hrm.lt
    have := hPs.out.below.size
    simp
    omega
   go_wp2_with (at_builtin; go_loud (refine wpList_append_lies _ (by rfl) _ _ 41 (by rfl) (w.heap.size + 1) 29 i29 z29 1 24 ((q_underlying 41).trans Tryz.underlying41) hi29 hz29 hs29 hb29 hzs29 (by omega) (.slice vR.a vR.n vR.c) k (es.map roomV) (by rfl) hro ⟨W1.heap.size, 0, none⟩ 1 1 [.slice (some ⟨wr.heap.size, 0, none⟩) (d.slots.length + 8) (d.slots.length + 8)] (by rfl) rfl (fun j v hj => by rw [Addr.add_mid]; exact hn2 j v hj) (fun v hv => by rw [List.mem_singleton.1 hv]; rfl) (by omega) (by simp [maxLen]; omega) (by omega) hbs (W1.heap.size + 1) (by simp) ?_))
   intro gR cR W3 hown3 hgrow hat hlt3
   rw [← hks.out] at hown3
   have hgE : w.heap.size < wr.heap.size := by
    have := hPs.out.own.lt w.heap.size rfl
    omega
   have hPn := hP2.next (sv := ⟨sa, d.slots.length, sc⟩) hds hgE hrm2 (fun p hp e => by
     obtain ⟨g, x1, _, x3, _⟩ := hPs.out.room p hp
     rw [x1] at e
     cases e
     exact absurd x3.lt (Nat.lt_irrefl _)) hgrow (fun e => by
     have := own_lt hPs.out.rooms _ e
     exact absurd this (Nat.lt_irrefl _)) hown3 (hat.imp id fun e => by simp [e])
   have hb3 : Below w.heap.size w W3 := hP2.below.trans (gb_to_below hgrow (fun g hg => by have := own_ge hro g hg; omega) hPsz)
   have hlay3 : ∀ j, j < (ds.length + 8) * 8 → ∃ v, W3.cell? ⟨w.heap.size, j, none⟩ = some v ∧ W3.frozen? ⟨w.heap.size, j, none⟩ = false := fun j hj => by
    obtain ⟨v, h1, h2⟩ := hP2.toLay.cells j hj
    have hblk : W3.heap[w.heap.size]? = _ := hgrow.block w.heap.size (hP2.own.lt _ rfl).2 (fun e => by have := own_ge hro _ e.symm; omega)
    exact ⟨v, (World.cell?_of_block (a := ⟨w.heap.size, j, none⟩) hblk).trans h1, (World.frozen?_of_block (a := ⟨w.heap.size, j, none⟩) hblk).trans h2⟩
   have hkd : k < ds.length := by rw [← hks.out]; exact hesl.out
   have hc3 := hAll W3 hb3
   rw [hks.out] at hc3 hPn
   clear hP1 hP2 hn2 hrm hrm2 hro hown3 hgrow hat hs1 ht1 hPsz hbs
   clear c7
   have c0 := hc3 0 _ rfl
   have c1 := hc3 1 _ rfl
   have c2 := hc3 2 _ rfl
   have c3 := hc3 3 _ rfl
   have c4 := hc3 4 _ rfl
   have c5 := hc3 5 _ rfl
   have c6 := hc3 6 _ rfl
   have c7 := hc3 7 _ rfl
   rw [Nat.add_zero] at c0
   obtain ⟨v0, z0, y0⟩ := hlay3 (k * 8) (by omega)
   obtain ⟨v1, z1, y1⟩ := hlay3 (k * 8 + 1) (by omega)
   obtain ⟨v2, z2, y2⟩ := hlay3 (k * 8 + 2) (by omega)
   obtain ⟨v3, z3, y3⟩ := hlay3 (k * 8 + 3) (by omega)
   obtain ⟨v4, z4, y4⟩ := hlay3 (k * 8 + 4) (by omega)
   obtain ⟨v5, z5, y5⟩ := hlay3 (k * 8 + 5) (by omega)
   obtain ⟨v6, z6, y6⟩ := hlay3 (k * 8 + 6) (by omega)
   obtain ⟨v7, z7, y7⟩ := hlay3 (k * 8 + 7) (by omega)
   have hE4 : ∀ l : List Value, l.length = 8 → ∃ v, (W3.setCells w.heap.size (k * 8) l).cell? ⟨w.heap.size, k * 8 + 7, none⟩ = some v ∧ (W3.setCells w.heap.size (k * 8) l).frozen? ⟨w.heap.size, k * 8 + 7, none⟩ = false := fun l hl => by
    have ht : W3.there w.heap.size (k * 8) l.length := fun j hj => by
     obtain ⟨v, h1, h2⟩ := hlay3 (k * 8 + j) (by omega)
     exact ⟨by rw [h1]; rfl, h2⟩
    have ht' := World.there_setCells ht w.heap.size (k * 8) l
    obtain ⟨v, hv⟩ := Option.isSome_iff_exists.1 (ht' 7 (by omega)).1
    exact ⟨v, hv, (ht' 7 (by omega)).2⟩
   have hC4 : ∀ l : List Value, (W3.setCells w.heap.size (k * 8) l).cell? ⟨b, o + k * 8 + 7, none⟩ = W3.cell? ⟨b, o + k * 8 + 7, none⟩ := fun l => World.cell?_setCells_out _ _ _ _ _ (fun e _ => by simp only at e; omega)
   rw [show accCells d ⟨sa, d.slots.length, sc⟩ = [.int .i64 d.id, .int .u64 (lim d.bal 0), .int .u64 (lim d.bal 1), .int .u64 (lim d.bal 2), .int .u64 (lim d.bal 3), .int .i64 d.nonce, .string d.code, .slice sa d.slots.length sc] from rfl] at hPn
   obtain ⟨v47, z47, y47⟩ := hE4 [.int .i64 d.id, .int .u64 (lim d.bal 0), .int .u64 (lim d.bal 1), .int .u64 (lim d.bal 2), .int .u64 (lim d.bal 3), .int .i64 d.nonce, .string d.code, .slice sa d.slots.length sc] rfl
   have c47 := (hC4 [.int .i64 d.id, .int .u64 (lim d.bal 0), .int .u64 (lim d.bal 1), .int .u64 (lim d.bal 2), .int .u64 (lim d.bal 3), .int .i64 d.nonce, .string d.code, .slice sa d.slots.length sc]).trans c7
   clear hE4 hC4 hlay3 hc3
   go_upto_region 11 with fail
   change Code.wp _ _ _ _ (W3.setCells w.heap.size (k * 8) [.int .i64 d.id, .int .u64 (lim d.bal 0), .int .u64 (lim d.bal 1), .int .u64 (lim d.bal 2), .int .u64 (lim d.bal 3), .int .i64 d.nonce, .string d.code, .slice sa d.slots.length sc])
   clear c0 c1 c2 c3 c4 c5 c6 c7 z0 z1 z2 z3 z4 z5 z6 z7 y0 y1 y2 y3 y4 y5 y6 y7
   generalize W3.setCells w.heap.size (k * 8) [.int .i64 d.id, .int .u64 (lim d.bal 0), .int .u64 (lim d.bal 1), .int .u64 (lim d.bal 2), .int .u64 (lim d.bal 3), .int .i64 d.nonce, .string d.code, .slice sa d.slots.length sc] = W4 at hPn z47 y47 c47 ⊢
   go_wp2_with fail
   have hl1 : (es ++ [(d, (⟨some ⟨wr.heap.size, 0, none⟩, d.slots.length, d.slots.length + 8⟩ : SV))]).length = k + 1 := by rw [List.length_append, List.length_singleton, hks.out]
   refine ⟨⟨es ++ [(d, ⟨some ⟨wr.heap.size, 0, none⟩, d.slots.length, d.slots.length + 8⟩)], 0, ⟨some ⟨gR, 0, none⟩, k + 1, cR⟩, xs.drop 8, rfl, by rw [hl1]; rfl, fun _ => rfl, by rw [hl1]; omega, by omega, hPn⟩, ?_⟩
   simp [Go.RowKit.intOf]; omega
  ·have hed : es.length = ds.length := by omega
   have hPs : Shut (Pre w wr ds es m vR xs) := hP
   by_cases hm : m < 8
   ·have hl2 : ((ds.length + m : Nat) : Int) < (ds.length : Int) + 8 := by omega
    have hl3 : ¬ ((ds.length + m : Nat) : Int) < (ds.length : Int) := by omega
    have hPn := hP.more hed hm
    rw [d79_cells, hed] at hPn
    have hlay := hP.toLay.cells
    rw [hed]
    obtain ⟨k, hk⟩ : ∃ k, ds.length + m = k := ⟨_, rfl⟩
    have hks : Shut (ds.length + m = k) := hk
    obtain ⟨v0, z0, y0⟩ := hlay (k * 8) (by omega)
    obtain ⟨v1, z1, y1⟩ := hlay (k * 8 + 1) (by omega)
    obtain ⟨v2, z2, y2⟩ := hlay (k * 8 + 2) (by omega)
    obtain ⟨v3, z3, y3⟩ := hlay (k * 8 + 3) (by omega)
    obtain ⟨v4, z4, y4⟩ := hlay (k * 8 + 4) (by omega)
    obtain ⟨v5, z5, y5⟩ := hlay (k * 8 + 5) (by omega)
    obtain ⟨v6, z6, y6⟩ := hlay (k * 8 + 6) (by omega)
    obtain ⟨v7, z7, y7⟩ := hlay (k * 8 + 7) (by omega)
    rw [hk] at hl2 hl3 hPn ⊢
    have heds : Shut (es.length = ds.length) := hed
    clear hP hlay hed hlt hel hm0 hk
    go_wp2_with fail
    have hl1 : es.length + (m + 1) = k + 1 := by rw [heds.out, ← hks.out]; omega
    refine ⟨⟨es, m + 1, vR, xs.drop 8, rfl, by rw [hl1]; rfl, fun h => absurd heds.out (by omega), by rw [heds.out]; exact Nat.le_refl _, by omega, hPn⟩, ?_⟩
    simp [Go.RowKit.intOf]; omega
   ·have hm' : m = 8 := by omega
    subst hm'
    have hxs : xs = [] := List.eq_nil_of_length_eq_zero (by have := hP.len; omega)
    subst hxs
    have hnl : ¬ ((ds.length + 8 : Nat) : Int) < (ds.length : Int) + 8 := by omega
    rw [hed]
    have heds : Shut (es.length = ds.length) := hed
    clear hP hed hlt hel hm0
    go_wp2_with fail
    exact hΦ.out _ _ _ _ rfl rfl rfl rfl rfl heds.out hPs.out
end Go.Mark
