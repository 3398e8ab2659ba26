import Derived.Test.YtbephahokhnccaaGreatF13
import Derived.Laws.MakeOwn
import Derived.Laws.IdiomCopy
import Derived.Laws.StructEq
import Derived.Deep.AppendLies
/-! The law's room: slots copied into a row of one's own, eight more behind them. -/
namespace Go.Mark
open Go.RowKit Go.Proofs
theorem run_copyN {P : Program} (s : Nat) (w : World) (dT sT ty elem : TypeId) (b o dLen dCap : Nat) (a : Addr) (sLen sCap : Nat) (cs : List Value)
  (hu : P.underlying dT = some (.slice elem)) (hs : (P.info? elem).map (·.size) = some s) (hn : cs.length = Nat.min sLen dLen * s)
  (hsrc : ∀ j v, cs[j]? = some v → w.cell? (a.add j) = some v) (ht : w.there b o cs.length) (h1 : ∀ v ∈ cs, v.oneCell' = true) :
  (Builtin.copy_ #[dT, sT] ty #[.slice (some ⟨b, o, none⟩) dLen dCap, .slice (some a) sLen sCap]).run P w = .ok (goInt (Nat.min sLen dLen)) (w.setCells b o cs) := by
 have hl := run_loadCells_list (P := P) w a cs hsrc
 have hst := run_storeCells_cells (P := P) b o cs 0 w (fun j hj => by simpa using (ht j hj).1) (fun j hj => by simpa using (ht j hj).2) h1
 cases hq : P.info? elem with
 | none => simp [hq] at hs
 | some i =>
  have hi : i.size = s := by simpa [hq] using hs
  simp [Builtin.copy_, run_underlying hu, Builtin.lenOf, Builtin.firstCells, sizeOf, typeInfo, hq, hi, ← hn, hl, hst]
theorem run_copyN_none {P : Program} (s : Nat) (w : World) (dT sT ty elem : TypeId) (d a : Option Addr) (dLen dCap sLen sCap : Nat) (hu : P.underlying dT = some (.slice elem)) (hs : (P.info? elem).map (·.size) = some s) (hn : Nat.min sLen dLen = 0) :
  (Builtin.copy_ #[dT, sT] ty #[.slice d dLen dCap, .slice a sLen sCap]).run P w = .ok (goInt 0) w := by
 cases hq : P.info? elem with
 | none => simp [hq] at hs
 | some i =>
  have hl : ∀ (x : Addr), (loadCells x 0).run P w = .ok #[] w := fun x => by simpa using run_loadCells_list (P := P) w x [] (by simp)
  cases d <;> cases a <;> simp [Builtin.copy_, run_underlying hu, Builtin.lenOf, Builtin.firstCells, sizeOf, typeInfo, hq, hn, storeCells, hl]
/-- the cells of slots, one behind the other -/
def flatS : List (Nat × Nat) → List Value
 | [] => []
 | p :: ss => slotCells p ++ flatS ss
theorem flatS_len : ∀ ss : List (Nat × Nat), (flatS ss).length = ss.length * 8
 | [] => rfl
 | p :: ss => by
  have h : (slotCells p).length = 8 := rfl
  rw [flatS, List.length_append, flatS_len ss, h, List.length_cons]; omega
theorem flatS_one : ∀ (ss : List (Nat × Nat)), ∀ v ∈ flatS ss, v.oneCell' = true
 | [], v, hv => by cases hv
 | p :: ss, v, hv => by
  rcases List.mem_append.1 hv with h | h
  ·simp only [slotCells, List.mem_cons, List.not_mem_nil, or_false] at h
   rcases h with h | h | h | h | h | h | h | h <;> rw [h] <;> rfl
  ·exact flatS_one ss v h
theorem range_flat {w : World} {b : Nat} : ∀ (ss : List (Nat × Nat)) (o : Nat), SlotsFrom w b o ss ↔ w.rangeAt b o (flatS ss)
 | [], o => ⟨fun _ j v h => (by cases h), fun _ i p h => (by cases h)⟩
 | p :: ss, o => by
  have ih := range_flat (w := w) (b := b) ss (o + 8)
  constructor
  ·intro h j v hj
   rw [flatS] at hj
   by_cases hlt : j < 8
   ·rw [List.getElem?_append_left (by exact hlt)] at hj
    have := h 0 p rfl j v hj
    rwa [Nat.zero_mul, Nat.add_zero] at this
   ·rw [List.getElem?_append_right (by show 8 ≤ j; omega)] at hj
    have h' : SlotsFrom w b (o + 8) ss := fun i q hq => by
     have := h (i + 1) q (by simpa using hq)
     rwa [show o + (i + 1) * 8 = o + 8 + i * 8 by omega] at this
    have := (ih.1 h') (j - 8) v hj
    rwa [show o + 8 + (j - 8) = o + j by omega] at this
  ·intro h i q hq j v hj
   have hj8 : j < 8 := (List.getElem?_eq_some_iff.1 hj).1
   cases i with
   | zero =>
    cases hq
    have := h j v (by rw [flatS, List.getElem?_append_left (by exact hj8)]; exact hj)
    rwa [Nat.zero_mul, Nat.add_zero]
   | succ i =>
    have h' : w.rangeAt b (o + 8) (flatS ss) := fun j v hv => by
     have := h (8 + j) v (by rw [flatS, List.getElem?_append_right (by show 8 ≤ 8 + j; omega)]; rw [show 8 + j - (slotCells p).length = j by show 8 + j - 8 = j; omega]; exact hv)
     rwa [show o + (8 + j) = o + 8 + j by omega] at this
    have := (ih.2 h') i q (by simpa using hq) j v hj
    rwa [show o + 8 + i * 8 = o + (i + 1) * 8 by omega] at this
/-- one slot more -/
theorem SlotsFrom.more {W : World} {g : Nat} {L : List (Nat × Nat)} (h : SlotsFrom W g 0 L) (p : Nat × Nat) (ht : W.there g (L.length * 8) 8) : SlotsFrom (W.setCells g (L.length * 8) (slotCells p)) g 0 (L ++ [p]) := by
 intro i q hq
 by_cases hi : i < L.length
 ·rw [List.getElem?_append_left hi] at hq
  have := h i q hq
  refine World.rangeAt_setCells_apart this _ _ _ (.inr (.inl ?_))
  show 0 + i * 8 + 8 ≤ L.length * 8
  omega
 ·have hi' : i = L.length := by
   have := (List.getElem?_eq_some_iff.1 hq).1
   simp at this
   omega
  subst hi'
  have : q = p := by simpa using hq.symm
  subst this
  rw [Nat.zero_add]
  exact World.rangeAt_setCells_same W _ _ _ ht
theorem there_new (w : World) (Z : Array Value) (ty : TypeId) : (w.alloc (.cells Z ty)).there w.heap.size 0 Z.size := fun j hj => by
 rw [Nat.zero_add]
 refine ⟨?_, ?_⟩
 ·rw [World.cell?_alloc_new]; simp [hj]
 ·simp [go_sem]
set_option maxRecDepth 100000 in
set_option maxHeartbeats 2000000 in
theorem make57 (n : Nat) (hn : n < 2199023255600) (w : World) : ∃ Z : Array Value, Z.size = n * 8 ∧ (Instr.makeSlice 29 (.int .i64 (n : Int)) (.int .i64 (n : Int))).run TryQ.prog w = .ok (.slice (some ⟨w.heap.size, 0, none⟩) n n) (w.alloc (.cells Z 57)) := by
 have e8 : (TryQ.prog.info? 57).map (·.size) = some 8 := by kernel_rfl
 have e64 : (TryQ.prog.info? 57).map (·.bytes) = some 64 := by kernel_rfl
 have ez : ((TryQ.prog.info? 57).bind (·.zero)).isSome = true := by kernel_rfl
 obtain ⟨i, hi⟩ : ∃ i, TryQ.prog.info? 57 = some i := by
  cases h : TryQ.prog.info? 57 with
  | none => rw [h] at e8; cases e8
  | some i => exact ⟨i, rfl⟩
 rw [hi] at e8 e64 ez
 have h8 : i.size = 8 := Option.some.inj e8
 have h64 : i.bytes = 64 := Option.some.inj e64
 obtain ⟨z, hz⟩ := Option.isSome_iff_exists.1 ez
 replace hz : i.zero = some z := hz
 have h := run_make (P := TryQ.prog) w 29 57 i z ((q_underlying 29).trans Tryz.underlying29) hi hz .i64 .i64 (n : Int) (n : Int) (by omega) (Int.le_refl _) (by rw [h64]; omega) (by omega)
 refine ⟨_, ?_, h⟩
 rw [size_madeCells, h8]
 simp
/-- what stands behind the slots that are handed over -/
abbrev s78 : Nat × Nat := (77, 78)
theorem s78_cells : slotCells s78 = [.int .u64 77, .int .u64 0, .int .u64 0, .int .u64 0, .int .u64 78, .int .u64 0, .int .u64 0, .int .u64 0] := by
 simp [slotCells, lim]
set_option maxRecDepth 100000 in
set_option maxHeartbeats 2000000 in
theorem room (ss : List (Nat × Nat)) (a : Option Addr) (c : Nat) (w : World) (hn : ss.length < 2199023255552) (hs : ss = [] ∨ ∃ bs os, a = some ⟨bs, os, none⟩ ∧ SlotsFrom w bs os ss) :
  Calls TryQ.prog 7 #[.slice a ss.length c] w fun e w' => e = .returned (.slice (some ⟨w.heap.size, 0, none⟩) (ss.length + 8) (ss.length + 8)) ∧
   SlotsFrom w' w.heap.size 0 (ss ++ List.replicate 8 s78) ∧ w'.there w.heap.size 0 ((ss.length + 8) * 8) ∧ Below w.heap.size w w' := by
 obtain ⟨Z, hZ, hmk⟩ := make57 (ss.length + 8) (by omega) w
 rw [show ((ss.length + 8 : Nat) : Int) = (ss.length : Int) + 8 by omega] at hmk
 have ht := there_new w Z 57
 have hB1 : Below w.heap.size w (w.alloc (.cells Z 57)) := (Below.refl _ _).alloc (Nat.le_refl _) _
 obtain ⟨W2, hcp, hS2, ht2, hB2⟩ : ∃ W2, (Builtin.copy_ #[29, 29] 3 #[.slice (some ⟨w.heap.size, 0, none⟩) (ss.length + 8) (ss.length + 8), .slice a ss.length c]).run TryQ.prog (w.alloc (.cells Z 57)) = .ok (goInt ss.length) W2 ∧ SlotsFrom W2 w.heap.size 0 ss ∧ W2.there w.heap.size 0 ((ss.length + 8) * 8) ∧ Below w.heap.size w W2 := by
  rcases hs with rfl | ⟨bs, os, rfl, hs⟩
  ·exact ⟨_, run_copyN_none 8 _ 29 29 3 57 _ _ _ _ _ _ ((q_underlying 29).trans Tryz.underlying29) (by kernel_rfl) rfl, fun i p h => (by cases h), (by rw [← hZ]; exact ht), hB1⟩
  ·have hm : Nat.min ss.length (ss.length + 8) = ss.length := Nat.min_eq_left (by omega)
   have hs' := hs.below hB1
   have h := run_copyN (P := TryQ.prog) 8 (w.alloc (.cells Z 57)) 29 29 3 57 w.heap.size 0 (ss.length + 8) (ss.length + 8) ⟨bs, os, none⟩ ss.length c (flatS ss) ((q_underlying 29).trans Tryz.underlying29) (by kernel_rfl) (by rw [hm, flatS_len])
    (fun j v hj => by rw [Addr.add_mid]; exact (range_flat ss os).1 hs' j v hj) (fun j hj => ht j (by rw [flatS_len] at hj; omega)) (flatS_one ss)
   rw [hm] at h
   exact ⟨_, h, (range_flat ss 0).2 (World.rangeAt_setCells_same _ _ _ _ (fun j hj => ht j (by rw [flatS_len] at hj; omega))), World.there_setCells (by rw [← hZ]; exact ht) _ _ _, below_setCells _ _ _ _ _ _ hB1 (Nat.le_refl _)⟩
 go_enter TryQ.func7, Tryz.ntmps7
 go_wp2
 go_loopw [4] (fun i W => ∃ k : Nat, i = .int .i64 ((ss.length + k : Nat) : Int) ∧ k ≤ 8 ∧ SlotsFrom W w.heap.size 0 (ss ++ List.replicate k s78) ∧ W.there w.heap.size 0 ((ss.length + 8) * 8) ∧ Below w.heap.size w W) (fun i _ => ss.length + 8 - (Go.RowKit.intOf i).toNat)
 case atStart =>
  exact ⟨0, rfl, by omega, by simpa using hS2, ht2, hB2⟩
 case round =>
  obtain ⟨k, rfl, hk, hS, ht, hB⟩ := hrel
  by_cases hlt : k < 8
  ·have hlt' : ((ss.length + k : Nat) : Int) < (ss.length : Int) + 8 := by omega
   have ht8 : wr.there w.heap.size ((ss.length + k) * 8) 8 := fun j hj => by
    have := ht ((ss.length + k) * 8 + j) (by omega)
    rwa [Nat.zero_add] at this
   obtain ⟨v0, z0⟩ := Option.isSome_iff_exists.1 (ht8 0 (by omega)).1
   obtain ⟨v1, z1⟩ := Option.isSome_iff_exists.1 (ht8 1 (by omega)).1
   obtain ⟨v2, z2⟩ := Option.isSome_iff_exists.1 (ht8 2 (by omega)).1
   obtain ⟨v3, z3⟩ := Option.isSome_iff_exists.1 (ht8 3 (by omega)).1
   obtain ⟨v4, z4⟩ := Option.isSome_iff_exists.1 (ht8 4 (by omega)).1
   obtain ⟨v5, z5⟩ := Option.isSome_iff_exists.1 (ht8 5 (by omega)).1
   obtain ⟨v6, z6⟩ := Option.isSome_iff_exists.1 (ht8 6 (by omega)).1
   obtain ⟨v7, z7⟩ := Option.isSome_iff_exists.1 (ht8 7 (by omega)).1
   have y0 := (ht8 0 (by omega)).2
   have y1 := (ht8 1 (by omega)).2
   have y2 := (ht8 2 (by omega)).2
   have y3 := (ht8 3 (by omega)).2
   have y4 := (ht8 4 (by omega)).2
   have y5 := (ht8 5 (by omega)).2
   have y6 := (ht8 6 (by omega)).2
   have y7 := (ht8 7 (by omega)).2
   rw [Nat.add_zero] at z0 y0
   have hS' : SlotsFrom (wr.setCells w.heap.size ((ss.length + k) * 8) (slotCells s78)) w.heap.size 0 (ss ++ List.replicate (k + 1) s78) := by
    have := hS.more s78 (by rw [List.length_append, List.length_replicate]; exact ht8)
    rw [List.length_append, List.length_replicate, List.append_assoc, ← List.replicate_succ'] at this
    exact this
   have ht' := World.there_setCells ht w.heap.size ((ss.length + k) * 8) (slotCells s78)
   have hB' := below_setCells w.heap.size (slotCells s78) ((ss.length + k) * 8) _ _ _ hB (Nat.le_refl _)
   generalize hi : ss.length + k = i at *
   rw [s78_cells] at hS' ht' hB'
   go_wp2
   refine ⟨⟨k + 1, by rw [← Nat.add_assoc, hi]; rfl, by omega, hS', ht', hB'⟩, ?_⟩
   simp [Go.RowKit.intOf]; omega
  ·have hk' : k = 8 := by omega
   subst hk'
   go_wp2
   simp [bodyPost, results, Tryz.results7, go_sem]
   exact ⟨hS, ht, hB⟩
end Go.Mark
/-! The law's still: does it read as it did? -/
namespace Go.Mark
open Go.RowKit Go.Proofs
set_option maxRecDepth 100000 in
set_option maxHeartbeats 1000000 in
theorem parts57 (x0 x1 x2 x3 x4 x5 x6 x7 : Value) (w : World) : (part 28 #[x0, x1, x2, x3, x4, x5, x6, x7] 0).run TryQ.prog w = .ok (.agg #[x0, x1, x2, x3]) w ∧ (part 28 #[x0, x1, x2, x3, x4, x5, x6, x7] 4).run TryQ.prog w = .ok (.agg #[x4, x5, x6, x7]) w := by
 refine ⟨?_, ?_⟩ <;> kernel_rfl
set_option maxRecDepth 100000 in
set_option maxHeartbeats 1000000 in
theorem run_eq57 (p q : Nat × Nat) (hp : p.1 < M ∧ p.2 < M) (hq : q.1 < M ∧ q.2 < M) (w : World) :
  (Op.equalIn 10000 57 (.agg (slotCells p).toArray) (.agg (slotCells q).toArray)).run TryQ.prog w = .ok (decide (p.1 = q.1) && decide (p.2 = q.2)) w := by
 have hu : TryQ.prog.underlying 57 = some (.struct (TryQ.prog.fieldsOf 57)) := by
  unfold Program.fieldsOf
  rw [q_underlying, Tryz.underlying57]
 rw [run_equalIn_struct (P := TryQ.prog) w 9999 57 _ _ hu (by kernel_rfl)]
 unfold Program.fieldsOf
 rw [q_underlying, Tryz.underlying57]
 unfold slotCells
 have h1 := fun x0 x1 x2 x3 x4 x5 x6 x7 w => (parts57 x0 x1 x2 x3 x4 x5 x6 x7 w).1
 have h2 := fun x0 x1 x2 x3 x4 x5 x6 x7 w => (parts57 x0 x1 x2 x3 x4 x5 x6 x7 w).2
 have e1 := run_eq4d 9997 (lim p.1 0) (lim p.1 1) (lim p.1 2) (lim p.1 3) (lim q.1 0) (lim q.1 1) (lim q.1 2) (lim q.1 3)
 have e2 := run_eq4d 9997 (lim p.2 0) (lim p.2 1) (lim p.2 2) (lim p.2 3) (lim q.2 0) (lim q.2 1) (lim q.2 2) (lim q.2 3)
 rw [eq4_lim _ _ hp.1 hq.1] at e1
 rw [eq4_lim _ _ hp.2 hq.2] at e2
 simp only [Op.eqFields, Sem.run_bind, Sem.run_ite, Sem.run_pure, Result.andThen_ok, h1, h2, e1, e2]
 generalize decide (p.1 = q.1) = x1
 generalize decide (p.2 = q.2) = x2
 cases x1 <;> cases x2 <;> simp
theorem CellsAt.grown {w W : World} {b g o : Nat} {l : List Value} (h : CellsAt w b o l) (hg : w.grownBy W (some g)) (hne : b ≠ g) : CellsAt W b o l := fun j v hj => by
 have := h j v hj
 have hlt : b < w.heap.size := by
  simp only [World.cell?] at this
  cases hh : w.heap[b]? with
  | none => rw [hh] at this; cases this
  | some o => exact (Array.getElem?_eq_some_iff.1 hh).1
 rw [hg.cell_far ⟨b, o + j, none⟩ hlt (by simpa using hne)]
 exact this
theorem gb_refl (w : World) (r : Option Nat) : w.grownBy w r := ⟨rfl, rfl, rfl, Nat.le_refl _, fun _ _ _ => rfl⟩
theorem gb_below {w W W' : World} {r : Option Nat} (h : w.grownBy W r) (hb : Below W.heap.size W W') : w.grownBy W' r :=
 ⟨hb.os.trans h.os, hb.tape.trans h.tape, hb.output.trans h.output, Nat.le_trans h.size hb.size, fun k hk hr => (hb.block k (Nat.lt_of_lt_of_le hk h.size)).trans (h.block k hk hr)⟩
theorem gb_set {w : World} {g : Nat} : ∀ (vs : List Value) (o : Nat) (W : World), w.grownBy W (some g) → w.grownBy (W.setCells g o vs) (some g)
 | [], _, _, h => h
 | v :: vs, o, W, h => gb_set vs (o + 1) (W.setCell ⟨g, o, none⟩ v) ⟨h.os, h.tape, h.output, by simpa [World.setCell] using h.size, fun k hk hr => (Below.heap_setCell _ _ _ _ (by intro e; exact hr (by rw [e]))).trans (h.block k hk hr)⟩
abbrev s99 : Nat × Nat := (99, 99)
theorem s99_cells : slotCells s99 = [.int .u64 99, .int .u64 0, .int .u64 0, .int .u64 0, .int .u64 99, .int .u64 0, .int .u64 0, .int .u64 0] := by
 simp [slotCells, lim]
set_option maxRecDepth 100000 in
set_option maxHeartbeats 4000000 in
theorem still (ss : List (Nat × Nat)) (g oc : Nat) (a : Option Addr) (c : Nat) (w : World) (hn : ss.length < 2199023255552) (hs : ss = [] ∨ ∃ bs os, a = some ⟨bs, os, none⟩ ∧ bs ≠ g ∧ SlotsFrom w bs os ss)
  (hL : SlotsFrom w g 0 (ss ++ List.replicate 8 s78)) (ht : w.there g 0 ((ss.length + 8) * 8)) (hm : ∀ p ∈ ss, p.1 < M ∧ p.2 < M) :
  Calls TryQ.prog 10 #[.slice (some ⟨g, 0, none⟩) (ss.length + 8) oc, .slice a ss.length c] w fun e w' => e = .returned (.bool true) ∧ w.grownBy w' (some g) := by
 have hgw : g < w.heap.size := by
  obtain ⟨v, hv⟩ := Option.isSome_iff_exists.1 (ht 0 (by omega)).1
  simp only [World.cell?] at hv
  cases hh : w.heap[g]? with
  | none => rw [hh] at hv; cases hv
  | some o => exact (Array.getElem?_eq_some_iff.1 hh).1
 go_enter TryQ.func10, Tryz.ntmps10
 go_wp2
 go_loopw [5, 6] (fun ok i W => ok = .bool true ∧ ∃ k : Nat, i = .int .i64 (k : Int) ∧ k ≤ ss.length + 8 ∧ (∀ j p, k ≤ j → (ss ++ List.replicate 8 s78)[j]? = some p → CellsAt W g (j * 8) (slotCells p)) ∧ W.there g 0 ((ss.length + 8) * 8) ∧ w.grownBy W (some g)) (fun _ i _ => ss.length + 8 - (Go.RowKit.intOf i).toNat)
 case atStart =>
  exact ⟨rfl, 0, rfl, by omega, fun j p _ hp => by have := hL j p hp; rwa [Nat.zero_add] at this, ht, gb_refl _ _⟩
 case round =>
  obtain ⟨rfl, k, rfl, hk, hR, ht, hg⟩ := hrel
  by_cases hlt : k < ss.length + 8
  ·have hlt' : (k : Int) < (ss.length : Int) + 8 := by omega
   have ht8 : wr.there g (k * 8) 8 := fun j hj => by
    have := ht (k * 8 + j) (by omega)
    rwa [Nat.zero_add] at this
   have hkl : k < (ss ++ List.replicate 8 s78).length := by simpa using hlt
   obtain ⟨p, hp⟩ : ∃ p, (ss ++ List.replicate 8 s78)[k]? = some p := ⟨_, List.getElem?_eq_getElem hkl⟩
   have hc := hR k p (Nat.le_refl _) hp
   have hpm : p.1 < M ∧ p.2 < M := by
    rcases List.mem_append.1 (List.mem_of_getElem? hp) with h | h
    ·exact hm p h
    ·rw [List.eq_of_mem_replicate h]; decide
   have heq := fun W => run_eq57 p p hpm hpm W
   simp only [decide_true, Bool.and_self] at heq
   unfold slotCells at heq
   have hgr : g < wr.heap.size := Nat.lt_of_lt_of_le hgw hg.size
   by_cases hks : k < ss.length
   ·have hks' : (k : Int) < (ss.length : Int) := by omega
    obtain ⟨bs, os, rfl, hbg, hsl⟩ := hs.resolve_left (by intro e; rw [e] at hks; simp at hks)
    have hpk : ss[k]? = some p := by rw [List.getElem?_append_left hks] at hp; exact hp
    have hcs := (hsl k p hpk).grown hg hbg
    have l0 := hcs 0 _ rfl
    have l1 := hcs 1 _ rfl
    have l2 := hcs 2 _ rfl
    have l3 := hcs 3 _ rfl
    have l4 := hcs 4 _ rfl
    have l5 := hcs 5 _ rfl
    have l6 := hcs 6 _ rfl
    have l7 := hcs 7 _ rfl
    rw [Nat.add_zero] at l0
    have hbs : bs < wr.heap.size := by
     have h := l0
     simp only [World.cell?] at h
     cases hh : wr.heap[bs]? with
     | none => rw [hh] at h; cases h
     | some o => exact (Array.getElem?_eq_some_iff.1 hh).1
    have hb1 : Below wr.heap.size wr (wr.alloc (.cells (slotCells p).toArray 57)) := (Below.refl _ _).alloc (Nat.le_refl _) _
    have hcx : CellsAt (wr.alloc (.cells (slotCells p).toArray 57)) wr.heap.size 0 (slotCells p) := cells_new wr _ 57
    go_wp2_with fail
    clear l0 l1 l2 l3 l4 l5 l6 l7
    change Code.wp _ _ _ _ (wr.alloc (.cells (slotCells p).toArray 57))
    generalize wr.alloc (.cells (slotCells p).toArray 57) = W1 at hb1 hcx ⊢
    generalize wr.heap.size = xb at hcx ⊢
    have hcg := hc.below hb1
    have g0 := hcg 0 _ rfl
    have x0 := hcx 0 _ rfl
    have g1 := hcg 1 _ rfl
    have x1 := hcx 1 _ rfl
    have g2 := hcg 2 _ rfl
    have x2 := hcx 2 _ rfl
    have g3 := hcg 3 _ rfl
    have x3 := hcx 3 _ rfl
    have g4 := hcg 4 _ rfl
    have x4 := hcx 4 _ rfl
    have g5 := hcg 5 _ rfl
    have x5 := hcx 5 _ rfl
    have g6 := hcg 6 _ rfl
    have x6 := hcx 6 _ rfl
    have g7 := hcg 7 _ rfl
    have x7 := hcx 7 _ rfl
    rw [Nat.add_zero] at g0
    simp only [Nat.zero_add] at x0 x1 x2 x3 x4 x5 x6 x7
    go_region_held (fun W' => W'.cell? ⟨g, k * 8, none⟩ = some (.int .u64 (lim p.1 0)) ∧ W'.cell? ⟨g, k * 8 + 1, none⟩ = some (.int .u64 (lim p.1 1)) ∧ W'.cell? ⟨g, k * 8 + 2, none⟩ = some (.int .u64 (lim p.1 2)) ∧ W'.cell? ⟨g, k * 8 + 3, none⟩ = some (.int .u64 (lim p.1 3)) ∧ W'.cell? ⟨g, k * 8 + 4, none⟩ = some (.int .u64 (lim p.2 0)) ∧ W'.cell? ⟨g, k * 8 + 5, none⟩ = some (.int .u64 (lim p.2 1)) ∧ W'.cell? ⟨g, k * 8 + 6, none⟩ = some (.int .u64 (lim p.2 2)) ∧ W'.cell? ⟨g, k * 8 + 7, none⟩ = some (.int .u64 (lim p.2 3)) ∧ W'.cell? ⟨xb, 0, none⟩ = some (.int .u64 (lim p.1 0)) ∧ W'.cell? ⟨xb, 1, none⟩ = some (.int .u64 (lim p.1 1)) ∧ W'.cell? ⟨xb, 2, none⟩ = some (.int .u64 (lim p.1 2)) ∧ W'.cell? ⟨xb, 3, none⟩ = some (.int .u64 (lim p.1 3)) ∧ W'.cell? ⟨xb, 4, none⟩ = some (.int .u64 (lim p.2 0)) ∧ W'.cell? ⟨xb, 5, none⟩ = some (.int .u64 (lim p.2 1)) ∧ W'.cell? ⟨xb, 6, none⟩ = some (.int .u64 (lim p.2 2)) ∧ W'.cell? ⟨xb, 7, none⟩ = some (.int .u64 (lim p.2 3))) (go_keep) (fail)
    clear g0 g1 g2 g3 g4 g5 g6 g7 x0 x1 x2 x3 x4 x5 x6 x7
    have hb2 : Below wr.heap.size wr W1.drew := hb1.trans (Below.refl _ _).drew
    generalize W1.drew = W2 at hb2 ⊢
    have t8 : W2.there g (k * 8) 8 := fun j hj => by
     rw [hb2.cell (p := ⟨g, k * 8 + j, none⟩) hgr, hb2.frozen (p := ⟨g, k * 8 + j, none⟩) hgr]
     exact ht8 j hj
    have tA : W2.there g 0 ((ss.length + 8) * 8) := fun j hj => by
     rw [hb2.cell (p := ⟨g, 0 + j, none⟩) hgr, hb2.frozen (p := ⟨g, 0 + j, none⟩) hgr]
     exact ht j hj
    obtain ⟨v0, z0⟩ := Option.isSome_iff_exists.1 (t8 0 (by omega)).1
    have y0 := (t8 0 (by omega)).2
    obtain ⟨v1, z1⟩ := Option.isSome_iff_exists.1 (t8 1 (by omega)).1
    have y1 := (t8 1 (by omega)).2
    obtain ⟨v2, z2⟩ := Option.isSome_iff_exists.1 (t8 2 (by omega)).1
    have y2 := (t8 2 (by omega)).2
    obtain ⟨v3, z3⟩ := Option.isSome_iff_exists.1 (t8 3 (by omega)).1
    have y3 := (t8 3 (by omega)).2
    obtain ⟨v4, z4⟩ := Option.isSome_iff_exists.1 (t8 4 (by omega)).1
    have y4 := (t8 4 (by omega)).2
    obtain ⟨v5, z5⟩ := Option.isSome_iff_exists.1 (t8 5 (by omega)).1
    have y5 := (t8 5 (by omega)).2
    obtain ⟨v6, z6⟩ := Option.isSome_iff_exists.1 (t8 6 (by omega)).1
    have y6 := (t8 6 (by omega)).2
    obtain ⟨v7, z7⟩ := Option.isSome_iff_exists.1 (t8 7 (by omega)).1
    have y7 := (t8 7 (by omega)).2
    rw [Nat.add_zero] at z0 y0
    have hg2 := gb_set (slotCells s99) (k * 8) W2 (gb_below hg hb2)
    have tB := World.there_setCells tA g (k * 8) (slotCells s99)
    have hR2 : ∀ j q, k + 1 ≤ j → (ss ++ List.replicate 8 s78)[j]? = some q → CellsAt (W2.setCells g (k * 8) (slotCells s99)) g (j * 8) (slotCells q) := fun j q hj hq =>
     World.rangeAt_setCells_apart ((hR j q (by omega) hq).below hb2) _ _ _ (.inr (.inr (by show k * 8 + 8 ≤ j * 8; omega)))
    rw [s99_cells] at hg2 tB hR2
    go_wp2
    refine ⟨⟨rfl, k + 1, by go_num, by omega, hR2, tB, hg2⟩, ?_⟩
    simp [Go.RowKit.intOf]; omega
   ·have hks' : ¬ (k : Int) < (ss.length : Int) := by omega
    have hp78 : p = s78 := by
     rw [List.getElem?_append_right (by omega)] at hp
     exact List.eq_of_mem_replicate (List.mem_of_getElem? hp)
    have hb1 : Below wr.heap.size wr (wr.alloc (.cells #[.int .u64 77, .int .u64 0, .int .u64 0, .int .u64 0, .int .u64 78, .int .u64 0, .int .u64 0, .int .u64 0] 57)) := (Below.refl _ _).alloc (Nat.le_refl _) _
    have hcx : CellsAt (wr.alloc (.cells #[.int .u64 77, .int .u64 0, .int .u64 0, .int .u64 0, .int .u64 78, .int .u64 0, .int .u64 0, .int .u64 0] 57)) wr.heap.size 0 (slotCells p) := by
     rw [hp78, s78_cells]
     exact cells_new wr _ 57
    clear hp78
    go_wp2_with fail
    generalize wr.alloc _ = W1 at hb1 hcx ⊢
    generalize wr.heap.size = xb at hcx ⊢
    have hcg := hc.below hb1
    have g0 := hcg 0 _ rfl
    have x0 := hcx 0 _ rfl
    have g1 := hcg 1 _ rfl
    have x1 := hcx 1 _ rfl
    have g2 := hcg 2 _ rfl
    have x2 := hcx 2 _ rfl
    have g3 := hcg 3 _ rfl
    have x3 := hcx 3 _ rfl
    have g4 := hcg 4 _ rfl
    have x4 := hcx 4 _ rfl
    have g5 := hcg 5 _ rfl
    have x5 := hcx 5 _ rfl
    have g6 := hcg 6 _ rfl
    have x6 := hcx 6 _ rfl
    have g7 := hcg 7 _ rfl
    have x7 := hcx 7 _ rfl
    rw [Nat.add_zero] at g0
    simp only [Nat.zero_add] at x0 x1 x2 x3 x4 x5 x6 x7
    go_region_held (fun W' => W'.cell? ⟨g, k * 8, none⟩ = some (.int .u64 (lim p.1 0)) ∧ W'.cell? ⟨g, k * 8 + 1, none⟩ = some (.int .u64 (lim p.1 1)) ∧ W'.cell? ⟨g, k * 8 + 2, none⟩ = some (.int .u64 (lim p.1 2)) ∧ W'.cell? ⟨g, k * 8 + 3, none⟩ = some (.int .u64 (lim p.1 3)) ∧ W'.cell? ⟨g, k * 8 + 4, none⟩ = some (.int .u64 (lim p.2 0)) ∧ W'.cell? ⟨g, k * 8 + 5, none⟩ = some (.int .u64 (lim p.2 1)) ∧ W'.cell? ⟨g, k * 8 + 6, none⟩ = some (.int .u64 (lim p.2 2)) ∧ W'.cell? ⟨g, k * 8 + 7, none⟩ = some (.int .u64 (lim p.2 3)) ∧ W'.cell? ⟨xb, 0, none⟩ = some (.int .u64 (lim p.1 0)) ∧ W'.cell? ⟨xb, 1, none⟩ = some (.int .u64 (lim p.1 1)) ∧ W'.cell? ⟨xb, 2, none⟩ = some (.int .u64 (lim p.1 2)) ∧ W'.cell? ⟨xb, 3, none⟩ = some (.int .u64 (lim p.1 3)) ∧ W'.cell? ⟨xb, 4, none⟩ = some (.int .u64 (lim p.2 0)) ∧ W'.cell? ⟨xb, 5, none⟩ = some (.int .u64 (lim p.2 1)) ∧ W'.cell? ⟨xb, 6, none⟩ = some (.int .u64 (lim p.2 2)) ∧ W'.cell? ⟨xb, 7, none⟩ = some (.int .u64 (lim p.2 3))) (go_keep) (fail)
    clear g0 g1 g2 g3 g4 g5 g6 g7 x0 x1 x2 x3 x4 x5 x6 x7
    have hb2 : Below wr.heap.size wr W1.drew := hb1.trans (Below.refl _ _).drew
    generalize W1.drew = W2 at hb2 ⊢
    have t8 : W2.there g (k * 8) 8 := fun j hj => by
     rw [hb2.cell (p := ⟨g, k * 8 + j, none⟩) hgr, hb2.frozen (p := ⟨g, k * 8 + j, none⟩) hgr]
     exact ht8 j hj
    have tA : W2.there g 0 ((ss.length + 8) * 8) := fun j hj => by
     rw [hb2.cell (p := ⟨g, 0 + j, none⟩) hgr, hb2.frozen (p := ⟨g, 0 + j, none⟩) hgr]
     exact ht j hj
    obtain ⟨v0, z0⟩ := Option.isSome_iff_exists.1 (t8 0 (by omega)).1
    have y0 := (t8 0 (by omega)).2
    obtain ⟨v1, z1⟩ := Option.isSome_iff_exists.1 (t8 1 (by omega)).1
    have y1 := (t8 1 (by omega)).2
    obtain ⟨v2, z2⟩ := Option.isSome_iff_exists.1 (t8 2 (by omega)).1
    have y2 := (t8 2 (by omega)).2
    obtain ⟨v3, z3⟩ := Option.isSome_iff_exists.1 (t8 3 (by omega)).1
    have y3 := (t8 3 (by omega)).2
    obtain ⟨v4, z4⟩ := Option.isSome_iff_exists.1 (t8 4 (by omega)).1
    have y4 := (t8 4 (by omega)).2
    obtain ⟨v5, z5⟩ := Option.isSome_iff_exists.1 (t8 5 (by omega)).1
    have y5 := (t8 5 (by omega)).2
    obtain ⟨v6, z6⟩ := Option.isSome_iff_exists.1 (t8 6 (by omega)).1
    have y6 := (t8 6 (by omega)).2
    obtain ⟨v7, z7⟩ := Option.isSome_iff_exists.1 (t8 7 (by omega)).1
    have y7 := (t8 7 (by omega)).2
    rw [Nat.add_zero] at z0 y0
    have hg2 := gb_set (slotCells s99) (k * 8) W2 (gb_below hg hb2)
    have tB := World.there_setCells tA g (k * 8) (slotCells s99)
    have hR2 : ∀ j q, k + 1 ≤ j → (ss ++ List.replicate 8 s78)[j]? = some q → CellsAt (W2.setCells g (k * 8) (slotCells s99)) g (j * 8) (slotCells q) := fun j q hj hq =>
     World.rangeAt_setCells_apart ((hR j q (by omega) hq).below hb2) _ _ _ (.inr (.inr (by show k * 8 + 8 ≤ j * 8; omega)))
    rw [s99_cells] at hg2 tB hR2
    go_wp2
    refine ⟨⟨rfl, k + 1, by go_num, by omega, hR2, tB, hg2⟩, ?_⟩
    simp [Go.RowKit.intOf]; omega
  ·go_wp2
   simp [bodyPost, results, Tryz.results10, go_sem]
   exact hg
end Go.Mark
