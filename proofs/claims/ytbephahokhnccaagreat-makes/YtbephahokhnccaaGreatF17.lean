import Derived.Test.YtbephahokhnccaaGreatXF15toF16
import Derived.Deep.RegionHeldLaw
/-! The document's New. -/
namespace Go.Mark
open Go.RowKit Go.Proofs
/-- all ways through a piece meet in one state, but for two numbers -/
theorem wp_meet2 {P : Program} {c : Code} {a : Act} {w : World} {Q : Exit → Act → World → Prop} (R : Nat → Nat → World → Prop) (h : ∃ A : Nat → Nat → Act, c.wp P (fun e a' W => e = .normal ∧ ∃ g n, a' = A g n ∧ R g n W) a w ∧ ∀ g n W, R g n W → Q .normal (A g n) W) : c.wp P Q a w :=
 let ⟨_, h1, h2⟩ := h
 Code.wp_mono (fun _ _ _ ⟨e1, _, _, e2, hR⟩ => by subst e1 e2; exact h2 _ _ _ hR) h1
theorem own_ge {W : World} {base size n : Nat} {e : TypeId} {v : Value} {xs : List Value} (h : W.ownsRow base e size v n xs) : ∀ g, v.ownBlock = some g → base ≤ g := fun g hg => by
 rcases h.2 with ⟨rfl, _⟩ | ⟨g', cap, cur, rfl, hb, _⟩
 ·cases hg
 ·cases hg; exact hb
theorem own_below {W W' : World} {base size n : Nat} {e : TypeId} {v : Value} {xs : List Value} (h : W.ownsRow base e size v n xs) (hb : Below W.heap.size W W') : W'.ownsRow base e size v n xs := by
 refine ⟨h.1, h.2.imp id ?_⟩
 rintro ⟨g, cap, cur, h1, h2, h3, h4⟩
 exact ⟨g, cap, cur, h1, h2, (hb.block g (Array.getElem?_eq_some_iff.1 h3).1).trans h3, h4⟩
theorem own_set {W : World} {base size n : Nat} {e : TypeId} {v : Value} {xs : List Value} (h : W.ownsRow base e size v n xs) (p : Addr) (u : Value) (hp : p.block < base) : (W.setCell p u).ownsRow base e size v n xs := by
 refine ⟨h.1, h.2.imp id ?_⟩
 rintro ⟨g, cap, cur, h1, h2, h3, h4⟩
 exact ⟨g, cap, cur, h1, h2, (Below.heap_setCell _ _ _ _ (by omega)).trans h3, h4⟩
theorem gb_to_below {W W' : World} {r : Option Nat} {B : Nat} (h : W.grownBy W' r) (hr : ∀ g, r = some g → B ≤ g) (hB : B ≤ W.heap.size) : Below B W W' :=
 ⟨h.os, h.tape, h.output, h.size, fun k hk => h.block k (by omega) (fun e => by have := hr k e.symm; omega)⟩
theorem cells_setAt {W : World} {b i : Nat} {l : List Value} {u : Value} (h : CellsAt W b 0 l) (hi : i < l.length) : CellsAt (W.setCell ⟨b, i, none⟩ u) b 0 (l.set i u) := fun j v hj => by
 rw [Nat.zero_add]
 by_cases hij : i = j
 ·subst hij
  rw [List.getElem?_set_self hi] at hj
  cases hj
  have := h i _ (List.getElem?_eq_getElem hi)
  rw [Nat.zero_add] at this
  have hr := World.cell?_setCells_in b [u] i W (fun j' hj' => by
   have e0 : j' = 0 := by simpa using hj'
   rw [e0, Nat.add_zero, this]
   rfl) 0 (by simp)
  simpa [World.setCells] using hr
 ·rw [List.getElem?_set_ne hij] at hj
  have := h j v hj
  rw [Nat.zero_add] at this
  rw [World.cell?_setCell_other _ _ _ _ (by intro e; cases e; exact hij rfl)]
  exact this
theorem info57 : ∃ i z, TryQ.prog.info? 57 = some i ∧ i.zero = some z ∧ i.size = 8 ∧ i.bytes = 64 ∧ z.cells.size = 8 := by
 have e8 : (TryQ.prog.info? 57).map (·.size) = some 8 := by kernel_rfl
 have e64 : (TryQ.prog.info? 57).map (·.bytes) = some 64 := by kernel_rfl
 have ez : ((TryQ.prog.info? 57).bind (·.zero)).map (·.cells.size) = some 8 := by kernel_rfl
 obtain ⟨i, hi⟩ : ∃ i, TryQ.prog.info? 57 = some i := by
  cases h : TryQ.prog.info? 57 with
  | none => rw [h] at e8; cases e8
  | some i => exact ⟨i, rfl⟩
 rw [hi] at e8 e64 ez
 replace ez : i.zero.map (·.cells.size) = some 8 := ez
 cases hz : i.zero with
 | none => rw [hz] at ez; cases ez
 | some z => rw [hz] at ez; exact ⟨i, z, hi, hz, Option.some.inj e8, Option.some.inj e64, Option.some.inj ez⟩
theorem own_lt {W : World} {base size n : Nat} {e : TypeId} {v : Value} {xs : List Value} (h : W.ownsRow base e size v n xs) : ∀ g, v.ownBlock = some g → g < W.heap.size := fun g hg => by
 rcases h.2 with ⟨rfl, _⟩ | ⟨g', cap, cur, rfl, _, hb, _⟩
 ·cases hg
 ·cases hg; exact (Array.getElem?_eq_some_iff.1 hb).1
theorem own_grown {W W' : World} {base size n : Nat} {e : TypeId} {v : Value} {xs : List Value} {r : Option Nat} (h : W.ownsRow base e size v n xs) (hg : W.grownBy W' r) (hr : ∀ g, v.ownBlock = some g → r ≠ some g) : W'.ownsRow base e size v n xs := by
 have hl := own_lt h
 refine ⟨h.1, h.2.imp id ?_⟩
 rintro ⟨g, cap, cur, h1, h2, h3, h4⟩
 subst h1
 exact ⟨g, cap, cur, rfl, h2, (hg.block g (hl g rfl) (fun e => hr g rfl e.symm)).trans h3, h4⟩
theorem own_base {W : World} {base base' size n : Nat} {e : TypeId} {v : Value} {xs : List Value} (h : W.ownsRow base e size v n xs) (hb : base' ≤ base) : W.ownsRow base' e size v n xs :=
 ⟨h.1, h.2.imp id fun ⟨g, cap, cur, h1, h2, h3⟩ => ⟨g, cap, cur, h1, Nat.le_trans hb h2, h3⟩⟩
theorem info31 : ∃ i z, TryQ.prog.info? 31 = some i ∧ i.zero = some z ∧ i.size = 8 ∧ i.bytes = 88 ∧ z.cells.size = 8 := by
 have e8 : (TryQ.prog.info? 31).map (·.size) = some 8 := by kernel_rfl
 have e64 : (TryQ.prog.info? 31).map (·.bytes) = some 88 := by kernel_rfl
 have ez : ((TryQ.prog.info? 31).bind (·.zero)).map (·.cells.size) = some 8 := by kernel_rfl
 obtain ⟨i, hi⟩ : ∃ i, TryQ.prog.info? 31 = some i := by
  cases h : TryQ.prog.info? 31 with
  | none => rw [h] at e8; cases e8
  | some i => exact ⟨i, rfl⟩
 rw [hi] at e8 e64 ez
 replace ez : i.zero.map (·.cells.size) = some 8 := ez
 cases hz : i.zero with
 | none => rw [hz] at ez; cases ez
 | some z => rw [hz] at ez; exact ⟨i, z, hi, hz, Option.some.inj e8, Option.some.inj e64, Option.some.inj ez⟩
/-- the cells of accounts, one behind the other -/
def flatA : List (AccD × SV) → List Value
 | [] => []
 | p :: es => accCells p.1 p.2 ++ flatA es
theorem acc_one (d : AccD) (s : SV) : ∀ v ∈ accCells d s, v.oneCell' = true := fun v h => by
 simp only [accCells, List.mem_cons, List.not_mem_nil, or_false] at h
 rcases h with h | h | h | h | h | h | h | h <;> rw [h] <;> rfl
theorem flatA_append : ∀ (a b : List (AccD × SV)), flatA (a ++ b) = flatA a ++ flatA b
 | [], _ => rfl
 | p :: a, b => by rw [List.cons_append, flatA, flatA, flatA_append a b, List.append_assoc]
/-- the slots that a world keeps -/
def kept (ss : List (Nat × Nat)) : List (Nat × Nat) := ss.filter fun q => decide (q.2 ≠ 0)
theorem kept_snoc (ss : List (Nat × Nat)) (c : Nat) (hc : c < ss.length) (h : ¬ ss[c].2 = 0) : kept (ss.take (c + 1)) = kept (ss.take c) ++ [ss[c]] := by
 have e : List.filter (fun q : Nat × Nat => decide (q.2 ≠ 0)) [ss[c]] = [ss[c]] := by simp [List.filter, h]
 unfold kept
 rw [← List.take_append_getElem hc, List.filter_append, e]
theorem kept_skip (ss : List (Nat × Nat)) (c : Nat) (hc : c < ss.length) (h : ss[c].2 = 0) : kept (ss.take (c + 1)) = kept (ss.take c) := by
 have e : List.filter (fun q : Nat × Nat => decide (q.2 ≠ 0)) [ss[c]] = [] := by simp [List.filter, h]
 unfold kept
 rw [← List.take_append_getElem hc, List.filter_append, e, List.append_nil]
theorem flatS_append : ∀ (a b : List (Nat × Nat)), flatS (a ++ b) = flatS a ++ flatS b
 | [], _ => rfl
 | p :: a, b => by rw [List.cons_append, flatS, flatS, flatS_append a b, List.append_assoc]
/-- the walk through an account's slots: what holds -/
abbrev Xs (W V : World) (d : AccD) (vS : SV) (c : Nat) : Prop := Below V.heap.size V W ∧ V.heap.size < W.heap.size ∧ CellsAt W V.heap.size 0 (accCells d vS) ∧ W.there V.heap.size 0 8 ∧ W.ownsRow (V.heap.size + 1) 57 8 (.slice vS.a vS.n vS.c) (kept (d.slots.take c)).length (flatS (kept (d.slots.take c)))
/-- an account as a world keeps it -/
def kp (d : AccD) : AccD := { d with slots := kept d.slots }
/-- a world of the document's, as far as its first k accounts -/
structure Ys (w W : World) (pb : Nat) (ds : List (AccD × SV)) (k : Nat) (vA : SV) (es : List (AccD × SV)) : Prop where
 below : Below w.heap.size w W
 lo : w.heap.size ≤ pb
 lt : pb < W.heap.size
 cell : W.cell? ⟨pb, 0, none⟩ = some (.slice vA.a vA.n vA.c)
 rest : CellsAt W pb 1 [.int .i64 0, .slice none 0 0, .int .i64 0, .slice none 0 0]
 fz : W.frozen? ⟨pb, 0, none⟩ = false
 own : W.ownsRow (pb + 1) 31 8 (.slice vA.a vA.n vA.c) k (flatA es)
 lst : es.map (·.1) = (ds.take k).map fun p => kp p.1
 sl : ∀ p ∈ es, W.ownsRow (pb + 1) 57 8 (.slice p.2.a p.2.n p.2.c) p.1.slots.length (flatS p.1.slots) ∧ ∀ g, (Value.slice p.2.a p.2.n p.2.c).ownBlock = some g → (Value.slice vA.a vA.n vA.c).ownBlock ≠ some g
theorem Ys.keep {w W W' : World} {pb k : Nat} {ds es : List (AccD × SV)} {vA : SV} (h : Ys w W pb ds k vA es) (hb : Below W.heap.size W W') : Ys w W' pb ds k vA es :=
 ⟨h.below.trans (hb.mono h.below.size), h.lo, Nat.lt_of_lt_of_le h.lt hb.size, (hb.cell (p := ⟨pb, 0, none⟩) h.lt).trans h.cell, h.rest.below hb, (hb.frozen (p := ⟨pb, 0, none⟩) h.lt).trans h.fz, own_below h.own hb, h.lst, fun p hp => ⟨own_below (h.sl p hp).1 hb, (h.sl p hp).2⟩⟩
theorem eqz (n : Nat) (h : n < M) (W : World) : (Op.equalIn 10000 28 (wd n) (.agg #[.int .u64 0, .int .u64 0, .int .u64 0, .int .u64 0])).run TryQ.prog W = .ok (decide (n = 0)) W := by
 have := run_eqw n 0 h (by decide) W
 have e : wd 0 = .agg #[.int .u64 0, .int .u64 0, .int .u64 0, .int .u64 0] := by simp [wd, lim]
 rw [e] at this
 exact this
set_option maxRecDepth 100000 in
set_option maxHeartbeats 4000000 in
theorem refNew0 (ds : List (AccD × SV)) (a : Option Addr) (cap : Nat) (w : World) (hI : InR w a ds) (hno : ¬ Sound (ds.map (·.1))) :
  Calls TryQ.prog 9 #[.slice a ds.length cap] w fun e w' => e = .returned (.pointer none) ∧ Below w.heap.size w w' := by
 have hs := sound ds a cap w hI
 rw [decide_eq_false hno] at hs
 go_enter TryQ.func9, Tryz.ntmps9
 go_wp2_with fail
 refine hs.mono ?_
 rintro e w1 ⟨rfl, hb⟩
 go_wp2
 simp [bodyPost, results, Tryz.results9, go_sem]
 exact hb
set_option maxRecDepth 100000 in
set_option maxHeartbeats 4000000 in
theorem refNew (ds : List (AccD × SV)) (a : Option Addr) (cap : Nat) (w : World) (hI : InR w a ds) (hso : Sound (ds.map (·.1))) :
  Calls TryQ.prog 9 #[.slice a ds.length cap] w fun e w' => ∃ pb vA es, e = .returned (.pointer (some ⟨pb, 0, none⟩)) ∧ Ys w w' pb ds ds.length vA es := by
 have hs := sound ds a cap w hI
 rw [decide_eq_true hso] at hs
 have hn : ds.length < 2147483648 := by
  have := hso.1
  simp only [List.length_map] at this
  omega
 go_enter TryQ.func9, Tryz.ntmps9
 go_wp2_with fail
 refine hs.mono ?_
 rintro e w0 ⟨rfl, hb0⟩
 go_wp2_with fail
 have hI0 := hI.below hb0
 go_loopw [5] (fun i wr => ∃ (k : Nat) (vA : SV) (es : List (AccD × SV)), i = .int .i64 k ∧ k ≤ ds.length ∧ Ys w wr w0.heap.size ds k vA es) (fun i _ => ds.length - (Go.RowKit.intOf i).toNat)
 case atStart =>
  refine ⟨0, ⟨none, 0, 0⟩, [], rfl, Nat.zero_le _, hb0.alloc hb0.size _, hb0.size, by simp, ?_, ?_, ?_, ⟨rfl, .inl ⟨rfl, rfl⟩⟩, by simp, fun p hp => by cases hp⟩
  ·rw [World.cell?_alloc_new]; rfl
  ·intro j v hj
   rw [World.cell?_alloc_new]
   rcases j with _ | _ | _ | _ | j <;> first | (cases hj; rfl) | (simp at hj)
  ·simp [go_sem]
 case round =>
  obtain ⟨k, vA, es, rfl, hk, hY⟩ := hrel
  have hB := hY.below
  generalize wr = V at *
  by_cases hlt : k < ds.length
  ·have hlt' : (k : Int) < (ds.length : Int) := by omega
   have hmem := List.getElem_mem hlt
   obtain ⟨b, o, rfl, hA⟩ := hI.acc.resolve_left (by intro e; rw [e] at hlt; simp at hlt)
   have hA' := (hA.below hB) k ds[k] (List.getElem?_eq_getElem hlt)
   have hgetk := List.getElem?_eq_getElem hlt
   obtain ⟨hsn, hsl⟩ := hI.sl _ hmem
   have hbal := hI.bal _ hmem
   have hnum := hI.num _ hmem
   have hkey := hI.key _ hmem
   generalize ds[k] = p at *
   obtain ⟨d, sv⟩ := p
   obtain ⟨sa, sn, sc⟩ := sv
   have hbw : b < w.heap.size := by
    have := hA k _ hgetk 0 _ rfl
    simp only [World.cell?] at this
    cases hh : w.heap[b]? with
    | none => rw [hh] at this; cases this
    | some o => exact (Array.getElem?_eq_some_iff.1 hh).1
   have hbr : b < V.heap.size := Nat.lt_of_lt_of_le hbw hB.size
   have c0 := hA' 0 _ rfl
   have c1 := hA' 1 _ rfl
   have c2 := hA' 2 _ rfl
   have c3 := hA' 3 _ rfl
   have c4 := hA' 4 _ rfl
   have c5 := hA' 5 _ rfl
   have c6 := hA' 6 _ rfl
   have c7 := hA' 7 _ rfl
   rw [Nat.add_zero] at c0
   simp only at hsn hsl hbal hnum hkey c0 c1 c2 c3 c4 c5 c6 c7
   subst hsn
   go_wp2_with fail
   go_loopw [7] (fun i W => ∃ (c m : Nat) (vS : SV), i = .int .i64 c ∧ c ≤ d.slots.length ∧ m = (kept (d.slots.take c)).length ∧ Below V.heap.size V W ∧ V.heap.size < W.heap.size ∧
     CellsAt W V.heap.size 0 (accCells d vS) ∧ W.there V.heap.size 0 8 ∧ W.ownsRow (V.heap.size + 1) 57 8 (.slice vS.a vS.n vS.c) m (flatS (kept (d.slots.take c)))) (fun i _ => d.slots.length - (Go.RowKit.intOf i).toNat)
   case atStart =>
    refine ⟨0, _, ⟨none, 0, 0⟩, rfl, Nat.zero_le _, rfl, (Below.refl _ _).alloc (Nat.le_refl _) _, by simp, ?_, ?_, ?_⟩
    ·exact cells_new V (accCells d ⟨none, 0, 0⟩) 31
    ·exact there_new V (accCells d ⟨none, 0, 0⟩).toArray 31
    ·exact ⟨rfl, .inl ⟨rfl, rfl⟩⟩
   case round =>
    obtain ⟨c, m, vS, rfl, hc, rfl, hbW, hzW, hx, hth, hown⟩ := hrel
    have c7 := hbW.cell (p := ⟨b, o + k * 8 + 7, none⟩) hbr |>.trans c7
    by_cases hcl : c < d.slots.length
    ·have hcl' : (c : Int) < (d.slots.length : Int) := by omega
     obtain ⟨bs, os, rfl, hSl⟩ := hsl.resolve_left (by intro e; rw [e] at hcl; simp at hcl)
     have hBW : Below w.heap.size w wr := hB.trans (hbW.mono hB.size)
     have hce := (hSl.below hBW) c d.slots[c] (List.getElem?_eq_getElem hcl)
     have e0 := hce 0 _ rfl
     have e1 := hce 1 _ rfl
     have e2 := hce 2 _ rfl
     have e3 := hce 3 _ rfl
     have e4 := hce 4 _ rfl
     have e5 := hce 5 _ rfl
     have e6 := hce 6 _ rfl
     have e7 := hce 7 _ rfl
     have f5 : wr.cell? ⟨bs, os + c * 8 + 4 + 1, none⟩ = _ := e5
     have f6 : wr.cell? ⟨bs, os + c * 8 + 4 + 2, none⟩ = _ := e6
     have f7 : wr.cell? ⟨bs, os + c * 8 + 4 + 3, none⟩ = _ := e7
     rw [Nat.add_zero] at e0
     have hq := eqz d.slots[c].2 (hkey _ (List.getElem_mem hcl)).2
     unfold wd at hq
     by_cases h0 : d.slots[c].2 = 0
     ·have hk0 : Shut (d.slots[c].2 = 0) := h0
      rw [decide_eq_true h0] at hq
      clear h0
      go_wp2_with fail
      refine ⟨⟨c + 1, _, vS, by go_num, by omega, rfl, hbW, hzW, hx, hth, ?_⟩, ?_⟩
      ·rw [kept_skip d.slots c hcl hk0.out]
       exact hown
      ·simp [Go.RowKit.intOf]; omega
     ·have hk0 : Shut (¬ d.slots[c].2 = 0) := h0
      rw [decide_eq_false h0] at hq
      clear h0
      go_wp2_with fail
      obtain ⟨zB, hzB⟩ : ∃ zB, wr.drew.heap.size = zB := ⟨_, rfl⟩
      refine wp_meet2 (fun g n W => Below V.heap.size V W ∧ V.heap.size < W.heap.size ∧ CellsAt W V.heap.size 0 (accCells d ⟨some ⟨g, 0, none⟩, (kept (d.slots.take c)).length + 1, n⟩) ∧ W.there V.heap.size 0 8 ∧ W.ownsRow (V.heap.size + 1) 57 8 (.slice (some ⟨g, 0, none⟩) ((kept (d.slots.take c)).length + 1) n) ((kept (d.slots.take c)).length + 1) (flatS (kept (d.slots.take c)) ++ slotCells d.slots[c])) ?_
      apply Exists.intro
      apply And.intro
      ·refine wp_region_held_drew (S := fun W => W.cell? ⟨b, o + k * 8 + 7, none⟩ = some (.slice (some ⟨bs, os, none⟩) d.slots.length sc) ∧ CellsAt W bs (os + c * 8) (slotCells d.slots[c])) (by kernel_rfl) ⟨c7, hce.below (Below.refl _ _).drew⟩ (fun hH => ?_)
       refine take_d (i := 0) (d := some 46) (v := .pointer (some ⟨V.heap.size, 7, none⟩)) rfl rfl (by kernel_rfl) (by kernel_rfl) (by kernel_rfl) (fun _ _ _ h => by cases h.1) (Or.inl ⟨by rfl, fun W hW => ?_⟩) hH ?_
       ·clear hW hH
        go_simp
       simp only [Act.put, List.setIfInBounds_toArray, List.set_cons_zero, List.set_cons_succ]
       refine take_d (i := 2) (d := some 48) (v := .slice (some ⟨b, o, none⟩) ds.length cap) rfl rfl (by kernel_rfl) (by kernel_rfl) (by kernel_rfl) (fun _ _ _ h => by cases h.1) (Or.inl ⟨by rfl, fun W hW => ?_⟩) hH ?_
       ·clear hW hH
        go_simp
       simp only [Act.put, List.setIfInBounds_toArray, List.set_cons_zero, List.set_cons_succ]
       refine take_d (i := 3) (d := some 49) (v := .int .i64 (k : Int)) rfl rfl (by kernel_rfl) (by kernel_rfl) (by kernel_rfl) (fun _ _ _ h => by cases h.1) (Or.inl ⟨by rfl, fun W hW => ?_⟩) hH ?_
       ·clear hW hH
        go_simp
       simp only [Act.put, List.setIfInBounds_toArray, List.set_cons_zero, List.set_cons_succ]
       refine take_d (i := 4) (d := some 50) (v := .pointer (some ⟨b, o + k * 8, none⟩)) rfl rfl (by kernel_rfl) (by kernel_rfl) (by kernel_rfl) (fun _ _ _ h => by cases h.1) (Or.inl ⟨by rfl, fun W hW => ?_⟩) hH ?_
       ·clear hW hH
        go_simp
       simp only [Act.put, List.setIfInBounds_toArray, List.set_cons_zero, List.set_cons_succ]
       refine take_d (i := 5) (d := some 51) (v := .pointer (some ⟨b, o + k * 8 + 7, none⟩)) rfl rfl (by kernel_rfl) (by kernel_rfl) (by kernel_rfl) (fun _ _ _ h => by cases h.1) (Or.inl ⟨by rfl, fun W hW => ?_⟩) hH ?_
       ·clear hW hH
        go_simp
       simp only [Act.put, List.setIfInBounds_toArray, List.set_cons_zero, List.set_cons_succ]
       refine take_d (i := 6) (d := some 52) (v := .slice (some ⟨bs, os, none⟩) d.slots.length sc) rfl rfl (by kernel_rfl) (by kernel_rfl) (by kernel_rfl) (fun _ _ _ h => by cases h.1) (Or.inl ⟨by rfl, fun W hW => ?_⟩) hH ?_
       ·have k0 := hW.1
        clear hW hH
        go_simp
       simp only [Act.put, List.setIfInBounds_toArray, List.set_cons_zero, List.set_cons_succ]
       refine take_d (i := 7) (d := some 53) (v := .int .i64 (c : Int)) rfl rfl (by kernel_rfl) (by kernel_rfl) (by kernel_rfl) (fun _ _ _ h => by cases h.1) (Or.inl ⟨by rfl, fun W hW => ?_⟩) hH ?_
       ·clear hW hH
        go_simp
       simp only [Act.put, List.setIfInBounds_toArray, List.set_cons_zero, List.set_cons_succ]
       refine take_d (i := 8) (d := some 54) (v := .pointer (some ⟨bs, os + c * 8, none⟩)) rfl rfl (by kernel_rfl) (by kernel_rfl) (by kernel_rfl) (fun _ _ _ h => by cases h.1) (Or.inl ⟨by rfl, fun W hW => ?_⟩) hH ?_
       ·clear hW hH
        go_simp
       simp only [Act.put, List.setIfInBounds_toArray, List.set_cons_zero, List.set_cons_succ]
       refine take_d (i := 9) (d := some 55) (v := .agg (slotCells d.slots[c]).toArray) rfl rfl (by kernel_rfl) (by kernel_rfl) (by kernel_rfl) (fun _ _ _ h => by cases h.1) (Or.inl ⟨by rfl, fun W hW => ?_⟩) hH ?_
       ·have k0 := hW.2 0 _ rfl; have k1 := hW.2 1 _ rfl; have k2 := hW.2 2 _ rfl; have k3 := hW.2 3 _ rfl; have k4 := hW.2 4 _ rfl; have k5 := hW.2 5 _ rfl; have k6 := hW.2 6 _ rfl; have k7 := hW.2 7 _ rfl
        rw [Nat.add_zero] at k0
        clear hW hH
        unfold slotCells
        go_simp
       simp only [Act.put, List.setIfInBounds_toArray, List.set_cons_zero, List.set_cons_succ]
       obtain ⟨i57, z57, hi57, hz57, hs57, hb57, hzs57⟩ := info57
       have hkl : (kept (d.slots.take c)).length ≤ c := Nat.le_trans (List.length_filter_le _ _) (by simp; omega)
       have hbsV : bs < V.heap.size := by
        have hh := hSl c d.slots[c] (List.getElem?_eq_getElem hcl) 0 _ rfl
        simp only [World.cell?] at hh
        cases hq2 : w.heap[bs]? with
        | none => rw [hq2] at hh; cases hh
        | some oo => exact Nat.lt_of_lt_of_le (Array.getElem?_eq_some_iff.1 hq2).1 hB.size
       have hb1 : b < wr.drew.heap.size := Nat.lt_of_lt_of_le hbr hbW.size
       have hx1 : Xs wr.drew V d vS c := ⟨hbW.drew, hzW, hx.below (Below.refl _ _).drew, hth, hown⟩
       have hzC := hzB
       generalize wr.drew = W1 at hb1 hx1 hH hzC ⊢
       refine wpAnyH_ready (rs := [1, 10]) (by kernel_rfl) (by simp) ?_
       refine AllReadyH.cons rfl (fun K hK => ?_) (AllReadyH.cons rfl (fun K hK => ?_) AllReadyH.nil)
       ·skip
        have x7 := hx1.2.2.1 7 _ rfl
        rw [Nat.zero_add] at x7
        go_simp
        clear x7
        refine hK.out _ _ hH (fun hH => ?_)
        clear hK K
        refine wpAnyH_ready (rs := [10]) (by kernel_rfl) (by simp) ?_
        refine AllReadyH.cons rfl (fun K hK => ?_) AllReadyH.nil
        unfold slotCells
        go_simp
        have hb2 : Below W1.heap.size W1 (W1.alloc (.cells (slotCells d.slots[c]).toArray 57)) := (Below.refl _ _).alloc (Nat.le_refl _) _
        have hn2 := cells_new W1 (slotCells d.slots[c]) 57
        refine hK.out _ (W1.alloc (.cells (slotCells d.slots[c]).toArray 57)) ⟨(hb2.cell (p := ⟨b, o + k * 8 + 7, none⟩) hb1).trans hH.1, hH.2.below hb2⟩ (fun hH => ?_)
        clear hK K
        replace hx1 := (⟨hx1.1.trans (hb2.mono hx1.1.size), Nat.lt_of_lt_of_le hx1.2.1 hb2.size, hx1.2.2.1.below hb2, fun j hj => by
         rw [hb2.cell (p := ⟨V.heap.size, 0 + j, none⟩) hx1.2.1, hb2.frozen (p := ⟨V.heap.size, 0 + j, none⟩) hx1.2.1]; exact hx1.2.2.2.1 j hj, own_below hx1.2.2.2.2 hb2⟩ : Xs _ V d vS c)
        generalize hW2 : W1.alloc (.cells (slotCells d.slots[c]).toArray 57) = W2 at hx1 hn2 hb2 hH ⊢
        refine wpAnyH_ready (rs := [11]) (by kernel_rfl) (by simp) ?_
        refine AllReadyH.cons rfl (fun K hK => ?_) AllReadyH.nil
        rw [if_pos (by rfl)]
        refine wp_append_lies W2 _ _ 29 rfl (V.heap.size + 1) 57 i57 z57 8 64 ((q_underlying 29).trans Tryz.underlying29) hi57 hz57 hs57 hb57 hzs57 (by omega) _ _ _ rfl hx1.2.2.2.2 ⟨zB, 0, none⟩ 1 1 (slotCells d.slots[c]) rfl rfl (fun j v hj => by rw [Addr.add_mid, ← hzC]; exact hn2 j v hj) (fun v hv => flatS_one [d.slots[c]] v (by rw [flatS, flatS, List.append_nil]; exact hv)) (by omega) (by have := hkl; simp [maxLen]; omega) (by omega) (Nat.succ_le_of_lt hx1.2.1) _ rfl ?_
        intro g n W3 hown3 hgrow hat hlt3
        have hb3 : Below (V.heap.size + 1) W2 W3 := gb_to_below hgrow (own_ge hx1.2.2.2.2) (Nat.succ_le_of_lt hx1.2.1)
        have hx3 : CellsAt W3 V.heap.size 0 (accCells d vS) := fun j v hj => (hb3.cell (p := ⟨V.heap.size, 0 + j, none⟩) (Nat.lt_succ_self _)).trans (hx1.2.2.1 j v hj)
        have ht3 : W3.there V.heap.size 0 8 := fun j hj => by
         rw [hb3.cell (p := ⟨V.heap.size, 0 + j, none⟩) (Nat.lt_succ_self _), hb3.frozen (p := ⟨V.heap.size, 0 + j, none⟩) (Nat.lt_succ_self _)]; exact hx1.2.2.2.1 j hj
        refine hK.out _ _ ⟨(hb3.cell (p := ⟨b, o + k * 8 + 7, none⟩) (by show b < _; omega)).trans hH.1, fun j v hj => (hb3.cell (p := ⟨bs, os + c * 8 + j, none⟩) (by show bs < _; omega)).trans (hH.2 j v hj)⟩ (fun hH => ?_)
        clear hK K
        refine take_d (i := 12) (d := some 58) (v := .pointer (some ⟨V.heap.size, 7, none⟩)) rfl rfl (by kernel_rfl) (by kernel_rfl) (by kernel_rfl) (fun _ _ _ h => by cases h.1) (Or.inl ⟨by rfl, fun W hW => ?_⟩) hH ?_
        ·clear hW hH
         go_simp
        simp only [Act.put, List.setIfInBounds_toArray]
        refine wpAnyH_ready (rs := [13]) (by kernel_rfl) (by simp) ?_
        refine AllReadyH.cons rfl (fun K hK => ?_) AllReadyH.nil
        have x7 := hx3 7 _ rfl
        have y7 := (ht3 7 (by omega)).2
        rw [Nat.zero_add] at x7 y7
        go_simp
        clear x7 y7
        refine hK.out _ _ ⟨(World.cell?_setCell_other _ _ _ _ (by intro e; have e' := congrArg Addr.block e; simp at e'; omega)).trans hH.1, fun j v hj => (World.cell?_setCell_other _ _ _ _ (by intro e; have e' := congrArg Addr.block e; simp at e'; omega)).trans (hH.2 j v hj)⟩ (fun hH => ?_)
        clear hK K
        refine wpAnyH_done (by kernel_rfl) ?_ _
        refine ⟨rfl, g, n, rfl, ?_, ?_, ?_, ?_, ?_⟩
        ·exact (hx1.1.trans (hb3.mono (by omega))).setCell (p := ⟨V.heap.size, 7, none⟩) (Nat.le_refl _) _
        ·have := hb3.size; have := hx1.2.1; simp [World.setCell]; omega
        ·exact cells_setAt (i := 7) hx3 (by show 7 < 8; omega)
        ·exact World.there_setCells ht3 V.heap.size 7 [_]
        ·exact own_set hown3 _ _ (Nat.lt_succ_self _)
       ·skip
        unfold slotCells
        go_simp
        have hb2 : Below W1.heap.size W1 (W1.alloc (.cells (slotCells d.slots[c]).toArray 57)) := (Below.refl _ _).alloc (Nat.le_refl _) _
        have hn2 := cells_new W1 (slotCells d.slots[c]) 57
        refine hK.out _ (W1.alloc (.cells (slotCells d.slots[c]).toArray 57)) ⟨(hb2.cell (p := ⟨b, o + k * 8 + 7, none⟩) hb1).trans hH.1, hH.2.below hb2⟩ (fun hH => ?_)
        clear hK K
        replace hx1 := (⟨hx1.1.trans (hb2.mono hx1.1.size), Nat.lt_of_lt_of_le hx1.2.1 hb2.size, hx1.2.2.1.below hb2, fun j hj => by
         rw [hb2.cell (p := ⟨V.heap.size, 0 + j, none⟩) hx1.2.1, hb2.frozen (p := ⟨V.heap.size, 0 + j, none⟩) hx1.2.1]; exact hx1.2.2.2.1 j hj, own_below hx1.2.2.2.2 hb2⟩ : Xs _ V d vS c)
        generalize hW2 : W1.alloc (.cells (slotCells d.slots[c]).toArray 57) = W2 at hx1 hn2 hb2 hH ⊢
        refine wpAnyH_ready (rs := [1]) (by kernel_rfl) (by simp) ?_
        refine AllReadyH.cons rfl (fun K hK => ?_) AllReadyH.nil
        have x7 := hx1.2.2.1 7 _ rfl
        rw [Nat.zero_add] at x7
        go_simp
        clear x7
        refine hK.out _ _ hH (fun hH => ?_)
        clear hK K
        refine wpAnyH_ready (rs := [11]) (by kernel_rfl) (by simp) ?_
        refine AllReadyH.cons rfl (fun K hK => ?_) AllReadyH.nil
        rw [if_pos (by rfl)]
        refine wp_append_lies W2 _ _ 29 rfl (V.heap.size + 1) 57 i57 z57 8 64 ((q_underlying 29).trans Tryz.underlying29) hi57 hz57 hs57 hb57 hzs57 (by omega) _ _ _ rfl hx1.2.2.2.2 ⟨zB, 0, none⟩ 1 1 (slotCells d.slots[c]) rfl rfl (fun j v hj => by rw [Addr.add_mid, ← hzC]; exact hn2 j v hj) (fun v hv => flatS_one [d.slots[c]] v (by rw [flatS, flatS, List.append_nil]; exact hv)) (by omega) (by have := hkl; simp [maxLen]; omega) (by omega) (Nat.succ_le_of_lt hx1.2.1) _ rfl ?_
        intro g n W3 hown3 hgrow hat hlt3
        have hb3 : Below (V.heap.size + 1) W2 W3 := gb_to_below hgrow (own_ge hx1.2.2.2.2) (Nat.succ_le_of_lt hx1.2.1)
        have hx3 : CellsAt W3 V.heap.size 0 (accCells d vS) := fun j v hj => (hb3.cell (p := ⟨V.heap.size, 0 + j, none⟩) (Nat.lt_succ_self _)).trans (hx1.2.2.1 j v hj)
        have ht3 : W3.there V.heap.size 0 8 := fun j hj => by
         rw [hb3.cell (p := ⟨V.heap.size, 0 + j, none⟩) (Nat.lt_succ_self _), hb3.frozen (p := ⟨V.heap.size, 0 + j, none⟩) (Nat.lt_succ_self _)]; exact hx1.2.2.2.1 j hj
        refine hK.out _ _ ⟨(hb3.cell (p := ⟨b, o + k * 8 + 7, none⟩) (by show b < _; omega)).trans hH.1, fun j v hj => (hb3.cell (p := ⟨bs, os + c * 8 + j, none⟩) (by show bs < _; omega)).trans (hH.2 j v hj)⟩ (fun hH => ?_)
        clear hK K
        refine take_d (i := 12) (d := some 58) (v := .pointer (some ⟨V.heap.size, 7, none⟩)) rfl rfl (by kernel_rfl) (by kernel_rfl) (by kernel_rfl) (fun _ _ _ h => by cases h.1) (Or.inl ⟨by rfl, fun W hW => ?_⟩) hH ?_
        ·clear hW hH
         go_simp
        simp only [Act.put, List.setIfInBounds_toArray]
        refine wpAnyH_ready (rs := [13]) (by kernel_rfl) (by simp) ?_
        refine AllReadyH.cons rfl (fun K hK => ?_) AllReadyH.nil
        have x7 := hx3 7 _ rfl
        have y7 := (ht3 7 (by omega)).2
        rw [Nat.zero_add] at x7 y7
        go_simp
        clear x7 y7
        refine hK.out _ _ ⟨(World.cell?_setCell_other _ _ _ _ (by intro e; have e' := congrArg Addr.block e; simp at e'; omega)).trans hH.1, fun j v hj => (World.cell?_setCell_other _ _ _ _ (by intro e; have e' := congrArg Addr.block e; simp at e'; omega)).trans (hH.2 j v hj)⟩ (fun hH => ?_)
        clear hK K
        refine wpAnyH_done (by kernel_rfl) ?_ _
        refine ⟨rfl, g, n, rfl, ?_, ?_, ?_, ?_, ?_⟩
        ·exact (hx1.1.trans (hb3.mono (by omega))).setCell (p := ⟨V.heap.size, 7, none⟩) (Nat.le_refl _) _
        ·have := hb3.size; have := hx1.2.1; simp [World.setCell]; omega
        ·exact cells_setAt (i := 7) hx3 (by show 7 < 8; omega)
        ·exact World.there_setCells ht3 V.heap.size 7 [_]
        ·exact own_set hown3 _ _ (Nat.lt_succ_self _)
      ·rintro g n W ⟨hw1, hw2, hw3, hw4, hw5⟩
       go_wp2
       refine ⟨⟨c + 1, _, ⟨some ⟨g, 0, none⟩, (kept (d.slots.take c)).length + 1, n⟩, by go_num, by omega, rfl, hw1, hw2, hw3, hw4, ?_⟩, ?_⟩
       ·rw [kept_snoc d.slots c hcl hk0.out, List.length_append, flatS_append]
        have : flatS [d.slots[c]] = slotCells d.slots[c] := by rw [flatS, flatS, List.append_nil]
        rw [this]
        exact hw5
       ·simp [Go.RowKit.intOf]; omega
    ·have hc' : c = d.slots.length := by omega
     subst hc'
     go_wp2_with fail
     rw [List.take_length] at hown
     have hYW := hY.keep hbW
     obtain ⟨i31, z31, hi31, hz31, hs31, hb31, hzs31⟩ := info31
     obtain ⟨zB, hzB⟩ : ∃ zB, wr.drew.heap.size = zB := ⟨_, rfl⟩
     refine wp_meet2 (fun g n W => Ys w W w0.heap.size ds (k + 1) ⟨some ⟨g, 0, none⟩, k + 1, n⟩ (es ++ [(kp d, vS)])) ?_
     apply Exists.intro
     apply And.intro
     ·refine wp_region_held_drew (S := fun W => CellsAt W V.heap.size 0 (accCells d vS)) (by kernel_rfl) (hx.below (Below.refl _ _).drew) (fun hH => ?_)
      refine take_d (i := 0) (d := some 59) (v := .pointer (some ⟨w0.heap.size, 0, none⟩)) rfl rfl (by kernel_rfl) (by kernel_rfl) (by kernel_rfl) (fun _ _ _ h => by cases h.1) (Or.inl ⟨by rfl, fun W hW => ?_⟩) hH ?_
      ·clear hW hH
       go_simp
      simp only [Act.put, List.setIfInBounds_toArray, List.set_cons_zero, List.set_cons_succ]
      refine take_d (i := 1) (d := some 60) (v := .pointer (some ⟨w0.heap.size, 0, none⟩)) rfl rfl (by kernel_rfl) (by kernel_rfl) (by kernel_rfl) (fun _ _ _ h => by cases h.1) (Or.inl ⟨by rfl, fun W hW => ?_⟩) hH ?_
      ·clear hW hH
       go_simp
      simp only [Act.put, List.setIfInBounds_toArray, List.set_cons_zero, List.set_cons_succ]
      refine take_d (i := 2) (d := some 61) (v := .pointer (some ⟨w0.heap.size, 0, none⟩)) rfl rfl (by kernel_rfl) (by kernel_rfl) (by kernel_rfl) (fun _ _ _ h => by cases h.1) (Or.inl ⟨by rfl, fun W hW => ?_⟩) hH ?_
      ·clear hW hH
       go_simp
      simp only [Act.put, List.setIfInBounds_toArray, List.set_cons_zero, List.set_cons_succ]
      refine take_d (i := 3) (d := some 62) (v := .pointer (some ⟨w0.heap.size, 0, none⟩)) rfl rfl (by kernel_rfl) (by kernel_rfl) (by kernel_rfl) (fun _ _ _ h => by cases h.1) (Or.inl ⟨by rfl, fun W hW => ?_⟩) hH ?_
      ·clear hW hH
       go_simp
      simp only [Act.put, List.setIfInBounds_toArray, List.set_cons_zero, List.set_cons_succ]
      refine take_d (i := 5) (d := some 64) (v := .agg (accCells d vS).toArray) rfl rfl (by kernel_rfl) (by kernel_rfl) (by kernel_rfl) (fun _ _ _ h => by cases h.1) (Or.inl ⟨by rfl, fun W hW => ?_⟩) hH ?_
      ·have k0 := hW 0 _ rfl; have k1 := hW 1 _ rfl; have k2 := hW 2 _ rfl; have k3 := hW 3 _ rfl; have k4 := hW 4 _ rfl; have k5 := hW 5 _ rfl; have k6 := hW 6 _ rfl; have k7 := hW 7 _ rfl
       simp only [Nat.zero_add] at k0 k1 k2 k3 k4 k5 k6 k7
       clear hW hH
       unfold accCells
       go_simp
      simp only [Act.put, List.setIfInBounds_toArray, List.set_cons_zero, List.set_cons_succ]
      have hzC := hzB
      have hY1 : Ys w wr.drew w0.heap.size ds k vA es := hYW.keep (Below.refl _ _).drew
      have ho1 : wr.drew.ownsRow (V.heap.size + 1) 57 8 (.slice vS.a vS.n vS.c) (kept d.slots).length (flatS (kept d.slots)) := hown
      have hz1 : V.heap.size < wr.drew.heap.size := hzW
      have hAV : ∀ g, (Value.slice vA.a vA.n vA.c).ownBlock = some g → g < V.heap.size := own_lt hY.own
      have hpV := hY.lt
      generalize wr.drew = W1 at hH hzC hY1 ho1 hz1 ⊢
      refine wpAnyH_ready (rs := [4, 6]) (by kernel_rfl) (by simp) ?_
      refine AllReadyH.cons rfl (fun K hK => ?_) (AllReadyH.cons rfl (fun K hK => ?_) AllReadyH.nil)
      ·skip
       have x7 := hY1.cell
       go_simp
       clear x7
       refine hK.out _ _ hH (fun hH => ?_)
       clear hK K
       refine wpAnyH_ready (rs := [6]) (by kernel_rfl) (by simp) ?_
       refine AllReadyH.cons rfl (fun K hK => ?_) AllReadyH.nil
       unfold accCells
       go_simp
       have hb2 : Below W1.heap.size W1 (W1.alloc (.cells (accCells d vS).toArray 31)) := (Below.refl _ _).alloc (Nat.le_refl _) _
       have hn2 := cells_new W1 (accCells d vS) 31
       refine hK.out _ (W1.alloc (.cells (accCells d vS).toArray 31)) (CellsAt.below hH hb2) (fun hH => ?_)
       clear hK K
       replace hY1 := hY1.keep hb2
       replace ho1 := own_below ho1 hb2
       replace hz1 := Nat.lt_of_lt_of_le hz1 hb2.size
       generalize hW2 : W1.alloc (.cells (accCells d vS).toArray 31) = W2 at hY1 ho1 hz1 hn2 hb2 hH ⊢
       refine wpAnyH_ready (rs := [7]) (by kernel_rfl) (by simp) ?_
       refine AllReadyH.cons rfl (fun K hK => ?_) AllReadyH.nil
       rw [if_pos (by rfl)]
       refine wp_append_lies W2 _ _ 22 rfl (w0.heap.size + 1) 31 i31 z31 8 88 ((q_underlying 22).trans Tryz.underlying22) hi31 hz31 hs31 hb31 hzs31 (by omega) _ _ _ rfl hY1.own ⟨zB, 0, none⟩ 1 1 (accCells d vS) rfl rfl (fun j v hj => by rw [Addr.add_mid, ← hzC]; exact hn2 j v hj) (fun v hv => acc_one d vS v hv) (by omega) (by simp [maxLen]; omega) (by omega) (Nat.succ_le_of_lt hY1.lt) _ rfl ?_
       intro g n W3 hown3 hgrow hat hlt3
       have hb3 : Below (w0.heap.size + 1) W2 W3 := gb_to_below hgrow (own_ge hY1.own) (Nat.succ_le_of_lt hY1.lt)
       have hx3 : CellsAt W3 V.heap.size 0 (accCells d vS) := fun j v hj => (hgrow.cell_far ⟨V.heap.size, 0 + j, none⟩ hz1 (fun e => by have := hAV _ e.symm; exact Nat.lt_irrefl _ this)).trans (hH j v hj)
       have ho3 := own_grown ho1 hgrow (fun g' h1 h2 => by have := own_ge ho1 g' h1; have := hAV g' h2; omega)
       refine hK.out _ _ hx3 (fun hH => ?_)
       clear hK K
       refine take_d (i := 8) (d := some 67) (v := .pointer (some ⟨w0.heap.size, 0, none⟩)) rfl rfl (by kernel_rfl) (by kernel_rfl) (by kernel_rfl) (fun _ _ _ h => by cases h.1) (Or.inl ⟨by rfl, fun W hW => ?_⟩) hH ?_
       ·clear hW hH
        go_simp
       simp only [Act.put, List.setIfInBounds_toArray]
       refine take_d (i := 9) (d := some 68) (v := .pointer (some ⟨w0.heap.size, 0, none⟩)) rfl rfl (by kernel_rfl) (by kernel_rfl) (by kernel_rfl) (fun _ _ _ h => by cases h.1) (Or.inl ⟨by rfl, fun W hW => ?_⟩) hH ?_
       ·clear hW hH
        go_simp
       simp only [Act.put]
       refine wpAnyH_ready (rs := [10]) (by kernel_rfl) (by simp) ?_
       refine AllReadyH.cons rfl (fun K hK => ?_) AllReadyH.nil
       have x7 := (hb3.cell (p := ⟨w0.heap.size, 0, none⟩) (Nat.lt_succ_self _)).trans hY1.cell
       have y7 := (hb3.frozen (p := ⟨w0.heap.size, 0, none⟩) (Nat.lt_succ_self _)).trans hY1.fz
       go_simp
       refine hK.out _ _ (fun j v hj => (World.cell?_setCell_other _ _ _ _ (by intro e; have e' := congrArg Addr.block e; simp at e'; omega)).trans (hH j v hj)) (fun hH => ?_)
       clear hK K
       refine wpAnyH_done (by kernel_rfl) ?_ _
       refine ⟨rfl, g, n, rfl, ?_⟩
       have hgk : ds[k] = (d, _) := Option.some.inj ((List.getElem?_eq_getElem hlt).symm.trans hgetk)
       have hsz := hgrow.size
       have hlt1 := hY1.lt
       have hlo := hY1.lo
       refine ⟨?_, hlo, ?_, ?_, ?_, ?_, ?_, ?_, ?_⟩
       ·exact (hY1.below.trans (hb3.mono (by omega))).setCell (p := ⟨w0.heap.size, 0, none⟩) hlo _
       ·simp [World.setCell]; omega
       ·have hc1 : CellsAt W3 w0.heap.size 0 [.slice vA.a vA.n vA.c] := fun j v hj => by
         have e0 : j = 0 := by have := (List.getElem?_eq_some_iff.1 hj).1; simpa using this
         subst e0
         cases hj
         exact x7
        exact cells_setAt (i := 0) (u := .slice (some ⟨g, 0, none⟩) (k + 1) n) hc1 (by simp) 0 _ rfl
       ·intro j v hj
        rw [World.cell?_setCell_other _ _ _ _ (by intro e; have e' := congrArg Addr.off e; dsimp only at e'; omega)]
        exact (hb3.cell (p := ⟨w0.heap.size, 1 + j, none⟩) (Nat.lt_succ_self _)).trans (hY1.rest j v hj)
       ·rw [World.frozen?_setCell]; exact y7
       ·have e : flatA (es ++ [(kp d, vS)]) = flatA es ++ accCells d vS := by rw [flatA_append, flatA, flatA, List.append_nil]; rfl
        rw [e]
        exact own_set hown3 _ _ (Nat.lt_succ_self _)
       ·rw [← List.take_append_getElem hlt, List.map_append, List.map_append, hY1.lst, hgk]; rfl
       ·intro p hp
        rcases List.mem_append.1 hp with hp | hp
        ·refine ⟨own_set (own_grown (hY1.sl p hp).1 hgrow (hY1.sl p hp).2) _ _ (Nat.lt_succ_self _), fun g' h1 h2 => ?_⟩
         have e : g = g' := Option.some.inj h2
         rcases hat with hat | hat
         ·exact (hY1.sl p hp).2 g' h1 (by rw [← e]; exact hat)
         ·have := own_lt (hY1.sl p hp).1 g' h1
          omega
        ·rw [List.mem_singleton.1 hp]
         refine ⟨own_set (own_base ho3 (by omega)) _ _ (Nat.lt_succ_self _), fun g' h1 h2 => ?_⟩
         have e : g = g' := Option.some.inj h2
         rcases hat with hat | hat
         ·have := hAV g hat
          have := own_ge ho1 g' h1
          omega
         ·have := own_lt ho1 g' h1
          omega
      ·skip
       unfold accCells
       go_simp
       have hb2 : Below W1.heap.size W1 (W1.alloc (.cells (accCells d vS).toArray 31)) := (Below.refl _ _).alloc (Nat.le_refl _) _
       have hn2 := cells_new W1 (accCells d vS) 31
       refine hK.out _ (W1.alloc (.cells (accCells d vS).toArray 31)) (CellsAt.below hH hb2) (fun hH => ?_)
       clear hK K
       replace hY1 := hY1.keep hb2
       replace ho1 := own_below ho1 hb2
       replace hz1 := Nat.lt_of_lt_of_le hz1 hb2.size
       generalize hW2 : W1.alloc (.cells (accCells d vS).toArray 31) = W2 at hY1 ho1 hz1 hn2 hb2 hH ⊢
       refine wpAnyH_ready (rs := [4]) (by kernel_rfl) (by simp) ?_
       refine AllReadyH.cons rfl (fun K hK => ?_) AllReadyH.nil
       have x7 := hY1.cell
       go_simp
       clear x7
       refine hK.out _ _ hH (fun hH => ?_)
       clear hK K
       refine wpAnyH_ready (rs := [7]) (by kernel_rfl) (by simp) ?_
       refine AllReadyH.cons rfl (fun K hK => ?_) AllReadyH.nil
       rw [if_pos (by rfl)]
       refine wp_append_lies W2 _ _ 22 rfl (w0.heap.size + 1) 31 i31 z31 8 88 ((q_underlying 22).trans Tryz.underlying22) hi31 hz31 hs31 hb31 hzs31 (by omega) _ _ _ rfl hY1.own ⟨zB, 0, none⟩ 1 1 (accCells d vS) rfl rfl (fun j v hj => by rw [Addr.add_mid, ← hzC]; exact hn2 j v hj) (fun v hv => acc_one d vS v hv) (by omega) (by simp [maxLen]; omega) (by omega) (Nat.succ_le_of_lt hY1.lt) _ rfl ?_
       intro g n W3 hown3 hgrow hat hlt3
       have hb3 : Below (w0.heap.size + 1) W2 W3 := gb_to_below hgrow (own_ge hY1.own) (Nat.succ_le_of_lt hY1.lt)
       have hx3 : CellsAt W3 V.heap.size 0 (accCells d vS) := fun j v hj => (hgrow.cell_far ⟨V.heap.size, 0 + j, none⟩ hz1 (fun e => by have := hAV _ e.symm; exact Nat.lt_irrefl _ this)).trans (hH j v hj)
       have ho3 := own_grown ho1 hgrow (fun g' h1 h2 => by have := own_ge ho1 g' h1; have := hAV g' h2; omega)
       refine hK.out _ _ hx3 (fun hH => ?_)
       clear hK K
       refine take_d (i := 8) (d := some 67) (v := .pointer (some ⟨w0.heap.size, 0, none⟩)) rfl rfl (by kernel_rfl) (by kernel_rfl) (by kernel_rfl) (fun _ _ _ h => by cases h.1) (Or.inl ⟨by rfl, fun W hW => ?_⟩) hH ?_
       ·clear hW hH
        go_simp
       simp only [Act.put, List.setIfInBounds_toArray]
       refine take_d (i := 9) (d := some 68) (v := .pointer (some ⟨w0.heap.size, 0, none⟩)) rfl rfl (by kernel_rfl) (by kernel_rfl) (by kernel_rfl) (fun _ _ _ h => by cases h.1) (Or.inl ⟨by rfl, fun W hW => ?_⟩) hH ?_
       ·clear hW hH
        go_simp
       simp only [Act.put]
       refine wpAnyH_ready (rs := [10]) (by kernel_rfl) (by simp) ?_
       refine AllReadyH.cons rfl (fun K hK => ?_) AllReadyH.nil
       have x7 := (hb3.cell (p := ⟨w0.heap.size, 0, none⟩) (Nat.lt_succ_self _)).trans hY1.cell
       have y7 := (hb3.frozen (p := ⟨w0.heap.size, 0, none⟩) (Nat.lt_succ_self _)).trans hY1.fz
       go_simp
       refine hK.out _ _ (fun j v hj => (World.cell?_setCell_other _ _ _ _ (by intro e; have e' := congrArg Addr.block e; simp at e'; omega)).trans (hH j v hj)) (fun hH => ?_)
       clear hK K
       refine wpAnyH_done (by kernel_rfl) ?_ _
       refine ⟨rfl, g, n, rfl, ?_⟩
       have hgk : ds[k] = (d, _) := Option.some.inj ((List.getElem?_eq_getElem hlt).symm.trans hgetk)
       have hsz := hgrow.size
       have hlt1 := hY1.lt
       have hlo := hY1.lo
       refine ⟨?_, hlo, ?_, ?_, ?_, ?_, ?_, ?_, ?_⟩
       ·exact (hY1.below.trans (hb3.mono (by omega))).setCell (p := ⟨w0.heap.size, 0, none⟩) hlo _
       ·simp [World.setCell]; omega
       ·have hc1 : CellsAt W3 w0.heap.size 0 [.slice vA.a vA.n vA.c] := fun j v hj => by
         have e0 : j = 0 := by have := (List.getElem?_eq_some_iff.1 hj).1; simpa using this
         subst e0
         cases hj
         exact x7
        exact cells_setAt (i := 0) (u := .slice (some ⟨g, 0, none⟩) (k + 1) n) hc1 (by simp) 0 _ rfl
       ·intro j v hj
        rw [World.cell?_setCell_other _ _ _ _ (by intro e; have e' := congrArg Addr.off e; dsimp only at e'; omega)]
        exact (hb3.cell (p := ⟨w0.heap.size, 1 + j, none⟩) (Nat.lt_succ_self _)).trans (hY1.rest j v hj)
       ·rw [World.frozen?_setCell]; exact y7
       ·have e : flatA (es ++ [(kp d, vS)]) = flatA es ++ accCells d vS := by rw [flatA_append, flatA, flatA, List.append_nil]; rfl
        rw [e]
        exact own_set hown3 _ _ (Nat.lt_succ_self _)
       ·rw [← List.take_append_getElem hlt, List.map_append, List.map_append, hY1.lst, hgk]; rfl
       ·intro p hp
        rcases List.mem_append.1 hp with hp | hp
        ·refine ⟨own_set (own_grown (hY1.sl p hp).1 hgrow (hY1.sl p hp).2) _ _ (Nat.lt_succ_self _), fun g' h1 h2 => ?_⟩
         have e : g = g' := Option.some.inj h2
         rcases hat with hat | hat
         ·exact (hY1.sl p hp).2 g' h1 (by rw [← e]; exact hat)
         ·have := own_lt (hY1.sl p hp).1 g' h1
          omega
        ·rw [List.mem_singleton.1 hp]
         refine ⟨own_set (own_base ho3 (by omega)) _ _ (Nat.lt_succ_self _), fun g' h1 h2 => ?_⟩
         have e : g = g' := Option.some.inj h2
         rcases hat with hat | hat
         ·have := hAV g hat
          have := own_ge ho1 g' h1
          omega
         ·have := own_lt ho1 g' h1
          omega
     ·intro g n W hW
      go_wp2
      refine ⟨⟨k + 1, _, _, by go_num, by omega, hW⟩, ?_⟩
      simp [Go.RowKit.intOf]; omega
  ·have hk' : k = ds.length := by omega
   subst hk'
   go_wp2_with fail
   simp [bodyPost, results, Tryz.results9, go_sem]
   exact ⟨_, _, hY⟩
end Go.Mark
