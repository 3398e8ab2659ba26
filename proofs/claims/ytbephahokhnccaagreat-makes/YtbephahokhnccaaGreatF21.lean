/-
 The document's Accounts (14).
-/
import Derived.Test.YtbephahokhnccaaGreatXG4toF14
import Derived.Deep.RegionHeldLaw
namespace Go.Mark
open Go.RowKit Go.Proofs
/-- the block of a slice -/
abbrev SV.blk (s : SV) : Option Nat := (Value.slice s.a s.n s.c).ownBlock
/-- an account at hand, whose slots lie in a row of its own -/
structure Xr (V W : World) (d : AccD) (vS : SV) (ls : List (Nat × Nat)) : Prop where
 below : Below V.heap.size V W
 lt : V.heap.size < W.heap.size
 cells : CellsAt W V.heap.size 0 (accCells d vS)
 th : W.there V.heap.size 0 8
 own : W.ownsRow (V.heap.size + 1) 57 8 (.slice vS.a vS.n vS.c) ls.length (flatS ls)
theorem Xr.keep {V W W' : World} {d : AccD} {vS : SV} {ls : List (Nat × Nat)} (h : Xr V W d vS ls) (hb : Below W.heap.size W W') : Xr V W' d vS ls :=
 ⟨h.below.trans (hb.mono h.below.size), Nat.lt_of_lt_of_le h.lt hb.size, h.cells.below hb, fun j hj => by
  rw [hb.cell (p := ⟨V.heap.size, 0 + j, none⟩) h.lt, hb.frozen (p := ⟨V.heap.size, 0 + j, none⟩) h.lt]; exact h.th j hj, own_below h.own hb⟩
theorem Xr.put {V W : World} {d : AccD} {g n cap : Nat} {ls : List (Nat × Nat)} (h : Xr V W d ⟨some ⟨g, 0, none⟩, n, cap⟩ ls) (hl : ls.length = n) (i : Nat) (p : Nat × Nat) (hi : i < ls.length) : Xr V (W.setCells g (i * 8) (slotCells p)) d ⟨some ⟨g, 0, none⟩, n, cap⟩ (ls.set i p) := by
 have ho := h.own
 rw [hl] at ho
 have h1 := own_put (slotCells p) W (flatS ls) (i * 8) ho
 have hg := own_ge ho g rfl
 rw [flatS_put ls i p hi] at h1
 have hb : Below (V.heap.size + 1) W (W.setCells g (i * 8) (slotCells p)) := gb_to_below h1.2 (fun g' e => by cases e; exact hg) h.lt
 refine ⟨h.below.trans (hb.mono (Nat.le_succ _)), Nat.lt_of_lt_of_le h.lt h1.2.size, ?_, ?_, ?_⟩
 ·exact fun j v hj => (hb.cell (p := ⟨V.heap.size, 0 + j, none⟩) (Nat.lt_succ_self _)).trans (h.cells j v hj)
 ·intro j hj
  rw [hb.cell (p := ⟨V.heap.size, 0 + j, none⟩) (Nat.lt_succ_self _), hb.frozen (p := ⟨V.heap.size, 0 + j, none⟩) (Nat.lt_succ_self _)]; exact h.th j hj
 ·rw [List.length_set, hl]; exact h1.1
/-- what came out of the first k accounts -/
structure Ro (w W : World) (es : List (AccD × SV)) (vO : SV) (os : List (AccD × SV)) (k : Nat) : Prop where
 below : Below w.heap.size w W
 num : os.length = k
 own : W.ownsRow w.heap.size 31 8 (.slice vO.a vO.n vO.c) k (flatA os)
 sl : ∀ p ∈ os, W.ownsRow w.heap.size 57 8 (.slice p.2.a p.2.n p.2.c) p.1.slots.length (flatS p.1.slots)
 far : ∀ p ∈ os, ∀ g, p.2.blk = some g → vO.blk ≠ some g
 apart : os.Pairwise fun p q => ∀ g, p.2.blk = some g → q.2.blk ≠ some g
 perm : (os.map (·.1)).Perm ((es.take k).map fun p => sK p.1)
 up : Up (fun p => p.1.id) os
theorem Ro.keep {w W W' : World} {es : List (AccD × SV)} {vO : SV} {os : List (AccD × SV)} {k : Nat} (h : Ro w W es vO os k) (hb : Below W.heap.size W W') : Ro w W' es vO os k :=
 ⟨h.below.trans (hb.mono h.below.size), h.num, own_below h.own hb, fun p hp => own_below (h.sl p hp) hb, h.far, h.apart, h.perm, h.up⟩
/-- the lists that a telling hands out -/
structure Lists (B : Nat) (W : World) (v : SV) (os : List (AccD × SV)) : Prop where
 own : W.ownsRow B 31 8 (.slice v.a v.n v.c) os.length (flatA os)
 sl : ∀ p ∈ os, W.ownsRow B 57 8 (.slice p.2.a p.2.n p.2.c) p.1.slots.length (flatS p.1.slots)
 far : ∀ p ∈ os, ∀ g, p.2.blk = some g → v.blk ≠ some g
 apart : os.Pairwise fun p q => ∀ g, p.2.blk = some g → q.2.blk ≠ some g
/-- what came out, while the last of it goes down to its place -/
structure Rq (w W : World) (g k n : Nat) (l m : List (AccD × SV)) : Prop where
 below : Below w.heap.size w W
 own : W.ownsRow w.heap.size 31 8 (.slice (some ⟨g, 0, none⟩) (k + 1) n) (k + 1) (flatA l)
 sl : ∀ p ∈ m, W.ownsRow w.heap.size 57 8 (.slice p.2.a p.2.n p.2.c) p.1.slots.length (flatS p.1.slots)
theorem Rq.keep {w W W' : World} {g k n : Nat} {l m : List (AccD × SV)} (h : Rq w W g k n l m) (hb : Below W.heap.size W W') : Rq w W' g k n l m :=
 ⟨h.below.trans (hb.mono h.below.size), own_below h.own hb, fun p hp => own_below (h.sl p hp) hb⟩
theorem Rq.put {w W : World} {g k n : Nat} {l m : List (AccD × SV)} (h : Rq w W g k n l m) (i : Nat) (p : AccD × SV) (hi : i < l.length) (hf : ∀ p ∈ m, ∀ g', p.2.blk = some g' → (SV.mk (some ⟨g, 0, none⟩) (k + 1) n).blk ≠ some g') : Rq w (W.setCells g (i * 8) (accCells p.1 p.2)) g k n (l.set i p) m := by
 have h1 := own_put (accCells p.1 p.2) W (flatA l) (i * 8) h.own
 have hg := own_ge h.own g rfl
 rw [flatA_put l i p hi] at h1
 have hb : Below w.heap.size W (W.setCells g (i * 8) (accCells p.1 p.2)) := gb_to_below h1.2 (fun g' e => by cases e; exact hg) h.below.size
 exact ⟨h.below.trans hb, h1.1, fun q hq => own_grown (h.sl q hq) h1.2 (hf q hq)⟩
theorem told_of {es os : List (AccD × SV)} (h : (os.map (·.1)).Perm (es.map fun p => sK p.1)) (hu : Up (fun p => p.1.id) os) : os.map (·.1) = told (es.map (·.1)) := by
 refine srt_unique (f := fun d : AccD => d.id) (h.trans ?_) ?_
 ·rw [List.map_map]; exact .refl _
 ·exact List.pairwise_map.2 hu
set_option maxRecDepth 100000 in
set_option maxHeartbeats 8000000 in
theorem refAccounts (es : List (AccD × SV)) (pb : Nat) (a : Option Addr) (cap : Nat) (w : World) (hI : InR w a es) (hpb : pb < w.heap.size) (hpc : w.cell? ⟨pb, 0, none⟩ = some (.slice a es.length cap)) (hid : (es.map (·.1.id)).Nodup) (hky : ∀ p ∈ es, (p.1.slots.map (·.1)).Nodup) (hn : es.length < 2147483648) :
  Calls TryQ.prog 14 #[.pointer (some ⟨pb, 0, none⟩)] w fun e w' => ∃ v os, e = .returned (.slice v.a v.n v.c) ∧ Below w.heap.size w w' ∧ Lists w.heap.size w' v os ∧ os.map (·.1) = told (es.map (·.1)) := by
 obtain ⟨i57, z57, hi57, hz57, hs57, hb57, hzs57⟩ := info57
 obtain ⟨i31, z31, hi31, hz31, hs31, hb31, hzs31⟩ := info31
 go_enter TryQ.func14, Tryz.ntmps14
 go_wp2_with fail
 go_loopw [3, 4] (fun o i wr => ∃ (k : Nat) (vO : SV) (os : List (AccD × SV)), o = .slice vO.a vO.n vO.c ∧ i = .int .i64 k ∧ k ≤ es.length ∧ Ro w wr es vO os k) (fun _ i _ => es.length - (Go.RowKit.intOf i).toNat)
 case atStart =>
  exact ⟨0, ⟨none, 0, 0⟩, [], rfl, rfl, Nat.zero_le _, Below.refl _ _, rfl, ⟨rfl, .inl ⟨rfl, rfl⟩⟩, (fun p hp => by cases hp), (fun p hp => by cases hp), List.Pairwise.nil, .refl _, List.Pairwise.nil⟩
 case round =>
  obtain ⟨k, vO, os, rfl, rfl, hk, hR⟩ := hrel
  have hB := hR.below
  have hpV : pb < wr.heap.size := Nat.lt_of_lt_of_le hpb hB.size
  have hpc1 := (hB.cell (p := ⟨pb, 0, none⟩) hpb).trans hpc
  generalize wr = V at *
  by_cases hlt : k < es.length
  ·have hlt' : (k : Int) < (es.length : Int) := by omega
   have hmem := List.getElem_mem hlt
   obtain ⟨b, o, rfl, hA⟩ := hI.acc.resolve_left (by intro e; rw [e] at hlt; simp at hlt)
   have hA' := (hA.below hB) k es[k] (List.getElem?_eq_getElem hlt)
   have hgetk := List.getElem?_eq_getElem hlt
   obtain ⟨hsn, hsl⟩ := hI.sl _ hmem
   have hbal := hI.bal _ hmem
   have hnum := hI.num _ hmem
   have hkey := hI.key _ hmem
   have hkyk := hky _ hmem
   generalize es[k] = p at *
   obtain ⟨d, sv⟩ := p
   obtain ⟨sa, sn, sc⟩ := sv
   have hbw : b < w.heap.size := by
    have := hA k _ hgetk 0 _ rfl
    simp only [World.cell?] at this
    cases hh : w.heap[b]? with
    | none => rw [hh] at this; cases this
    | some o => exact (Array.getElem?_eq_some_iff.1 hh).1
   have hbr : b < V.heap.size := Nat.lt_of_lt_of_le hbw hB.size
   have c0 := hA' 0 _ rfl
   have c1 := hA' 1 _ rfl
   have c2 := hA' 2 _ rfl
   have c3 := hA' 3 _ rfl
   have c4 := hA' 4 _ rfl
   have c5 := hA' 5 _ rfl
   have c6 := hA' 6 _ rfl
   have c7 := hA' 7 _ rfl
   rw [Nat.add_zero] at c0
   simp only at hsn hsl hbal hnum hkey hkyk c0 c1 c2 c3 c4 c5 c6 c7
   subst hsn
   go_wp2_with fail
   go_loopw [6] (fun i W => ∃ (c : Nat) (vS : SV) (ls : List (Nat × Nat)), i = .int .i64 c ∧ c ≤ d.slots.length ∧ ls.length = c ∧ Xr V W d vS ls ∧ ls.Perm (d.slots.take c) ∧ Up (fun q => (q.1 : Int)) ls) (fun i _ => d.slots.length - (Go.RowKit.intOf i).toNat)
   case atStart =>
    refine ⟨0, ⟨none, 0, 0⟩, [], rfl, Nat.zero_le _, rfl, ⟨(Below.refl _ _).alloc (Nat.le_refl _) _, by simp, ?_, ?_, ?_⟩, .refl _, List.Pairwise.nil⟩
    ·exact cells_new V (accCells d ⟨none, 0, 0⟩) 31
    ·exact there_new V (accCells d ⟨none, 0, 0⟩).toArray 31
    ·exact ⟨rfl, .inl ⟨rfl, rfl⟩⟩
   case round =>
    obtain ⟨c, vS, ls, rfl, hc, hlen, hX, hperm, hup⟩ := hrel
    have c7 := hX.below.cell (p := ⟨b, o + k * 8 + 7, none⟩) hbr |>.trans c7
    have hpc2 := hX.below.cell (p := ⟨pb, 0, none⟩) hpV |>.trans hpc1
    by_cases hcl : c < d.slots.length
    ·have hcl' : (c : Int) < (d.slots.length : Int) := by omega
     obtain ⟨bs, os', rfl, hSl⟩ := hsl.resolve_left (by intro e; rw [e] at hcl; simp at hcl)
     have hBW : Below w.heap.size w wr := hB.trans (hX.below.mono hB.size)
     have hce := (hSl.below hBW) c d.slots[c] (List.getElem?_eq_getElem hcl)
     have hkc := (hkey _ (List.getElem_mem hcl)).1
     have hbsV : bs < V.heap.size := by
      have hh := hSl c d.slots[c] (List.getElem?_eq_getElem hcl) 0 _ rfl
      simp only [World.cell?] at hh
      cases hq2 : w.heap[bs]? with
      | none => rw [hq2] at hh; cases hh
      | some oo => exact Nat.lt_of_lt_of_le (Array.getElem?_eq_some_iff.1 hq2).1 hB.size
     go_wp2_with fail
     obtain ⟨zB, hzB⟩ : ∃ zB, wr.drew.heap.size = zB := ⟨_, rfl⟩
     refine wp_meet2 (fun g n W => Xr V W d ⟨some ⟨g, 0, none⟩, c + 1, n⟩ (ls ++ [d.slots[c]])) ?_
     apply Exists.intro
     apply And.intro
     ·refine wp_region_held_drew (S := fun W => W.cell? ⟨pb, 0, none⟩ = some (.slice (some ⟨b, o, none⟩) es.length cap) ∧ W.cell? ⟨b, o + k * 8 + 7, none⟩ = some (.slice (some ⟨bs, os', none⟩) d.slots.length sc) ∧ CellsAt W bs (os' + c * 8) (slotCells d.slots[c])) (by kernel_rfl) ⟨hpc2, c7, hce.below (Below.refl _ _).drew⟩ (fun hH => ?_)
      refine take_d (i := 0) (d := some 41) (v := .pointer (some ⟨V.heap.size, 7, none⟩)) rfl rfl (by kernel_rfl) (by kernel_rfl) (by kernel_rfl) (fun _ _ _ h => by first | exact h | cases h.1) (Or.inl ⟨by rfl, fun W hW => ?_⟩) hH ?_
      ·clear hW hH
       go_simp
      simp only [Act.put, List.setIfInBounds_toArray, List.set_cons_zero, List.set_cons_succ]
      refine take_d (i := 2) (d := some 43) (v := .pointer (some ⟨pb, 0, none⟩)) rfl rfl (by kernel_rfl) (by kernel_rfl) (by kernel_rfl) (fun _ _ _ h => by first | exact h | cases h.1) (Or.inl ⟨by rfl, fun W hW => ?_⟩) hH ?_
      ·clear hW hH
       go_simp
      simp only [Act.put, List.setIfInBounds_toArray, List.set_cons_zero, List.set_cons_succ]
      refine take_d (i := 3) (d := some 44) (v := .pointer (some ⟨pb, 0, none⟩)) rfl rfl (by kernel_rfl) (by kernel_rfl) (by kernel_rfl) (fun _ _ _ h => by first | exact h | cases h.1) (Or.inl ⟨by rfl, fun W hW => ?_⟩) hH ?_
      ·clear hW hH
       go_simp
      simp only [Act.put, List.setIfInBounds_toArray, List.set_cons_zero, List.set_cons_succ]
      refine take_d (i := 4) (d := some 45) (v := .pointer (some ⟨pb, 0, none⟩)) rfl rfl (by kernel_rfl) (by kernel_rfl) (by kernel_rfl) (fun _ _ _ h => by first | exact h | cases h.1) (Or.inl ⟨by rfl, fun W hW => ?_⟩) hH ?_
      ·clear hW hH
       go_simp
      simp only [Act.put, List.setIfInBounds_toArray, List.set_cons_zero, List.set_cons_succ]
      refine take_d (i := 5) (d := some 46) (v := .slice (some ⟨b, o, none⟩) es.length cap) rfl rfl (by kernel_rfl) (by kernel_rfl) (by kernel_rfl) (fun _ _ _ h => by first | exact h | cases h.1) (Or.inl ⟨by rfl, fun W hW => ?_⟩) hH ?_
      ·have k0 := hW.1
       clear hW hH
       go_simp
      simp only [Act.put, List.setIfInBounds_toArray, List.set_cons_zero, List.set_cons_succ]
      refine take_d (i := 6) (d := some 47) (v := .int .i64 (k : Int)) rfl rfl (by kernel_rfl) (by kernel_rfl) (by kernel_rfl) (fun _ _ _ h => by first | exact h | cases h.1) (Or.inl ⟨by rfl, fun W hW => ?_⟩) hH ?_
      ·clear hW hH
       go_simp
      simp only [Act.put, List.setIfInBounds_toArray, List.set_cons_zero, List.set_cons_succ]
      refine take_d (i := 7) (d := some 48) (v := .pointer (some ⟨b, o + k * 8, none⟩)) rfl rfl (by kernel_rfl) (by kernel_rfl) (by kernel_rfl) (fun _ _ _ h => by first | exact h | cases h.1) (Or.inl ⟨by rfl, fun W hW => ?_⟩) hH ?_
      ·clear hW hH
       go_simp
      simp only [Act.put, List.setIfInBounds_toArray, List.set_cons_zero, List.set_cons_succ]
      refine take_d (i := 8) (d := some 49) (v := .pointer (some ⟨b, o + k * 8 + 7, none⟩)) rfl rfl (by kernel_rfl) (by kernel_rfl) (by kernel_rfl) (fun _ _ _ h => by first | exact h | cases h.1) (Or.inl ⟨by rfl, fun W hW => ?_⟩) hH ?_
      ·clear hW hH
       go_simp
      simp only [Act.put, List.setIfInBounds_toArray, List.set_cons_zero, List.set_cons_succ]
      refine take_d (i := 9) (d := some 50) (v := .slice (some ⟨bs, os', none⟩) d.slots.length sc) rfl rfl (by kernel_rfl) (by kernel_rfl) (by kernel_rfl) (fun _ _ _ h => by first | exact h | cases h.1) (Or.inl ⟨by rfl, fun W hW => ?_⟩) hH ?_
      ·have k0 := hW.2.1
       clear hW hH
       go_simp
      simp only [Act.put, List.setIfInBounds_toArray, List.set_cons_zero, List.set_cons_succ]
      refine take_d (i := 10) (d := some 51) (v := .int .i64 (c : Int)) rfl rfl (by kernel_rfl) (by kernel_rfl) (by kernel_rfl) (fun _ _ _ h => by first | exact h | cases h.1) (Or.inl ⟨by rfl, fun W hW => ?_⟩) hH ?_
      ·clear hW hH
       go_simp
      simp only [Act.put, List.setIfInBounds_toArray, List.set_cons_zero, List.set_cons_succ]
      refine take_d (i := 11) (d := some 52) (v := .pointer (some ⟨bs, os' + c * 8, none⟩)) rfl rfl (by kernel_rfl) (by kernel_rfl) (by kernel_rfl) (fun _ _ _ h => by first | exact h | cases h.1) (Or.inl ⟨by rfl, fun W hW => ?_⟩) hH ?_
      ·clear hW hH
       go_simp
      simp only [Act.put, List.setIfInBounds_toArray, List.set_cons_zero, List.set_cons_succ]
      refine take_d (i := 12) (d := some 53) (v := .agg (slotCells d.slots[c]).toArray) rfl rfl (by kernel_rfl) (by kernel_rfl) (by kernel_rfl) (fun _ _ _ h => by first | exact h | cases h.1) (Or.inl ⟨by rfl, fun W hW => ?_⟩) hH ?_
      ·have k0 := hW.2.2 0 _ rfl; have k1 := hW.2.2 1 _ rfl; have k2 := hW.2.2 2 _ rfl; have k3 := hW.2.2 3 _ rfl; have k4 := hW.2.2 4 _ rfl; have k5 := hW.2.2 5 _ rfl; have k6 := hW.2.2 6 _ rfl; have k7 := hW.2.2 7 _ rfl
       rw [Nat.add_zero] at k0
       clear hW hH
       unfold slotCells
       go_simp
      simp only [Act.put, List.setIfInBounds_toArray, List.set_cons_zero, List.set_cons_succ]
      have hb1 : b < wr.drew.heap.size := Nat.lt_of_lt_of_le hbr hX.below.size
      have hp1 : pb < wr.drew.heap.size := Nat.lt_of_lt_of_le hpV hX.below.size
      have hx1 : Xr V wr.drew d vS ls := hX.keep (Below.refl _ _).drew
      have hzC := hzB
      generalize wr.drew = W1 at hb1 hp1 hx1 hH hzC ⊢
      refine wpAnyH_ready (rs := [1, 13]) (by kernel_rfl) (by simp) ?_
      refine AllReadyH.cons rfl (fun K hK => ?_) (AllReadyH.cons rfl (fun K hK => ?_) AllReadyH.nil)
      ·skip
       have x7 := hx1.cells 7 _ rfl
       rw [Nat.zero_add] at x7
       go_simp
       clear x7
       refine hK.out _ _ hH (fun hH => ?_)
       clear hK K
       refine wpAnyH_ready (rs := [13]) (by kernel_rfl) (by simp) ?_
       refine AllReadyH.cons rfl (fun K hK => ?_) AllReadyH.nil
       unfold slotCells
       go_simp
       have hb2 : Below W1.heap.size W1 (W1.alloc (.cells (slotCells d.slots[c]).toArray 57)) := (Below.refl _ _).alloc (Nat.le_refl _) _
       have hn2 := cells_new W1 (slotCells d.slots[c]) 57
       refine hK.out _ (W1.alloc (.cells (slotCells d.slots[c]).toArray 57)) ⟨(hb2.cell (p := ⟨pb, 0, none⟩) hp1).trans hH.1, (hb2.cell (p := ⟨b, o + k * 8 + 7, none⟩) hb1).trans hH.2.1, hH.2.2.below hb2⟩ (fun hH => ?_)
       clear hK K
       replace hx1 := hx1.keep hb2
       generalize hW2 : W1.alloc (.cells (slotCells d.slots[c]).toArray 57) = W2 at hx1 hn2 hb2 hH ⊢
       refine wpAnyH_ready (rs := [14]) (by kernel_rfl) (by simp) ?_
       refine AllReadyH.cons rfl (fun K hK => ?_) AllReadyH.nil
       rw [if_pos (by rfl)]
       refine wp_append_lies W2 _ _ 29 rfl (V.heap.size + 1) 57 i57 z57 8 64 ((q_underlying 29).trans Tryz.underlying29) hi57 hz57 hs57 hb57 hzs57 (by omega) _ _ _ rfl hx1.own ⟨zB, 0, none⟩ 1 1 (slotCells d.slots[c]) rfl rfl (fun j v hj => by rw [Addr.add_mid, ← hzC]; exact hn2 j v hj) (fun v hv => flatS_one [d.slots[c]] v (by rw [flatS, flatS, List.append_nil]; exact hv)) (by omega) (by simp [maxLen]; omega) (by omega) (Nat.succ_le_of_lt hx1.lt) _ rfl ?_
       intro g n W3 hown3 hgrow hat hlt3
       rw [hlen] at hown3
       have hb3 : Below (V.heap.size + 1) W2 W3 := gb_to_below hgrow (own_ge hx1.own) (Nat.succ_le_of_lt hx1.lt)
       have hx3 : CellsAt W3 V.heap.size 0 (accCells d vS) := fun j v hj => (hb3.cell (p := ⟨V.heap.size, 0 + j, none⟩) (Nat.lt_succ_self _)).trans (hx1.cells j v hj)
       have ht3 : W3.there V.heap.size 0 8 := fun j hj => by
        rw [hb3.cell (p := ⟨V.heap.size, 0 + j, none⟩) (Nat.lt_succ_self _), hb3.frozen (p := ⟨V.heap.size, 0 + j, none⟩) (Nat.lt_succ_self _)]; exact hx1.th j hj
       refine hK.out _ _ ⟨(hb3.cell (p := ⟨pb, 0, none⟩) (by show pb < _; omega)).trans hH.1, (hb3.cell (p := ⟨b, o + k * 8 + 7, none⟩) (by show b < _; omega)).trans hH.2.1, fun j v hj => (hb3.cell (p := ⟨bs, os' + c * 8 + j, none⟩) (by show bs < _; omega)).trans (hH.2.2 j v hj)⟩ (fun hH => ?_)
       clear hK K
       refine take_d (i := 15) (d := some 56) (v := .pointer (some ⟨V.heap.size, 7, none⟩)) rfl rfl (by kernel_rfl) (by kernel_rfl) (by kernel_rfl) (fun _ _ _ h => by first | exact h | cases h.1) (Or.inl ⟨by rfl, fun W hW => ?_⟩) hH ?_
       ·clear hW hH
        go_simp
       simp only [Act.put, List.setIfInBounds_toArray]
       refine wpAnyH_ready (rs := [16]) (by kernel_rfl) (by simp) ?_
       refine AllReadyH.cons rfl (fun K hK => ?_) AllReadyH.nil
       have x7 := hx3 7 _ rfl
       have y7 := (ht3 7 (by omega)).2
       rw [Nat.zero_add] at x7 y7
       go_simp
       clear x7 y7
       refine hK.out _ _ ⟨(World.cell?_setCell_other _ _ _ _ (by intro e; have e' := congrArg Addr.block e; simp at e'; omega)).trans hH.1, (World.cell?_setCell_other _ _ _ _ (by intro e; have e' := congrArg Addr.block e; simp at e'; omega)).trans hH.2.1, fun j v hj => (World.cell?_setCell_other _ _ _ _ (by intro e; have e' := congrArg Addr.block e; simp at e'; omega)).trans (hH.2.2 j v hj)⟩ (fun hH => ?_)
       clear hK K
       refine wpAnyH_done (by kernel_rfl) ?_ _
       refine ⟨rfl, g, n, rfl, ⟨?_, ?_, ?_, ?_, ?_⟩⟩
       ·exact (hx1.below.trans (hb3.mono (by omega))).setCell (p := ⟨V.heap.size, 7, none⟩) (Nat.le_refl _) _
       ·have := hb3.size; have := hx1.lt; simp [World.setCell]; omega
       ·exact cells_setAt (i := 7) hx3 (by show 7 < 8; omega)
       ·exact World.there_setCells ht3 V.heap.size 7 [_]
       ·rw [List.length_append, hlen, flatS_append, flatS, flatS, List.append_nil]
        exact own_set hown3 _ _ (Nat.lt_succ_self _)
      ·skip
       unfold slotCells
       go_simp
       have hb2 : Below W1.heap.size W1 (W1.alloc (.cells (slotCells d.slots[c]).toArray 57)) := (Below.refl _ _).alloc (Nat.le_refl _) _
       have hn2 := cells_new W1 (slotCells d.slots[c]) 57
       refine hK.out _ (W1.alloc (.cells (slotCells d.slots[c]).toArray 57)) ⟨(hb2.cell (p := ⟨pb, 0, none⟩) hp1).trans hH.1, (hb2.cell (p := ⟨b, o + k * 8 + 7, none⟩) hb1).trans hH.2.1, hH.2.2.below hb2⟩ (fun hH => ?_)
       clear hK K
       replace hx1 := hx1.keep hb2
       generalize hW2 : W1.alloc (.cells (slotCells d.slots[c]).toArray 57) = W2 at hx1 hn2 hb2 hH ⊢
       refine wpAnyH_ready (rs := [1]) (by kernel_rfl) (by simp) ?_
       refine AllReadyH.cons rfl (fun K hK => ?_) AllReadyH.nil
       have x7 := hx1.cells 7 _ rfl
       rw [Nat.zero_add] at x7
       go_simp
       clear x7
       refine hK.out _ _ hH (fun hH => ?_)
       clear hK K
       refine wpAnyH_ready (rs := [14]) (by kernel_rfl) (by simp) ?_
       refine AllReadyH.cons rfl (fun K hK => ?_) AllReadyH.nil
       rw [if_pos (by rfl)]
       refine wp_append_lies W2 _ _ 29 rfl (V.heap.size + 1) 57 i57 z57 8 64 ((q_underlying 29).trans Tryz.underlying29) hi57 hz57 hs57 hb57 hzs57 (by omega) _ _ _ rfl hx1.own ⟨zB, 0, none⟩ 1 1 (slotCells d.slots[c]) rfl rfl (fun j v hj => by rw [Addr.add_mid, ← hzC]; exact hn2 j v hj) (fun v hv => flatS_one [d.slots[c]] v (by rw [flatS, flatS, List.append_nil]; exact hv)) (by omega) (by simp [maxLen]; omega) (by omega) (Nat.succ_le_of_lt hx1.lt) _ rfl ?_
       intro g n W3 hown3 hgrow hat hlt3
       rw [hlen] at hown3
       have hb3 : Below (V.heap.size + 1) W2 W3 := gb_to_below hgrow (own_ge hx1.own) (Nat.succ_le_of_lt hx1.lt)
       have hx3 : CellsAt W3 V.heap.size 0 (accCells d vS) := fun j v hj => (hb3.cell (p := ⟨V.heap.size, 0 + j, none⟩) (Nat.lt_succ_self _)).trans (hx1.cells j v hj)
       have ht3 : W3.there V.heap.size 0 8 := fun j hj => by
        rw [hb3.cell (p := ⟨V.heap.size, 0 + j, none⟩) (Nat.lt_succ_self _), hb3.frozen (p := ⟨V.heap.size, 0 + j, none⟩) (Nat.lt_succ_self _)]; exact hx1.th j hj
       refine hK.out _ _ ⟨(hb3.cell (p := ⟨pb, 0, none⟩) (by show pb < _; omega)).trans hH.1, (hb3.cell (p := ⟨b, o + k * 8 + 7, none⟩) (by show b < _; omega)).trans hH.2.1, fun j v hj => (hb3.cell (p := ⟨bs, os' + c * 8 + j, none⟩) (by show bs < _; omega)).trans (hH.2.2 j v hj)⟩ (fun hH => ?_)
       clear hK K
       refine take_d (i := 15) (d := some 56) (v := .pointer (some ⟨V.heap.size, 7, none⟩)) rfl rfl (by kernel_rfl) (by kernel_rfl) (by kernel_rfl) (fun _ _ _ h => by first | exact h | cases h.1) (Or.inl ⟨by rfl, fun W hW => ?_⟩) hH ?_
       ·clear hW hH
        go_simp
       simp only [Act.put, List.setIfInBounds_toArray]
       refine wpAnyH_ready (rs := [16]) (by kernel_rfl) (by simp) ?_
       refine AllReadyH.cons rfl (fun K hK => ?_) AllReadyH.nil
       have x7 := hx3 7 _ rfl
       have y7 := (ht3 7 (by omega)).2
       rw [Nat.zero_add] at x7 y7
       go_simp
       clear x7 y7
       refine hK.out _ _ ⟨(World.cell?_setCell_other _ _ _ _ (by intro e; have e' := congrArg Addr.block e; simp at e'; omega)).trans hH.1, (World.cell?_setCell_other _ _ _ _ (by intro e; have e' := congrArg Addr.block e; simp at e'; omega)).trans hH.2.1, fun j v hj => (World.cell?_setCell_other _ _ _ _ (by intro e; have e' := congrArg Addr.block e; simp at e'; omega)).trans (hH.2.2 j v hj)⟩ (fun hH => ?_)
       clear hK K
       refine wpAnyH_done (by kernel_rfl) ?_ _
       refine ⟨rfl, g, n, rfl, ⟨?_, ?_, ?_, ?_, ?_⟩⟩
       ·exact (hx1.below.trans (hb3.mono (by omega))).setCell (p := ⟨V.heap.size, 7, none⟩) (Nat.le_refl _) _
       ·have := hb3.size; have := hx1.lt; simp [World.setCell]; omega
       ·exact cells_setAt (i := 7) hx3 (by show 7 < 8; omega)
       ·exact World.there_setCells ht3 V.heap.size 7 [_]
       ·rw [List.length_append, hlen, flatS_append, flatS, flatS, List.append_nil]
        exact own_set hown3 _ _ (Nat.lt_succ_self _)
     ·intro g n W hX1
      have hne : ∀ q ∈ ls, q.1 ≠ d.slots[c].1 := fun q hq e => by
       obtain ⟨i, hi, he⟩ := List.mem_iff_getElem.1 (hperm.mem_iff.1 hq)
       have hic : i < c := by simp at hi; omega
       rw [List.getElem_take] at he
       have := List.pairwise_iff_getElem.1 hkyk i c (by simp; omega) (by simpa using hcl) hic
       simp [he, e] at this
      have hkls : ∀ q ∈ ls, q.1 < M := fun q hq => (hkey q (List.mem_of_mem_take (hperm.mem_iff.1 hq))).1
      have hdc : ls ++ [d.slots[c]] = down ls d.slots[c] c := by unfold down; rw [List.take_of_length_le (by omega), List.drop_of_length_le (by omega)]
      have hpx : (ls ++ [d.slots[c]]).Perm (d.slots.take (c + 1)) := by
       rw [← List.take_append_getElem hcl]
       exact hperm.append_right _
      rw [hdc] at hX1
      go_wp2_with fail
      generalize hx : d.slots[c] = x at *
      go_loopw [7] (fun j W => ∃ jn : Nat, j = .int .i64 jn ∧ jn ≤ c ∧ Xr V W d ⟨some ⟨g, 0, none⟩, c + 1, n⟩ (down ls x jn) ∧ ∀ y ∈ ls.drop jn, (x.1 : Int) < (y.1 : Int)) (fun j _ => (Go.RowKit.intOf j).toNat)
      case atStart => exact ⟨c, rfl, Nat.le_refl _, hX1, by rw [List.drop_of_length_le (by omega)]; simp⟩
      case round =>
       obtain ⟨jn, rfl, hjc, hX2, hdr⟩ := hrel
       rcases jn with _ | j
       ·go_wp2_with fail
        refine wp_region_held_drew (S := fun W => Xr V W d ⟨some ⟨g, 0, none⟩, c + 1, n⟩ (down ls x 0)) (by kernel_rfl) (hX2.keep (Below.refl _ _).drew) (fun hH => ?_)
        refine take_d (i := 0) (d := some 58) (v := .int .i64 0) rfl rfl (by kernel_rfl) (by kernel_rfl) (by kernel_rfl) (fun _ _ _ h => by first | exact h | cases h.1) (Or.inl ⟨by rfl, fun W hW => ?_⟩) hH ?_
        ·clear hW hH
         go_simp
        simp only [Act.put, List.setIfInBounds_toArray, List.set_cons_zero, List.set_cons_succ]
        refine take_d (i := 1) (d := some 59) (v := .bool false) rfl rfl (by kernel_rfl) (by kernel_rfl) (by kernel_rfl) (fun _ _ _ h => by first | exact h | cases h.1) (Or.inl ⟨by rfl, fun W hW => ?_⟩) hH ?_
        ·clear hW hH
         go_simp
        simp only [Act.put, List.setIfInBounds_toArray, List.set_cons_zero, List.set_cons_succ]
        refine take_d (i := 2) (d := some 60) (v := .bool false) rfl rfl (by kernel_rfl) (by kernel_rfl) (by kernel_rfl) (fun _ _ _ h => by first | exact h | cases h.1) (Or.inl ⟨by rfl, fun W hW => ?_⟩) hH ?_
        ·clear hW hH
         go_simp
        simp only [Act.put, List.setIfInBounds_toArray, List.set_cons_zero, List.set_cons_succ]
        refine take_d (i := 3) (d := some 61) (v := undef) rfl rfl (by kernel_rfl) (by kernel_rfl) (by kernel_rfl) (fun _ _ _ h => by first | exact h | cases h.1) (Or.inr ⟨by rfl, rfl⟩) hH ?_
        simp only [Act.put, List.setIfInBounds_toArray, List.set_cons_zero, List.set_cons_succ]
        refine take_d (i := 4) (d := some 62) (v := undef) rfl rfl (by kernel_rfl) (by kernel_rfl) (by kernel_rfl) (fun _ _ _ h => by first | exact h | cases h.1) (Or.inr ⟨by rfl, rfl⟩) hH ?_
        simp only [Act.put, List.setIfInBounds_toArray, List.set_cons_zero, List.set_cons_succ]
        refine take_d (i := 5) (d := some 63) (v := undef) rfl rfl (by kernel_rfl) (by kernel_rfl) (by kernel_rfl) (fun _ _ _ h => by first | exact h | cases h.1) (Or.inr ⟨by rfl, rfl⟩) hH ?_
        simp only [Act.put, List.setIfInBounds_toArray, List.set_cons_zero, List.set_cons_succ]
        refine take_d (i := 6) (d := some 64) (v := undef) rfl rfl (by kernel_rfl) (by kernel_rfl) (by kernel_rfl) (fun _ _ _ h => by first | exact h | cases h.1) (Or.inr ⟨by rfl, rfl⟩) hH ?_
        simp only [Act.put, List.setIfInBounds_toArray, List.set_cons_zero, List.set_cons_succ]
        refine take_d (i := 7) (d := some 65) (v := undef) rfl rfl (by kernel_rfl) (by kernel_rfl) (by kernel_rfl) (fun _ _ _ h => by first | exact h | cases h.1) (Or.inr ⟨by rfl, rfl⟩) hH ?_
        simp only [Act.put, List.setIfInBounds_toArray, List.set_cons_zero, List.set_cons_succ]
        refine take_d (i := 8) (d := some 66) (v := undef) rfl rfl (by kernel_rfl) (by kernel_rfl) (by kernel_rfl) (fun _ _ _ h => by first | exact h | cases h.1) (Or.inr ⟨by rfl, rfl⟩) hH ?_
        simp only [Act.put, List.setIfInBounds_toArray, List.set_cons_zero, List.set_cons_succ]
        refine take_d (i := 9) (d := some 67) (v := undef) rfl rfl (by kernel_rfl) (by kernel_rfl) (by kernel_rfl) (fun _ _ _ h => by first | exact h | cases h.1) (Or.inr ⟨by rfl, rfl⟩) hH ?_
        simp only [Act.put, List.setIfInBounds_toArray, List.set_cons_zero, List.set_cons_succ]
        refine take_d (i := 10) (d := some 68) (v := undef) rfl rfl (by kernel_rfl) (by kernel_rfl) (by kernel_rfl) (fun _ _ _ h => by first | exact h | cases h.1) (Or.inr ⟨by rfl, rfl⟩) hH ?_
        simp only [Act.put, List.setIfInBounds_toArray, List.set_cons_zero, List.set_cons_succ]
        refine take_d (i := 11) (d := some 69) (v := undef) rfl rfl (by kernel_rfl) (by kernel_rfl) (by kernel_rfl) (fun _ _ _ h => by first | exact h | cases h.1) (Or.inr ⟨by rfl, rfl⟩) hH ?_
        simp only [Act.put, List.setIfInBounds_toArray, List.set_cons_zero, List.set_cons_succ]
        refine take_d (i := 12) (d := some 70) (v := undef) rfl rfl (by kernel_rfl) (by kernel_rfl) (by kernel_rfl) (fun _ _ _ h => by first | exact h | cases h.1) (Or.inr ⟨by rfl, rfl⟩) hH ?_
        simp only [Act.put, List.setIfInBounds_toArray, List.set_cons_zero, List.set_cons_succ]
        refine take_d (i := 13) (d := some 71) (v := undef) rfl rfl (by kernel_rfl) (by kernel_rfl) (by kernel_rfl) (fun _ _ _ h => by first | exact h | cases h.1) (Or.inr ⟨by rfl, rfl⟩) hH ?_
        simp only [Act.put, List.setIfInBounds_toArray, List.set_cons_zero, List.set_cons_succ]
        refine take_d (i := 14) (d := some 72) (v := undef) rfl rfl (by kernel_rfl) (by kernel_rfl) (by kernel_rfl) (fun _ _ _ h => by first | exact h | cases h.1) (Or.inr ⟨by rfl, rfl⟩) hH ?_
        simp only [Act.put, List.setIfInBounds_toArray, List.set_cons_zero, List.set_cons_succ]
        refine take_d (i := 15) (d := some 73) (v := undef) rfl rfl (by kernel_rfl) (by kernel_rfl) (by kernel_rfl) (fun _ _ _ h => by first | exact h | cases h.1) (Or.inr ⟨by rfl, rfl⟩) hH ?_
        simp only [Act.put, List.setIfInBounds_toArray, List.set_cons_zero, List.set_cons_succ]
        refine take_d (i := 16) (d := some 74) (v := undef) rfl rfl (by kernel_rfl) (by kernel_rfl) (by kernel_rfl) (fun _ _ _ h => by first | exact h | cases h.1) (Or.inr ⟨by rfl, rfl⟩) hH ?_
        simp only [Act.put, List.setIfInBounds_toArray, List.set_cons_zero, List.set_cons_succ]
        refine take_d (i := 17) (d := some 75) (v := .bool false) rfl rfl (by kernel_rfl) (by kernel_rfl) (by kernel_rfl) (fun _ _ _ h => by first | exact h | cases h.1) (Or.inl ⟨by rfl, fun W hW => ?_⟩) hH ?_
        ·clear hW hH
         go_simp
        simp only [Act.put, List.setIfInBounds_toArray, List.set_cons_zero, List.set_cons_succ]
        refine wpAnyH_done (by kernel_rfl) ?_ _
        have hcx := down_perm ls x 0
        have hux : Up (fun q => (q.1 : Int)) (down ls x 0) := down_up hup (Nat.zero_le _) hdr (fun i hi e => by omega)
        go_wp2_with fail
        refine ⟨⟨c + 1, _, _, by go_num, by omega, by rw [down_len ls x 0 (by omega), hlen], hH, hcx.trans hpx, hux⟩, ?_⟩
        simp [Go.RowKit.intOf]; omega
       ·have hj : j < ls.length := by omega
        have hdl := down_len ls x (j + 1) (by omega)
        have hx0 : ∀ W, Xr V W d ⟨some ⟨g, 0, none⟩, c + 1, n⟩ (down ls x (j + 1)) → CellsAt W g ((j + 1) * 8) (slotCells x) := fun W hW => by
         have ho := hW.own
         rw [hdl, hlen] at ho
         exact own_slot ho (down_at ls x (j + 1) (by omega))
        have hx1 : ∀ W, Xr V W d ⟨some ⟨g, 0, none⟩, c + 1, n⟩ (down ls x (j + 1)) → CellsAt W g (j * 8) (slotCells ls[j]) := fun W hW => by
         have ho := hW.own
         rw [hdl, hlen] at ho
         exact own_slot ho (down_pre ls x j hj)
        have hrl := rless x.1 ls[j].1 hkc (hkls _ (List.getElem_mem hj))
        have hjc1 : (j : Int) + 1 < (c : Int) + 1 := by omega
        have hjc2 : (j : Int) < (c : Int) + 1 := by omega
        have hj2 : j < 2199023255552 := by omega
        go_wp2_with fail
        refine wp_region_held_drew (S := fun W => Xr V W d ⟨some ⟨g, 0, none⟩, c + 1, n⟩ (down ls x (j + 1))) (by kernel_rfl) (hX2.keep (Below.refl _ _).drew) (fun hH => ?_)
        have hpos : (0 : Int) < ((j + 1 : Nat) : Int) := by omega
        have hjn : ¬ (j : Int) + 1 < 0 := by omega
        have hwr : IntKind.i64.wrap (j : Int) = (j : Int) := IntWalk.i64_in _ (by omega)
        by_cases hless : x.1 < ls[j].1
        ·rw [decide_eq_true hless] at hrl
         refine take_d (i := 0) (d := some 58) (v := .int .i64 ((j + 1 : Nat) : Int)) rfl rfl (by kernel_rfl) (by kernel_rfl) (by kernel_rfl) (fun _ _ _ h => by first | exact h | cases h.1) (Or.inl ⟨by rfl, fun W hW => ?_⟩) hH ?_
         ·clear hW hH
          go_simp
         simp only [Act.put, List.setIfInBounds_toArray, List.set_cons_zero, List.set_cons_succ]
         refine take_d (i := 1) (d := some 59) (v := .bool true) rfl rfl (by kernel_rfl) (by kernel_rfl) (by kernel_rfl) (fun _ _ _ h => by first | exact h | cases h.1) (Or.inl ⟨by rfl, fun W hW => ?_⟩) hH ?_
         ·clear hW hH
          go_simp
         simp only [Act.put, List.setIfInBounds_toArray, List.set_cons_zero, List.set_cons_succ]
         refine take_d (i := 2) (d := some 60) (v := .bool true) rfl rfl (by kernel_rfl) (by kernel_rfl) (by kernel_rfl) (fun _ _ _ h => by first | exact h | cases h.1) (Or.inl ⟨by rfl, fun W hW => ?_⟩) hH ?_
         ·clear hW hH
          go_simp
         simp only [Act.put, List.setIfInBounds_toArray, List.set_cons_zero, List.set_cons_succ]
         refine take_d (i := 3) (d := some 61) (v := .pointer (some ⟨V.heap.size, 7, none⟩)) rfl rfl (by kernel_rfl) (by kernel_rfl) (by kernel_rfl) (fun _ _ _ h => by first | exact h | cases h.1) (Or.inl ⟨by rfl, fun W hW => ?_⟩) hH ?_
         ·clear hW hH
          go_simp
         simp only [Act.put, List.setIfInBounds_toArray, List.set_cons_zero, List.set_cons_succ]
         refine take_d (i := 4) (d := some 62) (v := .slice (some ⟨g, 0, none⟩) (c + 1) n) rfl rfl (by kernel_rfl) (by kernel_rfl) (by kernel_rfl) (fun _ _ _ h => by first | exact h | cases h.1) (Or.inl ⟨by rfl, fun W hW => ?_⟩) hH ?_
         ·have k7 := hW.cells 7 _ rfl
          rw [Nat.zero_add] at k7
          clear hW hH
          go_simp
         simp only [Act.put, List.setIfInBounds_toArray, List.set_cons_zero, List.set_cons_succ]
         refine take_d (i := 5) (d := some 63) (v := .int .i64 ((j + 1 : Nat) : Int)) rfl rfl (by kernel_rfl) (by kernel_rfl) (by kernel_rfl) (fun _ _ _ h => by first | exact h | cases h.1) (Or.inl ⟨by rfl, fun W hW => ?_⟩) hH ?_
         ·clear hW hH
          go_simp
         simp only [Act.put, List.setIfInBounds_toArray, List.set_cons_zero, List.set_cons_succ]
         refine take_d (i := 6) (d := some 64) (v := .pointer (some ⟨g, (j + 1) * 8, none⟩)) rfl rfl (by kernel_rfl) (by kernel_rfl) (by kernel_rfl) (fun _ _ _ h => by first | exact h | cases h.1) (Or.inl ⟨by rfl, fun W hW => ?_⟩) hH ?_
         ·clear hW hH
          go_simp
         simp only [Act.put, List.setIfInBounds_toArray, List.set_cons_zero, List.set_cons_succ]
         refine take_d (i := 7) (d := some 65) (v := .pointer (some ⟨g, (j + 1) * 8, none⟩)) rfl rfl (by kernel_rfl) (by kernel_rfl) (by kernel_rfl) (fun _ _ _ h => by first | exact h | cases h.1) (Or.inl ⟨by rfl, fun W hW => ?_⟩) hH ?_
         ·clear hW hH
          go_simp
         simp only [Act.put, List.setIfInBounds_toArray, List.set_cons_zero, List.set_cons_succ]
         refine take_d (i := 8) (d := some 66) (v := wd x.1) rfl rfl (by kernel_rfl) (by kernel_rfl) (by kernel_rfl) (fun _ _ _ h => by first | exact h | cases h.1) (Or.inl ⟨by rfl, fun W hW => ?_⟩) hH ?_
         ·have h8 := hx0 W hW
          have k0 := h8 0 _ rfl; have k1 := h8 1 _ rfl; have k2 := h8 2 _ rfl; have k3 := h8 3 _ rfl
          rw [Nat.add_zero] at k0
          clear h8 hW hH
          unfold wd
          go_simp
         simp only [Act.put, List.setIfInBounds_toArray, List.set_cons_zero, List.set_cons_succ]
         refine take_d (i := 9) (d := some 67) (v := .pointer (some ⟨V.heap.size, 7, none⟩)) rfl rfl (by kernel_rfl) (by kernel_rfl) (by kernel_rfl) (fun _ _ _ h => by first | exact h | cases h.1) (Or.inl ⟨by rfl, fun W hW => ?_⟩) hH ?_
         ·clear hW hH
          go_simp
         simp only [Act.put, List.setIfInBounds_toArray, List.set_cons_zero, List.set_cons_succ]
         refine take_d (i := 10) (d := some 68) (v := .slice (some ⟨g, 0, none⟩) (c + 1) n) rfl rfl (by kernel_rfl) (by kernel_rfl) (by kernel_rfl) (fun _ _ _ h => by first | exact h | cases h.1) (Or.inl ⟨by rfl, fun W hW => ?_⟩) hH ?_
         ·have k7 := hW.cells 7 _ rfl
          rw [Nat.zero_add] at k7
          clear hW hH
          go_simp
         simp only [Act.put, List.setIfInBounds_toArray, List.set_cons_zero, List.set_cons_succ]
         refine take_d (i := 11) (d := some 69) (v := .int .i64 ((j + 1 : Nat) : Int)) rfl rfl (by kernel_rfl) (by kernel_rfl) (by kernel_rfl) (fun _ _ _ h => by first | exact h | cases h.1) (Or.inl ⟨by rfl, fun W hW => ?_⟩) hH ?_
         ·clear hW hH
          go_simp
         simp only [Act.put, List.setIfInBounds_toArray, List.set_cons_zero, List.set_cons_succ]
         refine take_d (i := 12) (d := some 70) (v := .int .i64 (j : Int)) rfl rfl (by kernel_rfl) (by kernel_rfl) (by kernel_rfl) (fun _ _ _ h => by first | exact h | cases h.1) (Or.inl ⟨by rfl, fun W hW => ?_⟩) hH ?_
         ·clear hW hH
          go_simp
         simp only [Act.put, List.setIfInBounds_toArray, List.set_cons_zero, List.set_cons_succ]
         refine take_d (i := 13) (d := some 71) (v := .pointer (some ⟨g, j * 8, none⟩)) rfl rfl (by kernel_rfl) (by kernel_rfl) (by kernel_rfl) (fun _ _ _ h => by first | exact h | cases h.1) (Or.inl ⟨by rfl, fun W hW => ?_⟩) hH ?_
         ·clear hW hH
          go_simp
         simp only [Act.put, List.setIfInBounds_toArray, List.set_cons_zero, List.set_cons_succ]
         refine take_d (i := 14) (d := some 72) (v := .pointer (some ⟨g, j * 8, none⟩)) rfl rfl (by kernel_rfl) (by kernel_rfl) (by kernel_rfl) (fun _ _ _ h => by first | exact h | cases h.1) (Or.inl ⟨by rfl, fun W hW => ?_⟩) hH ?_
         ·clear hW hH
          go_simp
         simp only [Act.put, List.setIfInBounds_toArray, List.set_cons_zero, List.set_cons_succ]
         refine take_d (i := 15) (d := some 73) (v := wd ls[j].1) rfl rfl (by kernel_rfl) (by kernel_rfl) (by kernel_rfl) (fun _ _ _ h => by first | exact h | cases h.1) (Or.inl ⟨by rfl, fun W hW => ?_⟩) hH ?_
         ·have h8 := hx1 W hW
          have k0 := h8 0 _ rfl; have k1 := h8 1 _ rfl; have k2 := h8 2 _ rfl; have k3 := h8 3 _ rfl
          rw [Nat.add_zero] at k0
          clear h8 hW hH
          unfold wd
          go_simp
         simp only [Act.put, List.setIfInBounds_toArray, List.set_cons_zero, List.set_cons_succ]
         refine wpAnyH_ready (rs := [16]) (by kernel_rfl) (by simp) ?_
         refine AllReadyH.cons rfl (fun K hK => ?_) AllReadyH.nil
         go_simp
         refine (hrl _).mono ?_
         rintro e wC ⟨rfl, hbn⟩
         go_wp2_with fail
         refine hK.out _ _ (hH.keep hbn) (fun hH => ?_)
         clear hbn hK K
         refine take_d (i := 17) (d := some 75) (v := .bool true) rfl rfl (by kernel_rfl) (by kernel_rfl) (by kernel_rfl) (fun _ _ _ h => by first | exact h | cases h.1) (Or.inl ⟨by rfl, fun W hW => ?_⟩) hH ?_
         ·clear hW hH
          go_simp
         simp only [Act.put, List.setIfInBounds_toArray, List.set_cons_zero, List.set_cons_succ]
         refine wpAnyH_done (by kernel_rfl) ?_ _
         have x7 := hH.cells 7 _ rfl
         rw [Nat.zero_add] at x7
         have h8 := hx0 wC hH
         have e0 := h8 0 _ rfl
         have e1 := h8 1 _ rfl
         have e2 := h8 2 _ rfl
         have e3 := h8 3 _ rfl
         have e4 := h8 4 _ rfl
         have e5 := h8 5 _ rfl
         have e6 := h8 6 _ rfl
         have e7 := h8 7 _ rfl
         rw [Nat.add_zero] at e0
         have hb1 : Below wC.heap.size wC (wC.alloc (.cells (slotCells x).toArray 57)) := (Below.refl _ _).alloc (Nat.le_refl _) _
         have hY := hH.keep hb1
         have hy := cells_new wC (slotCells x) 57
         have hVy := hH.lt
         have hgy : g < wC.heap.size := own_lt hH.own g rfl
         go_wp2_with fail
         clear x7 h8 e0 e1 e2 e3 e4 e5 e6 e7
         change Code.wp _ _ _ _ (wC.alloc (.cells (slotCells x).toArray 57))
         generalize wC.alloc (.cells (slotCells x).toArray 57) = W1 at hY hy ⊢
         clear hb1 hH
         generalize wC.heap.size = yb at hy hVy hgy ⊢
         have hy1 : CellsAt W1.drew yb 0 (slotCells x) := hy.below (Below.refl _ _).drew
         have hY1 := hY.keep (Below.refl _ _).drew
         refine wp_region_held_drew (S := fun W => ∃ l', Xr V W d ⟨some ⟨g, 0, none⟩, c + 1, n⟩ l' ∧ l'.length = c + 1 ∧ l'[j]? = some ls[j] ∧ CellsAt W yb 0 (slotCells x)) (by kernel_rfl) ⟨_, hY1, by rw [hdl, hlen], down_pre ls x j hj, hy1⟩ (fun hH => ?_)
         refine take_d (i := 0) (d := some 83) (v := .pointer (some ⟨V.heap.size, 7, none⟩)) rfl rfl (by kernel_rfl) (by kernel_rfl) (by kernel_rfl) (fun _ _ _ h => by first | exact h | cases h.1) (Or.inl ⟨by rfl, fun W hW => ?_⟩) hH ?_
         ·clear hW hH
          go_simp
         simp only [Act.put, List.setIfInBounds_toArray, List.set_cons_zero, List.set_cons_succ]
         refine take_d (i := 1) (d := some 84) (v := .slice (some ⟨g, 0, none⟩) (c + 1) n) rfl rfl (by kernel_rfl) (by kernel_rfl) (by kernel_rfl) (fun _ _ _ h => by first | exact h | cases h.1) (Or.inl ⟨by rfl, fun W hW => ?_⟩) hH ?_
         ·obtain ⟨l', hW, _, _, _⟩ := hW
          have k7 := hW.cells 7 _ rfl
          rw [Nat.zero_add] at k7
          clear hW hH
          go_simp
         simp only [Act.put, List.setIfInBounds_toArray, List.set_cons_zero, List.set_cons_succ]
         refine take_d (i := 2) (d := some 85) (v := .int .i64 ((j + 1 : Nat) : Int)) rfl rfl (by kernel_rfl) (by kernel_rfl) (by kernel_rfl) (fun _ _ _ h => by first | exact h | cases h.1) (Or.inl ⟨by rfl, fun W hW => ?_⟩) hH ?_
         ·clear hW hH
          go_simp
         simp only [Act.put, List.setIfInBounds_toArray, List.set_cons_zero, List.set_cons_succ]
         refine take_d (i := 3) (d := some 86) (v := .pointer (some ⟨V.heap.size, 7, none⟩)) rfl rfl (by kernel_rfl) (by kernel_rfl) (by kernel_rfl) (fun _ _ _ h => by first | exact h | cases h.1) (Or.inl ⟨by rfl, fun W hW => ?_⟩) hH ?_
         ·clear hW hH
          go_simp
         simp only [Act.put, List.setIfInBounds_toArray, List.set_cons_zero, List.set_cons_succ]
         refine take_d (i := 4) (d := some 87) (v := .slice (some ⟨g, 0, none⟩) (c + 1) n) rfl rfl (by kernel_rfl) (by kernel_rfl) (by kernel_rfl) (fun _ _ _ h => by first | exact h | cases h.1) (Or.inl ⟨by rfl, fun W hW => ?_⟩) hH ?_
         ·obtain ⟨l', hW, _, _, _⟩ := hW
          have k7 := hW.cells 7 _ rfl
          rw [Nat.zero_add] at k7
          clear hW hH
          go_simp
         simp only [Act.put, List.setIfInBounds_toArray, List.set_cons_zero, List.set_cons_succ]
         refine take_d (i := 5) (d := some 88) (v := .int .i64 ((j + 1 : Nat) : Int)) rfl rfl (by kernel_rfl) (by kernel_rfl) (by kernel_rfl) (fun _ _ _ h => by first | exact h | cases h.1) (Or.inl ⟨by rfl, fun W hW => ?_⟩) hH ?_
         ·clear hW hH
          go_simp
         simp only [Act.put, List.setIfInBounds_toArray, List.set_cons_zero, List.set_cons_succ]
         refine take_d (i := 6) (d := some 89) (v := .int .i64 (j : Int)) rfl rfl (by kernel_rfl) (by kernel_rfl) (by kernel_rfl) (fun _ _ _ h => by first | exact h | cases h.1) (Or.inl ⟨by rfl, fun W hW => ?_⟩) hH ?_
         ·clear hW hH
          go_simp
         simp only [Act.put, List.setIfInBounds_toArray, List.set_cons_zero, List.set_cons_succ]
         refine take_d (i := 7) (d := some 90) (v := .pointer (some ⟨g, j * 8, none⟩)) rfl rfl (by kernel_rfl) (by kernel_rfl) (by kernel_rfl) (fun _ _ _ h => by first | exact h | cases h.1) (Or.inl ⟨by rfl, fun W hW => ?_⟩) hH ?_
         ·clear hW hH
          go_simp
         simp only [Act.put, List.setIfInBounds_toArray, List.set_cons_zero, List.set_cons_succ]
         refine take_d (i := 8) (d := some 91) (v := .agg (slotCells ls[j]).toArray) rfl rfl (by kernel_rfl) (by kernel_rfl) (by kernel_rfl) (fun _ _ _ h => by first | exact h | cases h.1) (Or.inl ⟨by rfl, fun W hW => ?_⟩) hH ?_
         ·obtain ⟨l', hW, hl', hlj, _⟩ := hW
          have ho := hW.own
          rw [hl'] at ho
          have h8 := own_slot ho hlj
          have k0 := h8 0 _ rfl; have k1 := h8 1 _ rfl; have k2 := h8 2 _ rfl; have k3 := h8 3 _ rfl; have k4 := h8 4 _ rfl; have k5 := h8 5 _ rfl; have k6 := h8 6 _ rfl; have k7 := h8 7 _ rfl
          rw [Nat.add_zero] at k0
          clear h8 hW hH
          unfold slotCells
          go_simp
         simp only [Act.put, List.setIfInBounds_toArray, List.set_cons_zero, List.set_cons_succ]
         refine take_d (i := 9) (d := some 92) (v := .pointer (some ⟨g, (j + 1) * 8, none⟩)) rfl rfl (by kernel_rfl) (by kernel_rfl) (by kernel_rfl) (fun _ _ _ h => by first | exact h | cases h.1) (Or.inl ⟨by rfl, fun W hW => ?_⟩) hH ?_
         ·clear hW hH
          go_simp
         simp only [Act.put, List.setIfInBounds_toArray, List.set_cons_zero, List.set_cons_succ]
         refine wpAnyH_ready (rs := [10]) (by kernel_rfl) (by simp) ?_
         refine AllReadyH.cons rfl (fun K hK => ?_) AllReadyH.nil
         rw [if_pos (by rfl)]
         have hoY := hY1.own
         rw [hdl, hlen] at hoY
         refine wp_store_mid 57 _ _ rfl g ((j + 1) * 8) (slotCells ls[j]).toArray rfl rfl (own_there hoY (by show (j + 1) * 8 + 8 ≤ (c + 1) * 8; omega)) (by kernel_rfl) (by simp [slotCells, Value.oneCell']) ?_
         have hY2 := hY1.put (by rw [hdl, hlen]) (j + 1) ls[j] (by rw [hdl]; omega)
         have hy2 : CellsAt (W1.drew.setCells g ((j + 1) * 8) (slotCells ls[j])) yb 0 (slotCells x) := World.rangeAt_setCells_apart hy1 _ _ _ (.inl (by omega))
         refine hK.out _ _ ⟨_, hY2, by rw [List.length_set, hdl, hlen], by rw [List.getElem?_set_ne (by omega)]; exact down_pre ls x j hj, hy2⟩ (fun hH => ?_)
         clear hK K hH
         refine wpAnyH_done (by kernel_rfl) ?_ _
         have hY3 := hY2.put (by rw [List.length_set, hdl, hlen]) j x (by rw [List.length_set, hdl]; omega)
         have ho2 := hY2.own
         rw [List.length_set, hdl, hlen] at ho2
         have h8 : CellsAt (W1.drew.setCells g ((j + 1) * 8) (slotCells ls[j])) g (j * 8) (slotCells ls[j]) := own_slot ho2 (by rw [List.getElem?_set_ne (by omega)]; exact down_pre ls x j hj)
         have t8 := own_there ho2 (o := j * 8) (m := 8) (by show j * 8 + 8 ≤ (c + 1) * 8; omega)
         have x7 := hY2.cells 7 _ rfl
         clear hy hy1 hY hY1 hoY ho2
         rw [down_swap ls x j hj] at hY3
         generalize W1.drew.setCells g ((j + 1) * 8) (slotCells ls[j]) = W2 at hY2 hY3 hy2 h8 t8 x7 ⊢
         have e0 := h8 0 _ rfl
         have e1 := h8 1 _ rfl
         have e2 := h8 2 _ rfl
         have e3 := h8 3 _ rfl
         have e4 := h8 4 _ rfl
         have e5 := h8 5 _ rfl
         have e6 := h8 6 _ rfl
         have e7 := h8 7 _ rfl
         rw [Nat.add_zero] at e0
         have y0 := hy2 0 _ rfl
         have y1 := hy2 1 _ rfl
         have y2 := hy2 2 _ rfl
         have y3 := hy2 3 _ rfl
         have y4 := hy2 4 _ rfl
         have y5 := hy2 5 _ rfl
         have y6 := hy2 6 _ rfl
         have y7 := hy2 7 _ rfl
         simp only [Nat.zero_add] at y0 y1 y2 y3 y4 y5 y6 y7
         have f0 := (t8 0 (by omega)).2
         have f1 := (t8 1 (by omega)).2
         have f2 := (t8 2 (by omega)).2
         have f3 := (t8 3 (by omega)).2
         have f4 := (t8 4 (by omega)).2
         have f5 := (t8 5 (by omega)).2
         have f6 := (t8 6 (by omega)).2
         have f7 := (t8 7 (by omega)).2
         rw [Nat.add_zero] at f0
         rw [Nat.zero_add] at x7
         clear h8 t8 hY2 hy2
         go_wp2_with fail
         refine ⟨⟨j, rfl, by omega, hY3, down_drop ls x j hj (by exact_mod_cast hless) hdr⟩, ?_⟩
         simp [Go.RowKit.intOf]
        ·rw [decide_eq_false hless] at hrl
         refine take_d (i := 0) (d := some 58) (v := .int .i64 ((j + 1 : Nat) : Int)) rfl rfl (by kernel_rfl) (by kernel_rfl) (by kernel_rfl) (fun _ _ _ h => by first | exact h | cases h.1) (Or.inl ⟨by rfl, fun W hW => ?_⟩) hH ?_
         ·clear hW hH
          go_simp
         simp only [Act.put, List.setIfInBounds_toArray, List.set_cons_zero, List.set_cons_succ]
         refine take_d (i := 1) (d := some 59) (v := .bool true) rfl rfl (by kernel_rfl) (by kernel_rfl) (by kernel_rfl) (fun _ _ _ h => by first | exact h | cases h.1) (Or.inl ⟨by rfl, fun W hW => ?_⟩) hH ?_
         ·clear hW hH
          go_simp
         simp only [Act.put, List.setIfInBounds_toArray, List.set_cons_zero, List.set_cons_succ]
         refine take_d (i := 2) (d := some 60) (v := .bool true) rfl rfl (by kernel_rfl) (by kernel_rfl) (by kernel_rfl) (fun _ _ _ h => by first | exact h | cases h.1) (Or.inl ⟨by rfl, fun W hW => ?_⟩) hH ?_
         ·clear hW hH
          go_simp
         simp only [Act.put, List.setIfInBounds_toArray, List.set_cons_zero, List.set_cons_succ]
         refine take_d (i := 3) (d := some 61) (v := .pointer (some ⟨V.heap.size, 7, none⟩)) rfl rfl (by kernel_rfl) (by kernel_rfl) (by kernel_rfl) (fun _ _ _ h => by first | exact h | cases h.1) (Or.inl ⟨by rfl, fun W hW => ?_⟩) hH ?_
         ·clear hW hH
          go_simp
         simp only [Act.put, List.setIfInBounds_toArray, List.set_cons_zero, List.set_cons_succ]
         refine take_d (i := 4) (d := some 62) (v := .slice (some ⟨g, 0, none⟩) (c + 1) n) rfl rfl (by kernel_rfl) (by kernel_rfl) (by kernel_rfl) (fun _ _ _ h => by first | exact h | cases h.1) (Or.inl ⟨by rfl, fun W hW => ?_⟩) hH ?_
         ·have k7 := hW.cells 7 _ rfl
          rw [Nat.zero_add] at k7
          clear hW hH
          go_simp
         simp only [Act.put, List.setIfInBounds_toArray, List.set_cons_zero, List.set_cons_succ]
         refine take_d (i := 5) (d := some 63) (v := .int .i64 ((j + 1 : Nat) : Int)) rfl rfl (by kernel_rfl) (by kernel_rfl) (by kernel_rfl) (fun _ _ _ h => by first | exact h | cases h.1) (Or.inl ⟨by rfl, fun W hW => ?_⟩) hH ?_
         ·clear hW hH
          go_simp
         simp only [Act.put, List.setIfInBounds_toArray, List.set_cons_zero, List.set_cons_succ]
         refine take_d (i := 6) (d := some 64) (v := .pointer (some ⟨g, (j + 1) * 8, none⟩)) rfl rfl (by kernel_rfl) (by kernel_rfl) (by kernel_rfl) (fun _ _ _ h => by first | exact h | cases h.1) (Or.inl ⟨by rfl, fun W hW => ?_⟩) hH ?_
         ·clear hW hH
          go_simp
         simp only [Act.put, List.setIfInBounds_toArray, List.set_cons_zero, List.set_cons_succ]
         refine take_d (i := 7) (d := some 65) (v := .pointer (some ⟨g, (j + 1) * 8, none⟩)) rfl rfl (by kernel_rfl) (by kernel_rfl) (by kernel_rfl) (fun _ _ _ h => by first | exact h | cases h.1) (Or.inl ⟨by rfl, fun W hW => ?_⟩) hH ?_
         ·clear hW hH
          go_simp
         simp only [Act.put, List.setIfInBounds_toArray, List.set_cons_zero, List.set_cons_succ]
         refine take_d (i := 8) (d := some 66) (v := wd x.1) rfl rfl (by kernel_rfl) (by kernel_rfl) (by kernel_rfl) (fun _ _ _ h => by first | exact h | cases h.1) (Or.inl ⟨by rfl, fun W hW => ?_⟩) hH ?_
         ·have h8 := hx0 W hW
          have k0 := h8 0 _ rfl; have k1 := h8 1 _ rfl; have k2 := h8 2 _ rfl; have k3 := h8 3 _ rfl
          rw [Nat.add_zero] at k0
          clear h8 hW hH
          unfold wd
          go_simp
         simp only [Act.put, List.setIfInBounds_toArray, List.set_cons_zero, List.set_cons_succ]
         refine take_d (i := 9) (d := some 67) (v := .pointer (some ⟨V.heap.size, 7, none⟩)) rfl rfl (by kernel_rfl) (by kernel_rfl) (by kernel_rfl) (fun _ _ _ h => by first | exact h | cases h.1) (Or.inl ⟨by rfl, fun W hW => ?_⟩) hH ?_
         ·clear hW hH
          go_simp
         simp only [Act.put, List.setIfInBounds_toArray, List.set_cons_zero, List.set_cons_succ]
         refine take_d (i := 10) (d := some 68) (v := .slice (some ⟨g, 0, none⟩) (c + 1) n) rfl rfl (by kernel_rfl) (by kernel_rfl) (by kernel_rfl) (fun _ _ _ h => by first | exact h | cases h.1) (Or.inl ⟨by rfl, fun W hW => ?_⟩) hH ?_
         ·have k7 := hW.cells 7 _ rfl
          rw [Nat.zero_add] at k7
          clear hW hH
          go_simp
         simp only [Act.put, List.setIfInBounds_toArray, List.set_cons_zero, List.set_cons_succ]
         refine take_d (i := 11) (d := some 69) (v := .int .i64 ((j + 1 : Nat) : Int)) rfl rfl (by kernel_rfl) (by kernel_rfl) (by kernel_rfl) (fun _ _ _ h => by first | exact h | cases h.1) (Or.inl ⟨by rfl, fun W hW => ?_⟩) hH ?_
         ·clear hW hH
          go_simp
         simp only [Act.put, List.setIfInBounds_toArray, List.set_cons_zero, List.set_cons_succ]
         refine take_d (i := 12) (d := some 70) (v := .int .i64 (j : Int)) rfl rfl (by kernel_rfl) (by kernel_rfl) (by kernel_rfl) (fun _ _ _ h => by first | exact h | cases h.1) (Or.inl ⟨by rfl, fun W hW => ?_⟩) hH ?_
         ·clear hW hH
          go_simp
         simp only [Act.put, List.setIfInBounds_toArray, List.set_cons_zero, List.set_cons_succ]
         refine take_d (i := 13) (d := some 71) (v := .pointer (some ⟨g, j * 8, none⟩)) rfl rfl (by kernel_rfl) (by kernel_rfl) (by kernel_rfl) (fun _ _ _ h => by first | exact h | cases h.1) (Or.inl ⟨by rfl, fun W hW => ?_⟩) hH ?_
         ·clear hW hH
          go_simp
         simp only [Act.put, List.setIfInBounds_toArray, List.set_cons_zero, List.set_cons_succ]
         refine take_d (i := 14) (d := some 72) (v := .pointer (some ⟨g, j * 8, none⟩)) rfl rfl (by kernel_rfl) (by kernel_rfl) (by kernel_rfl) (fun _ _ _ h => by first | exact h | cases h.1) (Or.inl ⟨by rfl, fun W hW => ?_⟩) hH ?_
         ·clear hW hH
          go_simp
         simp only [Act.put, List.setIfInBounds_toArray, List.set_cons_zero, List.set_cons_succ]
         refine take_d (i := 15) (d := some 73) (v := wd ls[j].1) rfl rfl (by kernel_rfl) (by kernel_rfl) (by kernel_rfl) (fun _ _ _ h => by first | exact h | cases h.1) (Or.inl ⟨by rfl, fun W hW => ?_⟩) hH ?_
         ·have h8 := hx1 W hW
          have k0 := h8 0 _ rfl; have k1 := h8 1 _ rfl; have k2 := h8 2 _ rfl; have k3 := h8 3 _ rfl
          rw [Nat.add_zero] at k0
          clear h8 hW hH
          unfold wd
          go_simp
         simp only [Act.put, List.setIfInBounds_toArray, List.set_cons_zero, List.set_cons_succ]
         refine wpAnyH_ready (rs := [16]) (by kernel_rfl) (by simp) ?_
         refine AllReadyH.cons rfl (fun K hK => ?_) AllReadyH.nil
         go_simp
         refine (hrl _).mono ?_
         rintro e wC ⟨rfl, hbn⟩
         go_wp2_with fail
         refine hK.out _ _ (hH.keep hbn) (fun hH => ?_)
         clear hbn hK K
         refine take_d (i := 17) (d := some 75) (v := .bool false) rfl rfl (by kernel_rfl) (by kernel_rfl) (by kernel_rfl) (fun _ _ _ h => by first | exact h | cases h.1) (Or.inl ⟨by rfl, fun W hW => ?_⟩) hH ?_
         ·clear hW hH
          go_simp
         simp only [Act.put, List.setIfInBounds_toArray, List.set_cons_zero, List.set_cons_succ]
         refine wpAnyH_done (by kernel_rfl) ?_ _
         have hux : Up (fun q => (q.1 : Int)) (down ls x (j + 1)) := down_up hup (by omega) hdr (fun i hi e => by
          have e' : i = j := by omega
          subst e'
          have := hne _ (List.getElem_mem hi)
          omega)
         have hcx := down_perm ls x (j + 1)
         go_wp2_with fail
         refine ⟨⟨c + 1, _, _, by go_num, by omega, by rw [hdl, hlen], hH, hcx.trans hpx, hux⟩, ?_⟩
         simp [Go.RowKit.intOf]; omega
    ·have hc' : c = d.slots.length := by omega
     subst hc'
     have hx := hX.cells
     have x0 := hx 0 _ rfl
     have x1 := hx 1 _ rfl
     have x2 := hx 2 _ rfl
     have x3 := hx 3 _ rfl
     have x4 := hx 4 _ rfl
     have x5 := hx 5 _ rfl
     have x6 := hx 6 _ rfl
     have x7 := hx 7 _ rfl
     simp only [Nat.zero_add] at x0 x1 x2 x3 x4 x5 x6 x7
     have hR1 := hR.keep hX.below
     have hb2 : Below wr.heap.size wr (wr.alloc (.cells (accCells d vS).toArray 31)) := (Below.refl _ _).alloc (Nat.le_refl _) _
     have hR2 := hR1.keep hb2
     have hX2 := hX.keep hb2
     have hn2 := cells_new wr (accCells d vS) 31
     have hVw := hX.below.size
     have hsz2 : (wr.alloc (.cells (accCells d vS).toArray 31)).heap.size = wr.heap.size + 1 := by simp
     go_wp2_with (at_builtin; go_loud (refine wpList_append_lies _ (by rfl) _ _ 22 (by rfl) w.heap.size 31 i31 z31 8 88 ((q_underlying 22).trans Tryz.underlying22) hi31 hz31 hs31 hb31 hzs31 (by omega) (.slice vO.a vO.n vO.c) k (flatA os) (by rfl) hR2.own ⟨wr.heap.size, 0, none⟩ 1 1 (accCells d vS) (by rfl) rfl (fun j v hj => by rw [Addr.add_mid]; exact hn2 j v hj) (fun v hv => acc_one d vS v hv) (by omega) (by simp [maxLen]; omega) (by omega) hR2.below.size (wr.heap.size + 1) (by simp) ?_))
     intro g n W3 hown3 hgrow hat hlt3
     have hB3 : Below w.heap.size (wr.alloc (.cells (accCells d vS).toArray 31)) W3 := gb_to_below hgrow (own_ge hR2.own) hR2.below.size
     have hls : ls = srt (fun q => (q.1 : Int)) d.slots := srt_unique (by rw [List.take_length] at hperm; exact hperm) hup
     have hdk : ({ d with slots := ls } : AccD) = sK d := by unfold sK; rw [hls]
     have hlo := own_lt hR.own
     have hvb : ∀ g', vS.blk = some g' → V.heap.size + 1 ≤ g' ∧ g' < wr.heap.size := fun g' h => ⟨own_ge hX.own g' h, own_lt hX.own g' h⟩
     have hne : ∀ p ∈ os, p.1.id ≠ d.id := fun p hp e => by
      have h1 := hR.perm.mem_iff.1 (List.mem_map_of_mem hp)
      obtain ⟨q, hq, hqe⟩ := List.mem_map.1 h1
      obtain ⟨i, hi, he⟩ := List.mem_iff_getElem.1 hq
      have hik : i < k := by simp at hi; omega
      rw [List.getElem_take] at he
      have h2 := List.pairwise_iff_getElem.1 hid i k (by simp; omega) (by simpa using hlt) hik
      have h3 : es[k] = (d, _) := Option.some.inj ((List.getElem?_eq_getElem hlt).symm.trans hgetk)
      have h4 : q.1.id = p.1.id := by rw [← hqe]; rfl
      simp [he, h3, h4, e] at h2
     have hgk : es[k] = (d, _) := Option.some.inj ((List.getElem?_eq_getElem hlt).symm.trans hgetk)
     obtain ⟨x, hx⟩ : ∃ x : AccD × SV, x = ({ d with slots := ls }, vS) := ⟨_, rfl⟩
     have hx1 : x.1 = sK d := by rw [hx]; exact hdk
     have hxc : accCells d vS = accCells x.1 x.2 := by rw [hx]; rfl
     have hxid : x.1.id = d.id := by rw [hx]
     have hperm2 : ((os ++ [x]).map (·.1)).Perm ((es.take (k + 1)).map fun p => sK p.1) := by
      rw [← List.take_append_getElem hlt, List.map_append, List.map_append, List.map_cons, List.map_nil, List.map_cons, List.map_nil, hgk, hx1]
      exact hR.perm.append_right _
     have hsl3 : ∀ p ∈ os ++ [x], W3.ownsRow w.heap.size 57 8 (.slice p.2.a p.2.n p.2.c) p.1.slots.length (flatS p.1.slots) := fun p hp => by
      rcases List.mem_append.1 hp with hp | hp
      ·exact own_grown (hR2.sl p hp) hgrow (hR2.far p hp)
      ·rw [List.mem_singleton.1 hp, hx]
       refine own_grown (own_base hX2.own (by have := hB.size; omega)) hgrow (fun g' h1 h2 => ?_)
       have := (hvb g' h1).1; have := hlo g' h2; omega
     have hfar3 : ∀ p ∈ os ++ [x], ∀ g', p.2.blk = some g' → (SV.mk (some ⟨g, 0, none⟩) (k + 1) n).blk ≠ some g' := fun p hp g' h1 h2 => by
      have e : g = g' := Option.some.inj h2
      rcases List.mem_append.1 hp with hp | hp
      ·rcases hat with hat | hat
       ·exact hR2.far p hp g' h1 (by rw [← e]; exact hat)
       ·have := own_lt (hR.sl p hp) g' h1
        omega
      ·rw [List.mem_singleton.1 hp, hx] at h1
       have h3 := hvb g' h1
       rcases hat with hat | hat
       ·have := hlo g hat
        omega
       ·omega
     have hap3 : (os ++ [x]).Pairwise fun p q => ∀ g', p.2.blk = some g' → q.2.blk ≠ some g' := by
      refine List.pairwise_append.2 ⟨hR.apart, List.pairwise_singleton _ _, fun p hp q hq g' h1 h2 => ?_⟩
      rw [List.mem_singleton.1 hq, hx] at h2
      have := own_lt (hR.sl p hp) g' h1
      have := (hvb g' h2).1
      omega
     have hown4 : W3.ownsRow w.heap.size 31 8 (.slice (some ⟨g, 0, none⟩) (k + 1) n) (k + 1) (flatA (down os x k)) := by
      have e : down os x k = os ++ [x] := by have := hR.num; unfold down; rw [List.take_of_length_le (by omega), List.drop_of_length_le (by omega)]
      rw [e, flatA_append, flatA, flatA, List.append_nil, ← hxc]
      exact hown3
     have hbW3 : Below w.heap.size w W3 := hR2.below.trans hB3
     have hnumo := hR.num
     clear hown3 hgrow hat hlt3 hn2 hX2 hR2 hB3 hb2 hR1 hX x0 x1 x2 x3 x4 x5 x6 x7 c7 hpc2
     rw [← hxid] at hne
     clear hx hx1 hxc hxid
     go_wp2_with fail
     go_loopw [9] (fun j W => ∃ jn : Nat, j = .int .i64 jn ∧ jn ≤ k ∧ Rq w W g k n (down os x jn) (os ++ [x]) ∧ ∀ y ∈ os.drop jn, x.1.id < y.1.id) (fun j _ => (Go.RowKit.intOf j).toNat)
     case atStart => exact ⟨k, rfl, Nat.le_refl _, ⟨hbW3, hown4, hsl3⟩, by rw [List.drop_of_length_le (by omega)]; simp⟩
     case round =>
      clear hbW3 hown4 hsl3
      obtain ⟨jn, rfl, hjk, hQ, hdr⟩ := hrel
      have hfin : ∀ W, Rq w W g k n (down os x jn) (os ++ [x]) → Up (fun p => p.1.id) (down os x jn) → Ro w W es ⟨some ⟨g, 0, none⟩, k + 1, n⟩ (down os x jn) (k + 1) := fun W h1 h4 => by
       have hdp := down_perm os x jn
       refine ⟨h1.below, by rw [down_len os x jn (by omega), hnumo], h1.own, fun p hp => h1.sl p (hdp.mem_iff.1 hp), fun p hp => hfar3 p (hdp.mem_iff.1 hp), (hdp.pairwise_iff (fun h g' h1 h2 => h g' h2 h1)).2 hap3, (hdp.map _).trans hperm2, h4⟩
      rcases jn with _ | j
      ·go_wp2_with fail
       refine wp_region_held_drew (S := fun W => Rq w W g k n (down os x 0) (os ++ [x])) (by kernel_rfl) (hQ.keep (Below.refl _ _).drew) (fun hH => ?_)
       refine take_d (i := 0) (d := some 104) (v := .int .i64 0) rfl rfl (by kernel_rfl) (by kernel_rfl) (by kernel_rfl) (fun _ _ _ h => by first | exact h | cases h.1) (Or.inl ⟨by rfl, fun W hW => ?_⟩) hH ?_
       ·clear hW hH
        go_simp
       simp only [Act.put, List.setIfInBounds_toArray, List.set_cons_zero, List.set_cons_succ]
       refine take_d (i := 1) (d := some 105) (v := .bool false) rfl rfl (by kernel_rfl) (by kernel_rfl) (by kernel_rfl) (fun _ _ _ h => by first | exact h | cases h.1) (Or.inl ⟨by rfl, fun W hW => ?_⟩) hH ?_
       ·clear hW hH
        go_simp
       simp only [Act.put, List.setIfInBounds_toArray, List.set_cons_zero, List.set_cons_succ]
       refine take_d (i := 2) (d := some 106) (v := .bool false) rfl rfl (by kernel_rfl) (by kernel_rfl) (by kernel_rfl) (fun _ _ _ h => by first | exact h | cases h.1) (Or.inl ⟨by rfl, fun W hW => ?_⟩) hH ?_
       ·clear hW hH
        go_simp
       simp only [Act.put, List.setIfInBounds_toArray, List.set_cons_zero, List.set_cons_succ]
       refine take_d (i := 3) (d := some 107) (v := undef) rfl rfl (by kernel_rfl) (by kernel_rfl) (by kernel_rfl) (fun _ _ _ h => by first | exact h | cases h.1) (Or.inr ⟨by rfl, rfl⟩) hH ?_
       simp only [Act.put, List.setIfInBounds_toArray, List.set_cons_zero, List.set_cons_succ]
       refine take_d (i := 4) (d := some 108) (v := undef) rfl rfl (by kernel_rfl) (by kernel_rfl) (by kernel_rfl) (fun _ _ _ h => by first | exact h | cases h.1) (Or.inr ⟨by rfl, rfl⟩) hH ?_
       simp only [Act.put, List.setIfInBounds_toArray, List.set_cons_zero, List.set_cons_succ]
       refine take_d (i := 5) (d := some 109) (v := undef) rfl rfl (by kernel_rfl) (by kernel_rfl) (by kernel_rfl) (fun _ _ _ h => by first | exact h | cases h.1) (Or.inr ⟨by rfl, rfl⟩) hH ?_
       simp only [Act.put, List.setIfInBounds_toArray, List.set_cons_zero, List.set_cons_succ]
       refine take_d (i := 6) (d := some 110) (v := undef) rfl rfl (by kernel_rfl) (by kernel_rfl) (by kernel_rfl) (fun _ _ _ h => by first | exact h | cases h.1) (Or.inr ⟨by rfl, rfl⟩) hH ?_
       simp only [Act.put, List.setIfInBounds_toArray, List.set_cons_zero, List.set_cons_succ]
       refine take_d (i := 7) (d := some 111) (v := undef) rfl rfl (by kernel_rfl) (by kernel_rfl) (by kernel_rfl) (fun _ _ _ h => by first | exact h | cases h.1) (Or.inr ⟨by rfl, rfl⟩) hH ?_
       simp only [Act.put, List.setIfInBounds_toArray, List.set_cons_zero, List.set_cons_succ]
       refine take_d (i := 8) (d := some 112) (v := undef) rfl rfl (by kernel_rfl) (by kernel_rfl) (by kernel_rfl) (fun _ _ _ h => by first | exact h | cases h.1) (Or.inr ⟨by rfl, rfl⟩) hH ?_
       simp only [Act.put, List.setIfInBounds_toArray, List.set_cons_zero, List.set_cons_succ]
       refine take_d (i := 9) (d := some 113) (v := undef) rfl rfl (by kernel_rfl) (by kernel_rfl) (by kernel_rfl) (fun _ _ _ h => by first | exact h | cases h.1) (Or.inr ⟨by rfl, rfl⟩) hH ?_
       simp only [Act.put, List.setIfInBounds_toArray, List.set_cons_zero, List.set_cons_succ]
       refine take_d (i := 10) (d := some 114) (v := undef) rfl rfl (by kernel_rfl) (by kernel_rfl) (by kernel_rfl) (fun _ _ _ h => by first | exact h | cases h.1) (Or.inr ⟨by rfl, rfl⟩) hH ?_
       simp only [Act.put, List.setIfInBounds_toArray, List.set_cons_zero, List.set_cons_succ]
       refine take_d (i := 11) (d := some 115) (v := undef) rfl rfl (by kernel_rfl) (by kernel_rfl) (by kernel_rfl) (fun _ _ _ h => by first | exact h | cases h.1) (Or.inr ⟨by rfl, rfl⟩) hH ?_
       simp only [Act.put, List.setIfInBounds_toArray, List.set_cons_zero, List.set_cons_succ]
       refine take_d (i := 12) (d := some 116) (v := undef) rfl rfl (by kernel_rfl) (by kernel_rfl) (by kernel_rfl) (fun _ _ _ h => by first | exact h | cases h.1) (Or.inr ⟨by rfl, rfl⟩) hH ?_
       simp only [Act.put, List.setIfInBounds_toArray, List.set_cons_zero, List.set_cons_succ]
       refine take_d (i := 13) (d := some 117) (v := undef) rfl rfl (by kernel_rfl) (by kernel_rfl) (by kernel_rfl) (fun _ _ _ h => by first | exact h | cases h.1) (Or.inr ⟨by rfl, rfl⟩) hH ?_
       simp only [Act.put, List.setIfInBounds_toArray, List.set_cons_zero, List.set_cons_succ]
       refine take_d (i := 14) (d := some 118) (v := undef) rfl rfl (by kernel_rfl) (by kernel_rfl) (by kernel_rfl) (fun _ _ _ h => by first | exact h | cases h.1) (Or.inr ⟨by rfl, rfl⟩) hH ?_
       simp only [Act.put, List.setIfInBounds_toArray, List.set_cons_zero, List.set_cons_succ]
       refine take_d (i := 15) (d := some 119) (v := .bool false) rfl rfl (by kernel_rfl) (by kernel_rfl) (by kernel_rfl) (fun _ _ _ h => by first | exact h | cases h.1) (Or.inl ⟨by rfl, fun W hW => ?_⟩) hH ?_
       ·clear hW hH
        go_simp
       simp only [Act.put, List.setIfInBounds_toArray, List.set_cons_zero, List.set_cons_succ]
       refine wpAnyH_done (by kernel_rfl) ?_ _
       have hux : Up (fun p => p.1.id) (down os x 0) := down_up hR.up (Nat.zero_le _) hdr (fun i hi e => by omega)
       go_wp2_with fail
       refine ⟨⟨k + 1, ⟨some ⟨g, 0, none⟩, k + 1, n⟩, _, rfl, by go_num, by omega, hfin _ hH hux⟩, ?_⟩
       simp [Go.RowKit.intOf]; omega
      ·have hj : j < os.length := by omega
       have hdl := down_len os x (j + 1) (by omega)
       have hx0 : ∀ W, Rq w W g k n (down os x (j + 1)) (os ++ [x]) → CellsAt W g ((j + 1) * 8) (accCells x.1 x.2) := fun W hW => own_acc hW.own (down_at os x (j + 1) (by omega))
       have hx1' : ∀ W, Rq w W g k n (down os x (j + 1)) (os ++ [x]) → CellsAt W g (j * 8) (accCells os[j].1 os[j].2) := fun W hW => own_acc hW.own (down_pre os x j hj)
       have hjc1 : (j : Int) + 1 < (k : Int) + 1 := by omega
       have hjc2 : (j : Int) < (k : Int) + 1 := by omega
       have hpos : (0 : Int) < ((j + 1 : Nat) : Int) := by omega
       have hjn : ¬ (j : Int) + 1 < 0 := by omega
       have hwr : IntKind.i64.wrap (j : Int) = (j : Int) := IntWalk.i64_in _ (by omega)
       go_wp2_with fail
       refine wp_region_held_drew (S := fun W => Rq w W g k n (down os x (j + 1)) (os ++ [x])) (by kernel_rfl) (hQ.keep (Below.refl _ _).drew) (fun hH => ?_)
       by_cases hless : x.1.id < os[j].1.id
       ·skip
        refine take_d (i := 0) (d := some 104) (v := .int .i64 ((j + 1 : Nat) : Int)) rfl rfl (by kernel_rfl) (by kernel_rfl) (by kernel_rfl) (fun _ _ _ h => by first | exact h | cases h.1) (Or.inl ⟨by rfl, fun W hW => ?_⟩) hH ?_
        ·clear hW hH
         go_simp
        simp only [Act.put, List.setIfInBounds_toArray, List.set_cons_zero, List.set_cons_succ]
        refine take_d (i := 1) (d := some 105) (v := .bool true) rfl rfl (by kernel_rfl) (by kernel_rfl) (by kernel_rfl) (fun _ _ _ h => by first | exact h | cases h.1) (Or.inl ⟨by rfl, fun W hW => ?_⟩) hH ?_
        ·clear hW hH
         go_simp
        simp only [Act.put, List.setIfInBounds_toArray, List.set_cons_zero, List.set_cons_succ]
        refine take_d (i := 2) (d := some 106) (v := .bool true) rfl rfl (by kernel_rfl) (by kernel_rfl) (by kernel_rfl) (fun _ _ _ h => by first | exact h | cases h.1) (Or.inl ⟨by rfl, fun W hW => ?_⟩) hH ?_
        ·clear hW hH
         go_simp
        simp only [Act.put, List.setIfInBounds_toArray, List.set_cons_zero, List.set_cons_succ]
        refine take_d (i := 3) (d := some 107) (v := .slice (some ⟨g, 0, none⟩) (k + 1) n) rfl rfl (by kernel_rfl) (by kernel_rfl) (by kernel_rfl) (fun _ _ _ h => by first | exact h | cases h.1) (Or.inl ⟨by rfl, fun W hW => ?_⟩) hH ?_
        ·clear hW hH
         go_simp
        simp only [Act.put, List.setIfInBounds_toArray, List.set_cons_zero, List.set_cons_succ]
        refine take_d (i := 4) (d := some 108) (v := .int .i64 ((j + 1 : Nat) : Int)) rfl rfl (by kernel_rfl) (by kernel_rfl) (by kernel_rfl) (fun _ _ _ h => by first | exact h | cases h.1) (Or.inl ⟨by rfl, fun W hW => ?_⟩) hH ?_
        ·clear hW hH
         go_simp
        simp only [Act.put, List.setIfInBounds_toArray, List.set_cons_zero, List.set_cons_succ]
        refine take_d (i := 5) (d := some 109) (v := .pointer (some ⟨g, (j + 1) * 8, none⟩)) rfl rfl (by kernel_rfl) (by kernel_rfl) (by kernel_rfl) (fun _ _ _ h => by first | exact h | cases h.1) (Or.inl ⟨by rfl, fun W hW => ?_⟩) hH ?_
        ·clear hW hH
         go_simp
        simp only [Act.put, List.setIfInBounds_toArray, List.set_cons_zero, List.set_cons_succ]
        refine take_d (i := 6) (d := some 110) (v := .pointer (some ⟨g, (j + 1) * 8, none⟩)) rfl rfl (by kernel_rfl) (by kernel_rfl) (by kernel_rfl) (fun _ _ _ h => by first | exact h | cases h.1) (Or.inl ⟨by rfl, fun W hW => ?_⟩) hH ?_
        ·clear hW hH
         go_simp
        simp only [Act.put, List.setIfInBounds_toArray, List.set_cons_zero, List.set_cons_succ]
        refine take_d (i := 7) (d := some 111) (v := .int .i64 x.1.id) rfl rfl (by kernel_rfl) (by kernel_rfl) (by kernel_rfl) (fun _ _ _ h => by first | exact h | cases h.1) (Or.inl ⟨by rfl, fun W hW => ?_⟩) hH ?_
        ·have k0 := hx0 W hW 0 _ rfl
         rw [Nat.add_zero] at k0
         clear hW hH
         go_simp
        simp only [Act.put, List.setIfInBounds_toArray, List.set_cons_zero, List.set_cons_succ]
        refine take_d (i := 8) (d := some 112) (v := .slice (some ⟨g, 0, none⟩) (k + 1) n) rfl rfl (by kernel_rfl) (by kernel_rfl) (by kernel_rfl) (fun _ _ _ h => by first | exact h | cases h.1) (Or.inl ⟨by rfl, fun W hW => ?_⟩) hH ?_
        ·clear hW hH
         go_simp
        simp only [Act.put, List.setIfInBounds_toArray, List.set_cons_zero, List.set_cons_succ]
        refine take_d (i := 9) (d := some 113) (v := .int .i64 ((j + 1 : Nat) : Int)) rfl rfl (by kernel_rfl) (by kernel_rfl) (by kernel_rfl) (fun _ _ _ h => by first | exact h | cases h.1) (Or.inl ⟨by rfl, fun W hW => ?_⟩) hH ?_
        ·clear hW hH
         go_simp
        simp only [Act.put, List.setIfInBounds_toArray, List.set_cons_zero, List.set_cons_succ]
        refine take_d (i := 10) (d := some 114) (v := .int .i64 (j : Int)) rfl rfl (by kernel_rfl) (by kernel_rfl) (by kernel_rfl) (fun _ _ _ h => by first | exact h | cases h.1) (Or.inl ⟨by rfl, fun W hW => ?_⟩) hH ?_
        ·clear hW hH
         go_simp
        simp only [Act.put, List.setIfInBounds_toArray, List.set_cons_zero, List.set_cons_succ]
        refine take_d (i := 11) (d := some 115) (v := .pointer (some ⟨g, j * 8, none⟩)) rfl rfl (by kernel_rfl) (by kernel_rfl) (by kernel_rfl) (fun _ _ _ h => by first | exact h | cases h.1) (Or.inl ⟨by rfl, fun W hW => ?_⟩) hH ?_
        ·clear hW hH
         go_simp
        simp only [Act.put, List.setIfInBounds_toArray, List.set_cons_zero, List.set_cons_succ]
        refine take_d (i := 12) (d := some 116) (v := .pointer (some ⟨g, j * 8, none⟩)) rfl rfl (by kernel_rfl) (by kernel_rfl) (by kernel_rfl) (fun _ _ _ h => by first | exact h | cases h.1) (Or.inl ⟨by rfl, fun W hW => ?_⟩) hH ?_
        ·clear hW hH
         go_simp
        simp only [Act.put, List.setIfInBounds_toArray, List.set_cons_zero, List.set_cons_succ]
        refine take_d (i := 13) (d := some 117) (v := .int .i64 os[j].1.id) rfl rfl (by kernel_rfl) (by kernel_rfl) (by kernel_rfl) (fun _ _ _ h => by first | exact h | cases h.1) (Or.inl ⟨by rfl, fun W hW => ?_⟩) hH ?_
        ·have k0 := hx1' W hW 0 _ rfl
         rw [Nat.add_zero] at k0
         clear hW hH
         go_simp
        simp only [Act.put, List.setIfInBounds_toArray, List.set_cons_zero, List.set_cons_succ]
        refine take_d (i := 14) (d := some 118) (v := .bool true) rfl rfl (by kernel_rfl) (by kernel_rfl) (by kernel_rfl) (fun _ _ _ h => by first | exact h | cases h.1) (Or.inl ⟨by rfl, fun W hW => ?_⟩) hH ?_
        ·clear hW hH
         go_simp
        simp only [Act.put, List.setIfInBounds_toArray, List.set_cons_zero, List.set_cons_succ]
        refine take_d (i := 15) (d := some 119) (v := .bool true) rfl rfl (by kernel_rfl) (by kernel_rfl) (by kernel_rfl) (fun _ _ _ h => by first | exact h | cases h.1) (Or.inl ⟨by rfl, fun W hW => ?_⟩) hH ?_
        ·clear hW hH
         go_simp
        simp only [Act.put, List.setIfInBounds_toArray, List.set_cons_zero, List.set_cons_succ]
        refine wpAnyH_done (by kernel_rfl) ?_ _
        generalize wr.drew = W0 at hH ⊢
        have h8 := hx0 W0 hH
        have e0 := h8 0 _ rfl
        have e1 := h8 1 _ rfl
        have e2 := h8 2 _ rfl
        have e3 := h8 3 _ rfl
        have e4 := h8 4 _ rfl
        have e5 := h8 5 _ rfl
        have e6 := h8 6 _ rfl
        have e7 := h8 7 _ rfl
        rw [Nat.add_zero] at e0
        have hb1 : Below W0.heap.size W0 (W0.alloc (.cells (accCells x.1 x.2).toArray 31)) := (Below.refl _ _).alloc (Nat.le_refl _) _
        have hY := hH.keep hb1
        have hy := cells_new W0 (accCells x.1 x.2) 31
        have hgy : g < W0.heap.size := own_lt hH.own g rfl
        go_upto_region 22 with fail
        clear h8 e0 e1 e2 e3 e4 e5 e6 e7
        change Code.wp _ _ _ _ (W0.alloc (.cells (accCells x.1 x.2).toArray 31))
        generalize W0.alloc (.cells (accCells x.1 x.2).toArray 31) = W1 at hY hy ⊢
        clear hb1 hH
        generalize W0.heap.size = yb at hy hgy ⊢
        have h8 := hx0 W1 hY
        have t8 := own_there hY.own (o := (j + 1) * 8) (m := 8) (by show (j + 1) * 8 + 8 ≤ (k + 1) * 8; omega)
        have h9 := hx1' W1 hY
        have e0 := h8 0 _ rfl
        have e1 := h8 1 _ rfl
        have e2 := h8 2 _ rfl
        have e3 := h8 3 _ rfl
        have e4 := h8 4 _ rfl
        have e5 := h8 5 _ rfl
        have e6 := h8 6 _ rfl
        have e7 := h8 7 _ rfl
        rw [Nat.add_zero] at e0
        have z0 := h9 0 _ rfl
        have z1 := h9 1 _ rfl
        have z2 := h9 2 _ rfl
        have z3 := h9 3 _ rfl
        have z4 := h9 4 _ rfl
        have z5 := h9 5 _ rfl
        have z6 := h9 6 _ rfl
        have z7 := h9 7 _ rfl
        rw [Nat.add_zero] at z0
        have f0 := (t8 0 (by omega)).2
        have f1 := (t8 1 (by omega)).2
        have f2 := (t8 2 (by omega)).2
        have f3 := (t8 3 (by omega)).2
        have f4 := (t8 4 (by omega)).2
        have f5 := (t8 5 (by omega)).2
        have f6 := (t8 6 (by omega)).2
        have f7 := (t8 7 (by omega)).2
        rw [Nat.add_zero] at f0
        clear h8 t8 h9
        go_upto_region 23 with fail
        clear e0 e1 e2 e3 e4 e5 e6 e7 z0 z1 z2 z3 z4 z5 z6 z7 f0 f1 f2 f3 f4 f5 f6 f7
        change Code.wp _ _ _ _ (W1.setCells g ((j + 1) * 8) (accCells os[j].1 os[j].2))
        have hY2 := hY.put (j + 1) os[j] (by rw [hdl]; omega) hfar3
        have hy2 : CellsAt (W1.setCells g ((j + 1) * 8) (accCells os[j].1 os[j].2)) yb 0 (accCells x.1 x.2) := World.rangeAt_setCells_apart hy _ _ _ (.inl (by omega))
        clear hY hy
        generalize W1.setCells g ((j + 1) * 8) (accCells os[j].1 os[j].2) = W2 at hY2 hy2 ⊢
        have h8 := own_acc hY2.own (i := j) (p := os[j]) (by rw [List.getElem?_set_ne (by omega)]; exact down_pre os x j hj)
        have t8 := own_there hY2.own (o := j * 8) (m := 8) (by show j * 8 + 8 ≤ (k + 1) * 8; omega)
        have e0 := h8 0 _ rfl
        have e1 := h8 1 _ rfl
        have e2 := h8 2 _ rfl
        have e3 := h8 3 _ rfl
        have e4 := h8 4 _ rfl
        have e5 := h8 5 _ rfl
        have e6 := h8 6 _ rfl
        have e7 := h8 7 _ rfl
        rw [Nat.add_zero] at e0
        have y0 := hy2 0 _ rfl
        have y1 := hy2 1 _ rfl
        have y2 := hy2 2 _ rfl
        have y3 := hy2 3 _ rfl
        have y4 := hy2 4 _ rfl
        have y5 := hy2 5 _ rfl
        have y6 := hy2 6 _ rfl
        have y7 := hy2 7 _ rfl
        simp only [Nat.zero_add] at y0 y1 y2 y3 y4 y5 y6 y7
        have f0 := (t8 0 (by omega)).2
        have f1 := (t8 1 (by omega)).2
        have f2 := (t8 2 (by omega)).2
        have f3 := (t8 3 (by omega)).2
        have f4 := (t8 4 (by omega)).2
        have f5 := (t8 5 (by omega)).2
        have f6 := (t8 6 (by omega)).2
        have f7 := (t8 7 (by omega)).2
        rw [Nat.add_zero] at f0
        clear h8 t8 hy2
        have hY3 := hY2.put j x (by rw [List.length_set, hdl]; omega) hfar3
        rw [down_swap os x j hj] at hY3
        go_wp2_with fail
        refine ⟨⟨j, rfl, by omega, hY3, down_drop (f := fun p : AccD × SV => p.1.id) os x j hj hless hdr⟩, ?_⟩
        simp [Go.RowKit.intOf]
       ·skip
        refine take_d (i := 0) (d := some 104) (v := .int .i64 ((j + 1 : Nat) : Int)) rfl rfl (by kernel_rfl) (by kernel_rfl) (by kernel_rfl) (fun _ _ _ h => by first | exact h | cases h.1) (Or.inl ⟨by rfl, fun W hW => ?_⟩) hH ?_
        ·clear hW hH
         go_simp
        simp only [Act.put, List.setIfInBounds_toArray, List.set_cons_zero, List.set_cons_succ]
        refine take_d (i := 1) (d := some 105) (v := .bool true) rfl rfl (by kernel_rfl) (by kernel_rfl) (by kernel_rfl) (fun _ _ _ h => by first | exact h | cases h.1) (Or.inl ⟨by rfl, fun W hW => ?_⟩) hH ?_
        ·clear hW hH
         go_simp
        simp only [Act.put, List.setIfInBounds_toArray, List.set_cons_zero, List.set_cons_succ]
        refine take_d (i := 2) (d := some 106) (v := .bool true) rfl rfl (by kernel_rfl) (by kernel_rfl) (by kernel_rfl) (fun _ _ _ h => by first | exact h | cases h.1) (Or.inl ⟨by rfl, fun W hW => ?_⟩) hH ?_
        ·clear hW hH
         go_simp
        simp only [Act.put, List.setIfInBounds_toArray, List.set_cons_zero, List.set_cons_succ]
        refine take_d (i := 3) (d := some 107) (v := .slice (some ⟨g, 0, none⟩) (k + 1) n) rfl rfl (by kernel_rfl) (by kernel_rfl) (by kernel_rfl) (fun _ _ _ h => by first | exact h | cases h.1) (Or.inl ⟨by rfl, fun W hW => ?_⟩) hH ?_
        ·clear hW hH
         go_simp
        simp only [Act.put, List.setIfInBounds_toArray, List.set_cons_zero, List.set_cons_succ]
        refine take_d (i := 4) (d := some 108) (v := .int .i64 ((j + 1 : Nat) : Int)) rfl rfl (by kernel_rfl) (by kernel_rfl) (by kernel_rfl) (fun _ _ _ h => by first | exact h | cases h.1) (Or.inl ⟨by rfl, fun W hW => ?_⟩) hH ?_
        ·clear hW hH
         go_simp
        simp only [Act.put, List.setIfInBounds_toArray, List.set_cons_zero, List.set_cons_succ]
        refine take_d (i := 5) (d := some 109) (v := .pointer (some ⟨g, (j + 1) * 8, none⟩)) rfl rfl (by kernel_rfl) (by kernel_rfl) (by kernel_rfl) (fun _ _ _ h => by first | exact h | cases h.1) (Or.inl ⟨by rfl, fun W hW => ?_⟩) hH ?_
        ·clear hW hH
         go_simp
        simp only [Act.put, List.setIfInBounds_toArray, List.set_cons_zero, List.set_cons_succ]
        refine take_d (i := 6) (d := some 110) (v := .pointer (some ⟨g, (j + 1) * 8, none⟩)) rfl rfl (by kernel_rfl) (by kernel_rfl) (by kernel_rfl) (fun _ _ _ h => by first | exact h | cases h.1) (Or.inl ⟨by rfl, fun W hW => ?_⟩) hH ?_
        ·clear hW hH
         go_simp
        simp only [Act.put, List.setIfInBounds_toArray, List.set_cons_zero, List.set_cons_succ]
        refine take_d (i := 7) (d := some 111) (v := .int .i64 x.1.id) rfl rfl (by kernel_rfl) (by kernel_rfl) (by kernel_rfl) (fun _ _ _ h => by first | exact h | cases h.1) (Or.inl ⟨by rfl, fun W hW => ?_⟩) hH ?_
        ·have k0 := hx0 W hW 0 _ rfl
         rw [Nat.add_zero] at k0
         clear hW hH
         go_simp
        simp only [Act.put, List.setIfInBounds_toArray, List.set_cons_zero, List.set_cons_succ]
        refine take_d (i := 8) (d := some 112) (v := .slice (some ⟨g, 0, none⟩) (k + 1) n) rfl rfl (by kernel_rfl) (by kernel_rfl) (by kernel_rfl) (fun _ _ _ h => by first | exact h | cases h.1) (Or.inl ⟨by rfl, fun W hW => ?_⟩) hH ?_
        ·clear hW hH
         go_simp
        simp only [Act.put, List.setIfInBounds_toArray, List.set_cons_zero, List.set_cons_succ]
        refine take_d (i := 9) (d := some 113) (v := .int .i64 ((j + 1 : Nat) : Int)) rfl rfl (by kernel_rfl) (by kernel_rfl) (by kernel_rfl) (fun _ _ _ h => by first | exact h | cases h.1) (Or.inl ⟨by rfl, fun W hW => ?_⟩) hH ?_
        ·clear hW hH
         go_simp
        simp only [Act.put, List.setIfInBounds_toArray, List.set_cons_zero, List.set_cons_succ]
        refine take_d (i := 10) (d := some 114) (v := .int .i64 (j : Int)) rfl rfl (by kernel_rfl) (by kernel_rfl) (by kernel_rfl) (fun _ _ _ h => by first | exact h | cases h.1) (Or.inl ⟨by rfl, fun W hW => ?_⟩) hH ?_
        ·clear hW hH
         go_simp
        simp only [Act.put, List.setIfInBounds_toArray, List.set_cons_zero, List.set_cons_succ]
        refine take_d (i := 11) (d := some 115) (v := .pointer (some ⟨g, j * 8, none⟩)) rfl rfl (by kernel_rfl) (by kernel_rfl) (by kernel_rfl) (fun _ _ _ h => by first | exact h | cases h.1) (Or.inl ⟨by rfl, fun W hW => ?_⟩) hH ?_
        ·clear hW hH
         go_simp
        simp only [Act.put, List.setIfInBounds_toArray, List.set_cons_zero, List.set_cons_succ]
        refine take_d (i := 12) (d := some 116) (v := .pointer (some ⟨g, j * 8, none⟩)) rfl rfl (by kernel_rfl) (by kernel_rfl) (by kernel_rfl) (fun _ _ _ h => by first | exact h | cases h.1) (Or.inl ⟨by rfl, fun W hW => ?_⟩) hH ?_
        ·clear hW hH
         go_simp
        simp only [Act.put, List.setIfInBounds_toArray, List.set_cons_zero, List.set_cons_succ]
        refine take_d (i := 13) (d := some 117) (v := .int .i64 os[j].1.id) rfl rfl (by kernel_rfl) (by kernel_rfl) (by kernel_rfl) (fun _ _ _ h => by first | exact h | cases h.1) (Or.inl ⟨by rfl, fun W hW => ?_⟩) hH ?_
        ·have k0 := hx1' W hW 0 _ rfl
         rw [Nat.add_zero] at k0
         clear hW hH
         go_simp
        simp only [Act.put, List.setIfInBounds_toArray, List.set_cons_zero, List.set_cons_succ]
        refine take_d (i := 14) (d := some 118) (v := .bool false) rfl rfl (by kernel_rfl) (by kernel_rfl) (by kernel_rfl) (fun _ _ _ h => by first | exact h | cases h.1) (Or.inl ⟨by rfl, fun W hW => ?_⟩) hH ?_
        ·clear hW hH
         go_simp
        simp only [Act.put, List.setIfInBounds_toArray, List.set_cons_zero, List.set_cons_succ]
        refine take_d (i := 15) (d := some 119) (v := .bool false) rfl rfl (by kernel_rfl) (by kernel_rfl) (by kernel_rfl) (fun _ _ _ h => by first | exact h | cases h.1) (Or.inl ⟨by rfl, fun W hW => ?_⟩) hH ?_
        ·clear hW hH
         go_simp
        simp only [Act.put, List.setIfInBounds_toArray, List.set_cons_zero, List.set_cons_succ]
        refine wpAnyH_done (by kernel_rfl) ?_ _
        have hux : Up (fun p => p.1.id) (down os x (j + 1)) := down_up hR.up (by omega) hdr (fun i hi e => by
         have e' : i = j := by omega
         subst e'
         have := hne _ (List.getElem_mem hi)
         omega)
        go_wp2_with fail
        refine ⟨⟨k + 1, ⟨some ⟨g, 0, none⟩, k + 1, n⟩, _, rfl, by go_num, by omega, hfin _ hH hux⟩, ?_⟩
        simp [Go.RowKit.intOf]; omega
  ·have hk' : k = es.length := by omega
   subst hk'
   go_wp2_with fail
   simp [bodyPost, results, Tryz.results14, go_sem]
   have hp := hR.perm
   rw [List.take_length] at hp
   have hown := hR.own
   rw [← hR.num] at hown
   exact ⟨vO, ⟨rfl, rfl, rfl⟩, hB, os, ⟨hown, hR.sl, hR.far, hR.apart⟩, told_of hp hR.up⟩
end Go.Mark
