/-
 made (4): the loop behind New.
-/
import Derived.Test.YtbephahokhnccaaGreatI3
namespace Go.Mark
open Go.RowKit Go.Proofs
theorem InR.at {w₀ W : World} {a : Option Addr} {ds : List (AccD × SV)} (h : InR w₀ a ds) (hs : ∀ p x, w₀.cell? p = some x → W.cell? p = some x) : InR W a ds :=
 ⟨h.acc.imp id fun ⟨b, o, h1, h2⟩ => ⟨b, o, h1, fun i p hp j v hj => hs _ _ (h2 i p hp j v hj)⟩, fun p hp => ⟨(h.sl p hp).1, (h.sl p hp).2.imp id fun ⟨b, o, h1, h2⟩ => ⟨b, o, h1, fun i q hq j v hj => hs _ _ (h2 i q hq j v hj)⟩⟩, h.bal, h.num, h.key, h.len⟩
section
variable {ds es : List (AccD × SV)} {a : Option Addr} {cap E : Nat} {vR : SV} {t : Nat → Value} {u w₀ : World}
set_option maxRecDepth 100000 in
set_option maxHeartbeats 8000000 in
/-- the loop behind New -/
theorem loop4 (hL : Lay E u ds es 8 vR []) (hel : es.length = ds.length) (hw₀ : w₀.heap.size = E) (hI : InR w₀ a ds) (hag : ∀ p x, w₀.cell? p = some x → u.cell? p = some x) (z9 z10 z11 : Value) (c : Code) (Q : Exit → Act → World → Prop) (hQp : ∀ ch (a : Act) (d : Option Tmp) (v : Value) (w : World), Q (.panic ch) (a.put d v) w → Q (.panic ch) a w)
  (hΦ : Shut (∀ (T : Array Value) (W : World), T.size = 146 → T[9]? = some z9 → T[10]? = some z10 → T[11]? = some z11 → Kept (Xm E es) u W → c.wp TryQ.prog Q ⟨T, []⟩ W)) :
  (Code.seq l4 c).wp TryQ.prog Q ⟨#[.slice a ds.length cap, t 1, t 2, t 3, .int .i64 (ds.length : Int), .slice (some ⟨E, 0, none⟩) (ds.length + 8) (ds.length + 8), .slice vR.a vR.n vR.c, t 7, t 8, z9, z10, z11, t 12, t 13, t 14, t 15, t 16, t 17, t 18, t 19, t 20, t 21, t 22, t 23, t 24, t 25, t 26, t 27, t 28, t 29, t 30, t 31, t 32, t 33, t 34, t 35, t 36, t 37, t 38, t 39, t 40, t 41, t 42, t 43, t 44, t 45, t 46, t 47, t 48, t 49, t 50, t 51, t 52, t 53, t 54, t 55, t 56, t 57, t 58, t 59, t 60, t 61, t 62, t 63, t 64, t 65, t 66, t 67, t 68, t 69, t 70, t 71, t 72, t 73, t 74, t 75, t 76, t 77, t 78, t 79, t 80, t 81, t 82, t 83, t 84, t 85, t 86, t 87, t 88, t 89, t 90, t 91, t 92, t 93, t 94, t 95, t 96, t 97, t 98, t 99, t 100, t 101, t 102, t 103, t 104, t 105, t 106, t 107, t 108, t 109, t 110, t 111, t 112, t 113, t 114, t 115, t 116, t 117, t 118, t 119, t 120, t 121, t 122, t 123, t 124, t 125, t 126, t 127, t 128, t 129, t 130, t 131, t 132, t 133, t 134, t 135, t 136, t 137, t 138, t 139, t 140, t 141, t 142, t 143, t 144, t 145], []⟩ u := by
 have hn := hI.len
 have hE : E < u.heap.size := (hL.own.lt _ rfl).2
 have hx : ∀ p ∈ es, ∀ g, p.2.a = some ⟨g, 0, none⟩ → E < g := fun p hp g e => by
  obtain ⟨k, x1, x2, _⟩ := hL.room p hp
  rw [x1] at e
  cases e
  exact x2
 have hnd := hL.nd
 have hfst : ∀ j : Nat, (es[j]?).map (·.1) = (ds[j]?).map (·.1) := fun j => by
  have := hL.fst
  rw [hel, List.take_length] at this
  rw [← List.getElem?_map, ← List.getElem?_map, this]
 have hP0 := Post.start hL
 have hat : ∀ (W : World), (∀ b, b < E → W.heap[b]? = u.heap[b]?) → ∀ p x, w₀.cell? p = some x → W.cell? p = some x := fun W hW p x hp =>
  (World.cell?_of_block (hW p.block (by rw [← hw₀]; exact cell_lt4 hp))).trans (hag p x hp)
 have hels : Shut (es.length = ds.length) := hel
 clear hL
 dsimp only [l4, r4, q4, Tryz.f4]
 go_wp2_with fail
 go_loopw [12] (fun i W => ∃ j : Nat, i = .int .i64 j ∧ j ≤ ds.length + 8 ∧ Post E u W ds es vR j j) (fun i _ => ds.length + 8 - (Go.RowKit.intOf i).toNat)
 case atStart => exact ⟨0, rfl, Nat.zero_le _, hP0⟩
 case round =>
  clear hP0
  obtain ⟨j, rfl, hj, hP⟩ := hrel
  by_cases hj8 : j < ds.length + 8
  ·have hj8' : (j : Int) < (ds.length : Int) + 8 := by omega
   have hEw : E < wr.heap.size := (hP.own.lt _ rfl).2
   by_cases hlt : j < ds.length
   ·have hlt' : (j : Int) < (ds.length : Int) := by omega
    have hds := List.getElem?_eq_getElem hlt
    have hes : es[j]? = some es[j] := List.getElem?_eq_getElem (by omega)
    have hqj : (es ++ List.replicate 8 e79)[j]? = some es[j] := by rw [List.getElem?_append_left (by omega)]; exact hes
    have hd1 := hfst j
    rw [hds, hes] at hd1
    obtain ⟨b, o, rfl, hA⟩ := hI.acc.resolve_left (by intro e; rw [e] at hlt; simp at hlt)
    have hmem := List.getElem_mem hlt
    have hA0 := hA j _ hds
    obtain ⟨hsn, hsl⟩ := hI.sl _ hmem
    have hnum := hI.num _ hmem
    have hbal := hI.bal _ hmem
    have hkey := hI.key _ hmem
    obtain ⟨g, hq, hgE, hrm, hvg⟩ := hP.room j _ hes (Nat.le_refl _)
    have hgw := hrm.lt
    have hroc : (es.map roomV)[j]? = some (roomV es[j]) := by rw [List.getElem?_map, hes]; rfl
    generalize ds[j] = p at *
    generalize es[j] = q at *
    obtain ⟨d, sv⟩ := p
    obtain ⟨sa, sn, sc⟩ := sv
    obtain ⟨d', sq⟩ := q
    simp only [Option.map_some, Option.some.injEq] at hd1
    subst hd1
    simp only at hsn hsl hnum hbal hkey hq hA0 hrm
    subst hsn hq
    have hbw : b < E := by rw [← hw₀]; exact cell_lt4 (hA0 0 _ rfl)
    have hbr : b < wr.heap.size := by omega
    have hc := fun (W : World) (hW : ∀ b, b < E → W.heap[b]? = u.heap[b]?) (i : Nat) (v : Value) (hi : (accCells d' ⟨sa, d'.slots.length, sc⟩)[i]? = some v) => hat W hW _ _ (hA0 i v hi)
    have hcw := hc wr (hP.low hE hx)
    have c0 := hcw 0 _ rfl
    have c1 := hcw 1 _ rfl
    have c2 := hcw 2 _ rfl
    have c3 := hcw 3 _ rfl
    have c4 := hcw 4 _ rfl
    have c5 := hcw 5 _ rfl
    have c6 := hcw 6 _ rfl
    have c7 := hcw 7 _ rfl
    rw [Nat.add_zero] at c0
    obtain ⟨ra, rn, rc⟩ := vR
    obtain ⟨gr, capr, hform, hgr1, hgr2⟩ := hP.rooms.form (by omega)
    simp only [Value.slice.injEq] at hform
    obtain ⟨rfl, rfl, rfl⟩ := hform
    have hgg : gr ≠ g := fun e => hvg (by rw [e]; rfl)
    have hlte : (j : Int) < (es.length : Int) := by omega
    have hje : j < es.length := by omega
    clear hcw hel
    go_upto_region 24 with fail
    clear c0 c1 c2 c3 c4 c5 c6 c7
    change Code.wp _ _ _ _ (wr.alloc (.cells (accCells d' ⟨sa, d'.slots.length, sc⟩).toArray 31))
    have hb1 : Below wr.heap.size wr (wr.alloc (.cells (accCells d' ⟨sa, d'.slots.length, sc⟩).toArray 31)) := (Below.refl _ _).alloc (Nat.le_refl _) _
    have hx1 := cells_new wr (accCells d' ⟨sa, d'.slots.length, sc⟩) 31
    have hP1 := hP.keep hb1
    have hxg : wr.heap.size ≠ g := by omega
    have hrm1 : RoomAt (wr.alloc (.cells (accCells d' ⟨sa, d'.slots.length, sc⟩).toArray 31)) g d'.slots := hrm.same (hb1.block g hgw)
    clear hP hrm hb1 hgr2 hgw hEw hbr
    generalize wr.alloc (.cells (accCells d' ⟨sa, d'.slots.length, sc⟩).toArray 31) = W1 at hP1 hx1 hrm1 ⊢
    generalize wr.heap.size = xb at hx1 hxg ⊢
    have c7 := hc W1 (hP1.low hE hx) 7 _ rfl
    simp only at c7
    have hrc : ∀ W : World, W.ownsRow (E + 1) 29 1 (.slice (some ⟨gr, 0, none⟩) es.length rc) es.length (es.map roomV) → W.cell? ⟨gr, j, none⟩ = some (.slice (some ⟨g, 0, none⟩) (d'.slots.length + 8) (d'.slots.length + 8)) := fun W hW => (hW.cellAt j (by omega)).trans hroc
    have hss : d'.slots = [] ∨ ∃ bs os, sa = some ⟨bs, os, none⟩ ∧ bs ≠ g ∧ SlotsFrom W1 bs os d'.slots := by
     rcases hsl with h | ⟨bs, os, h1, h2⟩
     ·exact .inl h
     ·by_cases h0 : 0 < d'.slots.length
      ·refine .inr ⟨bs, os, h1, fun e => ?_, fun i p hp k v hv => hat W1 (hP1.low hE hx) _ _ (h2 i p hp k v hv)⟩
       have h3 : bs < w₀.heap.size := cell_lt4 (h2 0 _ (List.getElem?_eq_getElem h0) 0 _ rfl)
       omega
      ·exact .inl (List.eq_nil_of_length_eq_zero (by omega))
    go_wp2_with fail
    refine wp_region_held_drew (S := fun W => W.ownsRow (E + 1) 29 1 (.slice (some ⟨gr, 0, none⟩) es.length rc) es.length (es.map roomV) ∧ W.cell? ⟨b, o + j * 8 + 7, none⟩ = some (.slice sa d'.slots.length sc)) (by kernel_rfl) ⟨hP1.rooms, c7⟩ (fun hH => ?_)
    refine take_d (i := 0) (d := some 99) (v := .slice (some ⟨gr, 0, none⟩) es.length rc) rfl rfl (by kernel_rfl) (by kernel_rfl) (by kernel_rfl) (fun _ _ _ h => by first | exact h | cases h.1 | exact hQp _ _ _ _ _ h) (Or.inl ⟨by rfl, fun W hW => ?_⟩) hH ?_
    ·clear hW hH
     go_simp
    simp only [Act.put, List.setIfInBounds_toArray, List.set_cons_zero, List.set_cons_succ]
    refine take_d (i := 1) (d := some 100) (v := .int .i64 (j : Int)) rfl rfl (by kernel_rfl) (by kernel_rfl) (by kernel_rfl) (fun _ _ _ h => by first | exact h | cases h.1 | exact hQp _ _ _ _ _ h) (Or.inl ⟨by rfl, fun W hW => ?_⟩) hH ?_
    ·clear hW hH
     go_simp
    simp only [Act.put, List.setIfInBounds_toArray, List.set_cons_zero, List.set_cons_succ]
    refine take_d (i := 2) (d := some 101) (v := .pointer (some ⟨gr, j, none⟩)) rfl rfl (by kernel_rfl) (by kernel_rfl) (by kernel_rfl) (fun _ _ _ h => by first | exact h | cases h.1 | exact hQp _ _ _ _ _ h) (Or.inl ⟨by rfl, fun W hW => ?_⟩) hH ?_
    ·clear hW hH
     go_simp
    simp only [Act.put, List.setIfInBounds_toArray, List.set_cons_zero, List.set_cons_succ]
    refine take_d (i := 3) (d := some 102) (v := .slice (some ⟨g, 0, none⟩) (d'.slots.length + 8) (d'.slots.length + 8)) rfl rfl (by kernel_rfl) (by kernel_rfl) (by kernel_rfl) (fun _ _ _ h => by first | exact h | cases h.1 | exact hQp _ _ _ _ _ h) (Or.inl ⟨by rfl, fun W hW => ?_⟩) hH ?_
    ·have k0 := hrc _ hW.1
     clear hW hH
     go_simp
    simp only [Act.put, List.setIfInBounds_toArray, List.set_cons_zero, List.set_cons_succ]
    refine take_d (i := 4) (d := some 103) (v := .slice (some ⟨b, o, none⟩) ds.length cap) rfl rfl (by kernel_rfl) (by kernel_rfl) (by kernel_rfl) (fun _ _ _ h => by first | exact h | cases h.1 | exact hQp _ _ _ _ _ h) (Or.inl ⟨by rfl, fun W hW => ?_⟩) hH ?_
    ·clear hW hH
     go_simp
    simp only [Act.put, List.setIfInBounds_toArray, List.set_cons_zero, List.set_cons_succ]
    refine take_d (i := 5) (d := some 104) (v := .int .i64 (j : Int)) rfl rfl (by kernel_rfl) (by kernel_rfl) (by kernel_rfl) (fun _ _ _ h => by first | exact h | cases h.1 | exact hQp _ _ _ _ _ h) (Or.inl ⟨by rfl, fun W hW => ?_⟩) hH ?_
    ·clear hW hH
     go_simp
    simp only [Act.put, List.setIfInBounds_toArray, List.set_cons_zero, List.set_cons_succ]
    refine take_d (i := 6) (d := some 105) (v := .pointer (some ⟨b, o + j * 8, none⟩)) rfl rfl (by kernel_rfl) (by kernel_rfl) (by kernel_rfl) (fun _ _ _ h => by first | exact h | cases h.1 | exact hQp _ _ _ _ _ h) (Or.inl ⟨by rfl, fun W hW => ?_⟩) hH ?_
    ·clear hW hH
     go_simp
    simp only [Act.put, List.setIfInBounds_toArray, List.set_cons_zero, List.set_cons_succ]
    refine take_d (i := 7) (d := some 106) (v := .pointer (some ⟨b, o + j * 8 + 7, none⟩)) rfl rfl (by kernel_rfl) (by kernel_rfl) (by kernel_rfl) (fun _ _ _ h => by first | exact h | cases h.1 | exact hQp _ _ _ _ _ h) (Or.inl ⟨by rfl, fun W hW => ?_⟩) hH ?_
    ·clear hW hH
     go_simp
    simp only [Act.put, List.setIfInBounds_toArray, List.set_cons_zero, List.set_cons_succ]
    refine take_d (i := 8) (d := some 107) (v := .slice sa d'.slots.length sc) rfl rfl (by kernel_rfl) (by kernel_rfl) (by kernel_rfl) (fun _ _ _ h => by first | exact h | cases h.1 | exact hQp _ _ _ _ _ h) (Or.inl ⟨by rfl, fun W hW => ?_⟩) hH ?_
    ·have k0 := hW.2
     clear hW hH
     go_simp
    simp only [Act.put, List.setIfInBounds_toArray, List.set_cons_zero, List.set_cons_succ]
    refine wpAnyH_ready (rs := [9]) (by kernel_rfl) (by simp) ?_
    refine AllReadyH.cons rfl (fun K hK => ?_) AllReadyH.nil
    go_simp
    refine (still d'.slots g (d'.slots.length + 8) sa sc W1.drew hnum hss hrm1.sl hrm1.th hkey).mono ?_
    rintro e W3 ⟨rfl, hg3⟩
    go_wp2_with fail
    have hbW : b < W1.drew.heap.size := by
     have : E < W1.heap.size := (hP1.own.lt _ rfl).2
     show b < W1.heap.size
     omega
    refine hK.out _ _ ⟨own_grown hH.1 hg3 (fun k hk e => by cases hk; exact hgg (by cases e; rfl)), (World.cell?_of_block (a := ⟨b, o + j * 8 + 7, none⟩) (hg3.block b hbW (fun e => by cases e; omega))).trans hH.2⟩ (fun hH => ?_)
    clear hK K
    refine take_d (i := 10) (d := some 15) (v := .bool true) rfl rfl (by kernel_rfl) (by kernel_rfl) (by kernel_rfl) (fun _ _ _ h => by first | exact h | cases h.1 | exact hQp _ _ _ _ _ h) (Or.inl ⟨by rfl, fun W hW => ?_⟩) hH ?_
    ·clear hW hH
     go_simp
    simp only [Act.put, List.setIfInBounds_toArray, List.set_cons_zero, List.set_cons_succ]
    refine wpAnyH_done (by kernel_rfl) ?_ _
    have hP3 := (hP1.keep (Below.refl _ _).drew).stilled hes rfl hgE hvg hnd hg3
    have hx3 := (hx1.below (Below.refl _ _).drew).grown hg3 hxg
    clear hH hg3 hP1 hx1 hrm1 hbW c7 hss
    go_wp2_with fail
    have hA3 := hP3.at hqj
    have hsame := fun W => same (d') (d') (⟨some ⟨g, 0, none⟩, d'.slots.length, d'.slots.length + 8⟩) (⟨sa, d'.slots.length, sc⟩) W hbal hbal
    rw [decide_eq_true ⟨rfl, rfl, rfl, rfl⟩] at hsame
    refine wp_region_held_drew (S := fun W => CellsAt W E (j * 8) (accCells (d') (⟨some ⟨g, 0, none⟩, d'.slots.length, d'.slots.length + 8⟩)) ∧ CellsAt W xb 0 (accCells (d') (⟨sa, d'.slots.length, sc⟩))) (by kernel_rfl) ⟨hA3.below (Below.refl _ _).drew, hx3.below (Below.refl _ _).drew⟩ (fun hH => ?_)
    refine take_d (i := 0) (d := some 111) (v := .slice (some ⟨E, 0, none⟩) (ds.length + 8) (ds.length + 8)) rfl rfl (by kernel_rfl) (by kernel_rfl) (by kernel_rfl) (fun _ _ _ h => by first | exact h | cases h.1 | exact hQp _ _ _ _ _ h) (Or.inl ⟨by rfl, fun W hW => ?_⟩) hH ?_
    ·clear hW hH
     go_simp
    simp only [Act.put, List.setIfInBounds_toArray, List.set_cons_zero, List.set_cons_succ]
    refine take_d (i := 1) (d := some 112) (v := .int .i64 (j : Int)) rfl rfl (by kernel_rfl) (by kernel_rfl) (by kernel_rfl) (fun _ _ _ h => by first | exact h | cases h.1 | exact hQp _ _ _ _ _ h) (Or.inl ⟨by rfl, fun W hW => ?_⟩) hH ?_
    ·clear hW hH
     go_simp
    simp only [Act.put, List.setIfInBounds_toArray, List.set_cons_zero, List.set_cons_succ]
    refine take_d (i := 2) (d := some 113) (v := .pointer (some ⟨E, j * 8, none⟩)) rfl rfl (by kernel_rfl) (by kernel_rfl) (by kernel_rfl) (fun _ _ _ h => by first | exact h | cases h.1 | exact hQp _ _ _ _ _ h) (Or.inl ⟨by rfl, fun W hW => ?_⟩) hH ?_
    ·clear hW hH
     go_simp
    simp only [Act.put, List.setIfInBounds_toArray, List.set_cons_zero, List.set_cons_succ]
    refine take_d (i := 3) (d := some 114) (v := .agg (accCells (d') (⟨some ⟨g, 0, none⟩, d'.slots.length, d'.slots.length + 8⟩)).toArray) rfl rfl (by kernel_rfl) (by kernel_rfl) (by kernel_rfl) (fun _ _ _ h => by first | exact h | cases h.1 | exact hQp _ _ _ _ _ h) (Or.inl ⟨by rfl, fun W hW => ?_⟩) hH ?_
    ·have k0 := hW.1 0 _ rfl; have k1 := hW.1 1 _ rfl; have k2 := hW.1 2 _ rfl; have k3 := hW.1 3 _ rfl; have k4 := hW.1 4 _ rfl; have k5 := hW.1 5 _ rfl; have k6 := hW.1 6 _ rfl; have k7 := hW.1 7 _ rfl
     rw [Nat.add_zero] at k0
     clear hW hH
     unfold accCells
     go_simp
    simp only [Act.put, List.setIfInBounds_toArray, List.set_cons_zero, List.set_cons_succ]
    refine take_d (i := 4) (d := some 115) (v := .agg (accCells (d') (⟨sa, d'.slots.length, sc⟩)).toArray) rfl rfl (by kernel_rfl) (by kernel_rfl) (by kernel_rfl) (fun _ _ _ h => by first | exact h | cases h.1 | exact hQp _ _ _ _ _ h) (Or.inl ⟨by rfl, fun W hW => ?_⟩) hH ?_
    ·have k0 := hW.2 0 _ rfl; have k1 := hW.2 1 _ rfl; have k2 := hW.2 2 _ rfl; have k3 := hW.2 3 _ rfl; have k4 := hW.2 4 _ rfl; have k5 := hW.2 5 _ rfl; have k6 := hW.2 6 _ rfl; have k7 := hW.2 7 _ rfl
     simp only [Nat.zero_add] at k0 k1 k2 k3 k4 k5 k6 k7
     clear hW hH
     unfold accCells
     go_simp
    simp only [Act.put, List.setIfInBounds_toArray, List.set_cons_zero, List.set_cons_succ]
    refine wpAnyH_ready (rs := [5]) (by kernel_rfl) (by simp) ?_
    refine AllReadyH.cons rfl (fun K hK => ?_) AllReadyH.nil
    go_simp
    refine (hsame _).mono ?_
    rintro e W4 ⟨rfl, hb4⟩
    go_wp2_with fail
    refine hK.out _ _ ⟨hH.1.below hb4, hH.2.below hb4⟩ (fun hH => ?_)
    clear hK K
    refine take_d (i := 6) (d := some 16) (v := .bool true) rfl rfl (by kernel_rfl) (by kernel_rfl) (by kernel_rfl) (fun _ _ _ h => by first | exact h | cases h.1 | exact hQp _ _ _ _ _ h) (Or.inl ⟨by rfl, fun W hW => ?_⟩) hH ?_
    ·clear hW hH
     go_simp
    simp only [Act.put, List.setIfInBounds_toArray, List.set_cons_zero, List.set_cons_succ]
    refine wpAnyH_done (by kernel_rfl) ?_ _
    have hP4 := (hP3.keep (Below.refl _ _).drew).keep hb4
    have k7 := hH.1 7 _ rfl
    clear hH hb4 hsame hA3
    have hP5 := hP4.wrote hj8 hels.out
    rw [d5_cells] at hP5
    have y0 := hP4.own.frozenAt (j * 8 + 0)
    obtain ⟨v0, z0⟩ : ∃ v, W4.cell? ⟨E, j * 8 + 0, none⟩ = some v := ⟨_, (hP4.own.cellAt (j * 8 + 0) (by omega)).trans (List.getElem?_eq_getElem (by rw [hP4.own.1]; omega))⟩
    have y1 := hP4.own.frozenAt (j * 8 + 1)
    obtain ⟨v1, z1⟩ : ∃ v, W4.cell? ⟨E, j * 8 + 1, none⟩ = some v := ⟨_, (hP4.own.cellAt (j * 8 + 1) (by omega)).trans (List.getElem?_eq_getElem (by rw [hP4.own.1]; omega))⟩
    have y2 := hP4.own.frozenAt (j * 8 + 2)
    obtain ⟨v2, z2⟩ : ∃ v, W4.cell? ⟨E, j * 8 + 2, none⟩ = some v := ⟨_, (hP4.own.cellAt (j * 8 + 2) (by omega)).trans (List.getElem?_eq_getElem (by rw [hP4.own.1]; omega))⟩
    have y3 := hP4.own.frozenAt (j * 8 + 3)
    obtain ⟨v3, z3⟩ : ∃ v, W4.cell? ⟨E, j * 8 + 3, none⟩ = some v := ⟨_, (hP4.own.cellAt (j * 8 + 3) (by omega)).trans (List.getElem?_eq_getElem (by rw [hP4.own.1]; omega))⟩
    have y4 := hP4.own.frozenAt (j * 8 + 4)
    obtain ⟨v4, z4⟩ : ∃ v, W4.cell? ⟨E, j * 8 + 4, none⟩ = some v := ⟨_, (hP4.own.cellAt (j * 8 + 4) (by omega)).trans (List.getElem?_eq_getElem (by rw [hP4.own.1]; omega))⟩
    have y5 := hP4.own.frozenAt (j * 8 + 5)
    obtain ⟨v5, z5⟩ : ∃ v, W4.cell? ⟨E, j * 8 + 5, none⟩ = some v := ⟨_, (hP4.own.cellAt (j * 8 + 5) (by omega)).trans (List.getElem?_eq_getElem (by rw [hP4.own.1]; omega))⟩
    have y6 := hP4.own.frozenAt (j * 8 + 6)
    obtain ⟨v6, z6⟩ : ∃ v, W4.cell? ⟨E, j * 8 + 6, none⟩ = some v := ⟨_, (hP4.own.cellAt (j * 8 + 6) (by omega)).trans (List.getElem?_eq_getElem (by rw [hP4.own.1]; omega))⟩
    have y7 := hP4.own.frozenAt (j * 8 + 7)
    obtain ⟨v7, z7⟩ : ∃ v, W4.cell? ⟨E, j * 8 + 7, none⟩ = some v := ⟨_, (hP4.own.cellAt (j * 8 + 7) (by omega)).trans (List.getElem?_eq_getElem (by rw [hP4.own.1]; omega))⟩
    rw [Nat.add_zero] at y0 z0
    clear hP4 hP3
    go_wp2_with fail
    refine ⟨⟨j + 1, by go_num, by omega, hP5⟩, ?_⟩
    simp [Go.RowKit.intOf]; omega
   ·have hnl : ¬ ((j : Int) < (ds.length : Int)) := by omega
    have hqj : (es ++ List.replicate 8 e79)[j]? = some e79 := by
     rw [List.getElem?_append_right (by omega), List.getElem?_replicate, if_pos (by omega)]
    clear hel
    go_upto_region 28 with fail
    have hb1 : Below wr.heap.size wr (wr.alloc (.cells (accCells d79 ⟨none, 0, 0⟩).toArray 31)) := (Below.refl _ _).alloc (Nat.le_refl _) _
    have hx3 := cells_new wr (accCells d79 ⟨none, 0, 0⟩) 31
    have hP1 := hP.keep hb1
    have hP3 : Post E u (wr.alloc (.cells (accCells d79 ⟨none, 0, 0⟩).toArray 31)) ds es vR j (j + 1) := ⟨hP1.kept, hP1.own, hP1.rooms, fun i p hp hi => hP1.room i p hp (by omega)⟩
    have hlit : (wr.alloc (.cells (accCells d79 ⟨none, 0, 0⟩).toArray 31)) = (wr.alloc (.cells #[.int .i64 77, .int .u64 0, .int .u64 0, .int .u64 0, .int .u64 0, .int .i64 78, .string ⟨#[55, 57]⟩, .slice none 0 0] 31)) := by rw [d79_cells]
    rw [← hlit]
    clear hP hb1 hP1 hlit
    generalize wr.alloc (.cells (accCells d79 ⟨none, 0, 0⟩).toArray 31) = W1 at hP3 hx3 ⊢
    generalize wr.heap.size = xb at hx3 ⊢
    have hA3 := hP3.at hqj
    have hsame := fun W => same (d79) (d79) (⟨none, 0, 0⟩) (⟨none, 0, 0⟩) W (by show 0 < M; decide) (by show 0 < M; decide)
    rw [decide_eq_true ⟨rfl, rfl, rfl, rfl⟩] at hsame
    refine wp_region_held_drew (S := fun W => CellsAt W E (j * 8) (accCells (d79) (⟨none, 0, 0⟩)) ∧ CellsAt W xb 0 (accCells (d79) (⟨none, 0, 0⟩))) (by kernel_rfl) ⟨hA3.below (Below.refl _ _).drew, hx3.below (Below.refl _ _).drew⟩ (fun hH => ?_)
    refine take_d (i := 0) (d := some 111) (v := .slice (some ⟨E, 0, none⟩) (ds.length + 8) (ds.length + 8)) rfl rfl (by kernel_rfl) (by kernel_rfl) (by kernel_rfl) (fun _ _ _ h => by first | exact h | cases h.1 | exact hQp _ _ _ _ _ h) (Or.inl ⟨by rfl, fun W hW => ?_⟩) hH ?_
    ·clear hW hH
     go_simp
    simp only [Act.put, List.setIfInBounds_toArray, List.set_cons_zero, List.set_cons_succ]
    refine take_d (i := 1) (d := some 112) (v := .int .i64 (j : Int)) rfl rfl (by kernel_rfl) (by kernel_rfl) (by kernel_rfl) (fun _ _ _ h => by first | exact h | cases h.1 | exact hQp _ _ _ _ _ h) (Or.inl ⟨by rfl, fun W hW => ?_⟩) hH ?_
    ·clear hW hH
     go_simp
    simp only [Act.put, List.setIfInBounds_toArray, List.set_cons_zero, List.set_cons_succ]
    refine take_d (i := 2) (d := some 113) (v := .pointer (some ⟨E, j * 8, none⟩)) rfl rfl (by kernel_rfl) (by kernel_rfl) (by kernel_rfl) (fun _ _ _ h => by first | exact h | cases h.1 | exact hQp _ _ _ _ _ h) (Or.inl ⟨by rfl, fun W hW => ?_⟩) hH ?_
    ·clear hW hH
     go_simp
    simp only [Act.put, List.setIfInBounds_toArray, List.set_cons_zero, List.set_cons_succ]
    refine take_d (i := 3) (d := some 114) (v := .agg (accCells (d79) (⟨none, 0, 0⟩)).toArray) rfl rfl (by kernel_rfl) (by kernel_rfl) (by kernel_rfl) (fun _ _ _ h => by first | exact h | cases h.1 | exact hQp _ _ _ _ _ h) (Or.inl ⟨by rfl, fun W hW => ?_⟩) hH ?_
    ·have k0 := hW.1 0 _ rfl; have k1 := hW.1 1 _ rfl; have k2 := hW.1 2 _ rfl; have k3 := hW.1 3 _ rfl; have k4 := hW.1 4 _ rfl; have k5 := hW.1 5 _ rfl; have k6 := hW.1 6 _ rfl; have k7 := hW.1 7 _ rfl
     rw [Nat.add_zero] at k0
     clear hW hH
     unfold accCells
     go_simp
    simp only [Act.put, List.setIfInBounds_toArray, List.set_cons_zero, List.set_cons_succ]
    refine take_d (i := 4) (d := some 115) (v := .agg (accCells (d79) (⟨none, 0, 0⟩)).toArray) rfl rfl (by kernel_rfl) (by kernel_rfl) (by kernel_rfl) (fun _ _ _ h => by first | exact h | cases h.1 | exact hQp _ _ _ _ _ h) (Or.inl ⟨by rfl, fun W hW => ?_⟩) hH ?_
    ·have k0 := hW.2 0 _ rfl; have k1 := hW.2 1 _ rfl; have k2 := hW.2 2 _ rfl; have k3 := hW.2 3 _ rfl; have k4 := hW.2 4 _ rfl; have k5 := hW.2 5 _ rfl; have k6 := hW.2 6 _ rfl; have k7 := hW.2 7 _ rfl
     simp only [Nat.zero_add] at k0 k1 k2 k3 k4 k5 k6 k7
     clear hW hH
     unfold accCells
     go_simp
    simp only [Act.put, List.setIfInBounds_toArray, List.set_cons_zero, List.set_cons_succ]
    refine wpAnyH_ready (rs := [5]) (by kernel_rfl) (by simp) ?_
    refine AllReadyH.cons rfl (fun K hK => ?_) AllReadyH.nil
    go_simp
    refine (hsame _).mono ?_
    rintro e W4 ⟨rfl, hb4⟩
    go_wp2_with fail
    refine hK.out _ _ ⟨hH.1.below hb4, hH.2.below hb4⟩ (fun hH => ?_)
    clear hK K
    refine take_d (i := 6) (d := some 16) (v := .bool true) rfl rfl (by kernel_rfl) (by kernel_rfl) (by kernel_rfl) (fun _ _ _ h => by first | exact h | cases h.1 | exact hQp _ _ _ _ _ h) (Or.inl ⟨by rfl, fun W hW => ?_⟩) hH ?_
    ·clear hW hH
     go_simp
    simp only [Act.put, List.setIfInBounds_toArray, List.set_cons_zero, List.set_cons_succ]
    refine wpAnyH_done (by kernel_rfl) ?_ _
    have hP4 := (hP3.keep (Below.refl _ _).drew).keep hb4
    have k7 := hH.1 7 _ rfl
    clear hH hb4 hsame hA3
    have hP5 := hP4.wrote hj8 hels.out
    rw [d5_cells] at hP5
    have y0 := hP4.own.frozenAt (j * 8 + 0)
    obtain ⟨v0, z0⟩ : ∃ v, W4.cell? ⟨E, j * 8 + 0, none⟩ = some v := ⟨_, (hP4.own.cellAt (j * 8 + 0) (by omega)).trans (List.getElem?_eq_getElem (by rw [hP4.own.1]; omega))⟩
    have y1 := hP4.own.frozenAt (j * 8 + 1)
    obtain ⟨v1, z1⟩ : ∃ v, W4.cell? ⟨E, j * 8 + 1, none⟩ = some v := ⟨_, (hP4.own.cellAt (j * 8 + 1) (by omega)).trans (List.getElem?_eq_getElem (by rw [hP4.own.1]; omega))⟩
    have y2 := hP4.own.frozenAt (j * 8 + 2)
    obtain ⟨v2, z2⟩ : ∃ v, W4.cell? ⟨E, j * 8 + 2, none⟩ = some v := ⟨_, (hP4.own.cellAt (j * 8 + 2) (by omega)).trans (List.getElem?_eq_getElem (by rw [hP4.own.1]; omega))⟩
    have y3 := hP4.own.frozenAt (j * 8 + 3)
    obtain ⟨v3, z3⟩ : ∃ v, W4.cell? ⟨E, j * 8 + 3, none⟩ = some v := ⟨_, (hP4.own.cellAt (j * 8 + 3) (by omega)).trans (List.getElem?_eq_getElem (by rw [hP4.own.1]; omega))⟩
    have y4 := hP4.own.frozenAt (j * 8 + 4)
    obtain ⟨v4, z4⟩ : ∃ v, W4.cell? ⟨E, j * 8 + 4, none⟩ = some v := ⟨_, (hP4.own.cellAt (j * 8 + 4) (by omega)).trans (List.getElem?_eq_getElem (by rw [hP4.own.1]; omega))⟩
    have y5 := hP4.own.frozenAt (j * 8 + 5)
    obtain ⟨v5, z5⟩ : ∃ v, W4.cell? ⟨E, j * 8 + 5, none⟩ = some v := ⟨_, (hP4.own.cellAt (j * 8 + 5) (by omega)).trans (List.getElem?_eq_getElem (by rw [hP4.own.1]; omega))⟩
    have y6 := hP4.own.frozenAt (j * 8 + 6)
    obtain ⟨v6, z6⟩ : ∃ v, W4.cell? ⟨E, j * 8 + 6, none⟩ = some v := ⟨_, (hP4.own.cellAt (j * 8 + 6) (by omega)).trans (List.getElem?_eq_getElem (by rw [hP4.own.1]; omega))⟩
    have y7 := hP4.own.frozenAt (j * 8 + 7)
    obtain ⟨v7, z7⟩ : ∃ v, W4.cell? ⟨E, j * 8 + 7, none⟩ = some v := ⟨_, (hP4.own.cellAt (j * 8 + 7) (by omega)).trans (List.getElem?_eq_getElem (by rw [hP4.own.1]; omega))⟩
    rw [Nat.add_zero] at y0 z0
    clear hP4 hP3
    go_wp2_with fail
    refine ⟨⟨j + 1, by go_num, by omega, hP5⟩, ?_⟩
    simp [Go.RowKit.intOf]; omega
  ·have hj' : j = ds.length + 8 := by omega
   have hnl : ¬ ((j : Int) < (ds.length : Int) + 8) := by omega
   have hk := hP.kept
   clear hP hj' hel
   go_wp2_with fail
   exact hΦ.out _ _ rfl rfl rfl rfl hk
end
end Go.Mark
