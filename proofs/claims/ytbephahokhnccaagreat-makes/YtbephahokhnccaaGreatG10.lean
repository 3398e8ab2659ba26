/-
 ledger.New behind findMarks (17).
-/
import Derived.Test.YtbephahokhnccaaGreatXG8toE8
namespace Go.Mark
open Go.RowKit Go.Proofs
/-- ledger.New's code behind the call of findMarks -/
noncomputable def c17 : Code := match Tryz.f17.body with
 | some (.seq _ (.seq _ c)) => c
 | _ => .skip
/-- a ledger that was made of these accounts -/
structure New17 (v v' : World) (ds : List (AccD × SV)) (pl : Nat) (L : List (AccD × Nat)) : Prop where
 led : LedgerAt v' pl L
 lst : L.map (·.1) = ds.map fun p => kp p.1
 lo : v.heap.size ≤ pl
 below : Below v.heap.size v v'
/-- the ledger as far as its first k accounts -/
structure N17 (v W : World) (ds : List (AccD × SV)) (k : Nat) (L : List (AccD × Nat)) : Prop where
 below : Below v.heap.size v W
 cell : W.cell? ⟨v.heap.size + 2, 0, none⟩ = some (.map (some v.heap.size))
 map : MapB (fun x : Int => Value.int .i64 x) W v.heap.size (ledL L)
 lst : L.map (·.1) = (ds.take k).map fun p => kp p.1
 acc : ∀ q ∈ L, ∃ mk ms, CellsAt W q.2 0 (ledCells q.1 mk ms) ∧ MapB wd W ms (slotL q.1.slots) ∧ ms ≠ v.heap.size
 lt : v.heap.size + 2 < W.heap.size
theorem N17.keep {v W W' : World} {ds : List (AccD × SV)} {k : Nat} {L : List (AccD × Nat)} (h : N17 v W ds k L) (hb : Below W.heap.size W W') : N17 v W' ds k L :=
 ⟨h.below.trans (hb.mono h.below.size), (hb.cell (p := ⟨v.heap.size + 2, 0, none⟩) h.lt).trans h.cell, h.map.below hb, h.lst, fun q hq => let ⟨km, ms, h1, h2, h3⟩ := h.acc q hq; ⟨km, ms, h1.below hb, h2.below hb, h3⟩, Nat.lt_of_lt_of_le h.lt hb.size⟩
theorem cell_setMap (W : World) (r : Nat) (o : Obj) (hm : ∃ es c, W.heap[r]? = some (.map es c)) (a : Addr) (u : Value) (h : W.cell? a = some u) : { W with heap := W.heap.setIfInBounds r o : World }.cell? a = some u := by
 have hne : r ≠ a.block := fun e => by
  obtain ⟨es, c, hm⟩ := hm
  unfold World.cell? at h
  rw [← e, hm] at h
  cases h
 unfold World.cell? at h ⊢
 simp only [Array.getElem?_setIfInBounds_ne hne]
 exact h
theorem MapB.is {κ : Type} {kf : κ → Value} {w : World} {r : Nat} {l : List (κ × Value)} (h : MapB kf w r l) : ∃ es c, w.heap[r]? = some (.map es c) := let ⟨es, c, h1, _⟩ := h; ⟨es, c, h1⟩
set_option maxRecDepth 100000 in
set_option maxHeartbeats 4000000 in
theorem new17 (ds : List (AccD × SV)) (b cap mb mc : Nat) (v : World) (hI : Ins v b ds) (hmk : ∀ i, i < ds.length → ∃ mk : SV, v.cell? ⟨mb, i, none⟩ = some (.slice mk.a mk.n mk.c)) (hmb : mb < v.heap.size) (hso : Sound (ds.map (·.1))) :
  c17.wp TryQ.prog (bodyPost TryQ.prog Tryz.f17 fun e v' => ∃ val, e = .returned val ∧ ∃ pl L, val = .pointer (some ⟨pl, 0, none⟩) ∧ New17 v v' ds pl L) ⟨#[.slice (some ⟨b, 0, none⟩) ds.length cap, undef, .pointer none, .slice (some ⟨mb, 0, none⟩) ds.length mc, undef, undef, undef, .slice (some ⟨b, 0, none⟩) ds.length cap, .slice (some ⟨mb, 0, none⟩) ds.length mc, undef, undef, undef, undef, undef, undef, undef, undef, undef, undef, undef, undef, undef, undef, undef, undef, undef, undef, undef, undef, undef, undef, undef, undef, undef, undef, undef, undef, undef, undef, undef, undef, undef, undef, undef, undef, undef], []⟩ v := by
 have hn := hI.len
 have hnum : ds.length ≤ 64 := by simpa using hso.1
 have hok : ∀ p ∈ ds, AccOk p.1 := fun p hp => hso.2.1 _ (List.mem_map_of_mem hp)
 have hids : (ds.map (·.1.id)).Nodup := by have := hso.2.2.1; rw [List.map_map] at this; exact this
 have hmk1 := fun W => run_mkMap (mt := 82) u82 ds.length W
 have hmk2 := fun W => run_mkMap0 (mt := 83) W
 dsimp only [c17, Tryz.f17]
 go_wp2_with fail
 go_loopw [17] (fun i W => ∃ (k : Nat) (L : List (AccD × Nat)), i = .int .i64 k ∧ k ≤ ds.length ∧ N17 v W ds k L) (fun i _ => ds.length - (Go.RowKit.intOf i).toNat)
 case atStart =>
  refine ⟨0, [], rfl, Nat.zero_le _, (((Below.refl _ _).alloc (Nat.le_refl _) _).alloc (by simp) _).alloc (by simp; omega) _, ?_, ?_, rfl, (fun q hq => by cases hq), by simp⟩
  ·have h1 := World.cell?_alloc_new ((v.alloc (.map #[] 0)).alloc (.map #[] 0)) #[.map (some v.heap.size), .int .i64 0, .slice none 0 0, .map (some (v.heap.size + 1))] 86 0
   have e : ((v.alloc (.map #[] 0)).alloc (.map #[] 0)).heap.size = v.heap.size + 2 := by simp
   rw [e] at h1
   exact h1
  ·have hm0 := MapB.new (fun x : Int => Value.int .i64 x) v
   have hb1 : Below (v.alloc (.map #[] 0)).heap.size (v.alloc (.map #[] 0)) ((v.alloc (.map #[] 0)).alloc (.map #[] 0)) := (Below.refl _ _).alloc (Nat.le_refl _) _
   exact (hm0.below hb1).below ((Below.refl _ _).alloc (Nat.le_refl _) _)
 case round =>
  obtain ⟨k, L, rfl, hk, hN⟩ := hrel
  by_cases hlt : k < ds.length
  ·have hlt' : (k : Int) < (ds.length : Int) := by omega
   have hmem := List.getElem_mem hlt
   have hA' := (hI.acc.below hN.below) k ds[k] (List.getElem?_eq_getElem hlt)
   obtain ⟨bs, sc, hsv, hsl⟩ := hI.sl _ hmem
   have hbal := hI.bal _ hmem
   have hkey := hI.key _ hmem
   have hnm := hI.num _ hmem
   have hokk := hok _ hmem
   obtain ⟨mk, hmki⟩ := hmk k hlt
   have hmki1 := (hN.below.cell (p := ⟨mb, k, none⟩) hmb).trans hmki
   have hnew : ∀ q ∈ L, q.1.id ≠ ds[k].1.id := fun q hq e => by
    have h1 : q.1 ∈ L.map (·.1) := List.mem_map_of_mem hq
    rw [hN.lst] at h1
    obtain ⟨p, hp, hpe⟩ := List.mem_map.1 h1
    obtain ⟨i, hi, he⟩ := List.mem_iff_getElem.1 hp
    have hik : i < k := by simp at hi; omega
    rw [List.getElem_take] at he
    have h2 := List.pairwise_iff_getElem.1 hids i k (by simp; omega) (by simpa using hlt) hik
    have h3 : p.1.id = q.1.id := by rw [← hpe]; rfl
    simp [he, h3, e] at h2
   have htake : ds.take (k + 1) = ds.take k ++ [ds[k]] := (List.take_append_getElem hlt).symm
   generalize ds[k] = p at *
   obtain ⟨d, sv⟩ := p
   simp only at hsv hsl hbal hkey hnm hokk hnew
   subst hsv
   rw [Nat.zero_add] at hA'
   have c0 := hA' 0 _ rfl
   have c1 := hA' 1 _ rfl
   have c2 := hA' 2 _ rfl
   have c3 := hA' 3 _ rfl
   have c4 := hA' 4 _ rfl
   have c5 := hA' 5 _ rfl
   have c6 := hA' 6 _ rfl
   have c7 := hA' 7 _ rfl
   rw [Nat.add_zero] at c0
   simp only at c0 c1 c2 c3 c4 c5 c6 c7
   have hbx : Below wr.heap.size wr (wr.alloc (.cells (accCells d ⟨some ⟨bs, 0, none⟩, d.slots.length, sc⟩).toArray 31)) := (Below.refl _ _).alloc (Nat.le_refl _) _
   have hx := cells_new wr (accCells d ⟨some ⟨bs, 0, none⟩, d.slots.length, sc⟩) 31
   have hN1 := hN.keep hbx
   have hmki2 := (hbx.cell (p := ⟨mb, k, none⟩) (Nat.lt_of_lt_of_le hmb hN.below.size)).trans hmki1
   have hbl : b < wr.heap.size := by
    have h := c0
    simp only [World.cell?] at h
    cases hh : wr.heap[b]? with
    | none => rw [hh] at h; cases h
    | some o => exact (Array.getElem?_eq_some_iff.1 hh).1
   go_wp2_with fail
   clear c0 c1 c2 c3 c4 c5 c6 c7 hA' hmki1
   change Code.wp _ _ _ _ (wr.alloc (.cells (accCells d ⟨some ⟨bs, 0, none⟩, d.slots.length, sc⟩).toArray 31))
   have hxl : wr.heap.size < (wr.alloc (.cells (accCells d ⟨some ⟨bs, 0, none⟩, d.slots.length, sc⟩).toArray 31)).heap.size := by simp
   generalize wr.alloc (.cells (accCells d ⟨some ⟨bs, 0, none⟩, d.slots.length, sc⟩).toArray 31) = V at hx hN1 hmki2 hxl ⊢
   generalize wr.heap.size = xb at hx hxl ⊢
   refine wp_meet2 (fun _ pa W => N17 v W ds (k + 1) (L ++ [(kp d, pa)])) ?_
   apply Exists.intro
   apply And.intro
   ·refine wp_region_held_drew (S := fun W => W.cell? ⟨v.heap.size + 1 + 1, 0, none⟩ = some (.map (some v.heap.size)) ∧ CellsAt W xb 0 (accCells d ⟨some ⟨bs, 0, none⟩, d.slots.length, sc⟩) ∧ W.cell? ⟨mb, k, none⟩ = some (.slice mk.a mk.n mk.c)) (by kernel_rfl) ⟨hN1.cell, hx.below (Below.refl _ _).drew, hmki2⟩ (fun hH => ?_)
    refine take_d (i := 0) (d := some 22) (v := .pointer (some ⟨v.heap.size + 1 + 1, 0, none⟩)) rfl rfl (by kernel_rfl) (by kernel_rfl) (by kernel_rfl) (fun _ _ _ h => by first | exact h | cases h.1) (Or.inl ⟨by rfl, fun W hW => ?_⟩) hH ?_
    ·clear hW hH
     go_simp
    simp only [Act.put, List.setIfInBounds_toArray, List.set_cons_zero, List.set_cons_succ]
    refine take_d (i := 1) (d := some 23) (v := .pointer (some ⟨v.heap.size + 1 + 1, 0, none⟩)) rfl rfl (by kernel_rfl) (by kernel_rfl) (by kernel_rfl) (fun _ _ _ h => by first | exact h | cases h.1) (Or.inl ⟨by rfl, fun W hW => ?_⟩) hH ?_
    ·clear hW hH
     go_simp
    simp only [Act.put, List.setIfInBounds_toArray, List.set_cons_zero, List.set_cons_succ]
    refine take_d (i := 2) (d := some 24) (v := .pointer (some ⟨v.heap.size + 1 + 1, 0, none⟩)) rfl rfl (by kernel_rfl) (by kernel_rfl) (by kernel_rfl) (fun _ _ _ h => by first | exact h | cases h.1) (Or.inl ⟨by rfl, fun W hW => ?_⟩) hH ?_
    ·clear hW hH
     go_simp
    simp only [Act.put, List.setIfInBounds_toArray, List.set_cons_zero, List.set_cons_succ]
    refine take_d (i := 3) (d := some 25) (v := .map (some v.heap.size)) rfl rfl (by kernel_rfl) (by kernel_rfl) (by kernel_rfl) (fun _ _ _ h => by first | exact h | cases h.1) (Or.inl ⟨by rfl, fun W hW => ?_⟩) hH ?_
    ·have k0 := hW.1
     clear hW hH
     go_simp
    simp only [Act.put, List.setIfInBounds_toArray, List.set_cons_zero, List.set_cons_succ]
    refine take_d (i := 4) (d := some 26) (v := .pointer (some ⟨xb, 0, none⟩)) rfl rfl (by kernel_rfl) (by kernel_rfl) (by kernel_rfl) (fun _ _ _ h => by first | exact h | cases h.1) (Or.inl ⟨by rfl, fun W hW => ?_⟩) hH ?_
    ·clear hW hH
     go_simp
    simp only [Act.put, List.setIfInBounds_toArray, List.set_cons_zero, List.set_cons_succ]
    refine take_d (i := 5) (d := some 27) (v := .int .i64 d.id) rfl rfl (by kernel_rfl) (by kernel_rfl) (by kernel_rfl) (fun _ _ _ h => by first | exact h | cases h.1) (Or.inl ⟨by rfl, fun W hW => ?_⟩) hH ?_
    ·have k0 := hW.2.1 0 _ rfl
     simp only [Nat.zero_add] at k0
     clear hW hH
     go_simp
    simp only [Act.put, List.setIfInBounds_toArray, List.set_cons_zero, List.set_cons_succ]
    refine take_d (i := 6) (d := some 28) (v := .pointer (some ⟨xb, 1, none⟩)) rfl rfl (by kernel_rfl) (by kernel_rfl) (by kernel_rfl) (fun _ _ _ h => by first | exact h | cases h.1) (Or.inl ⟨by rfl, fun W hW => ?_⟩) hH ?_
    ·clear hW hH
     go_simp
    simp only [Act.put, List.setIfInBounds_toArray, List.set_cons_zero, List.set_cons_succ]
    refine take_d (i := 7) (d := some 29) (v := wd d.bal) rfl rfl (by kernel_rfl) (by kernel_rfl) (by kernel_rfl) (fun _ _ _ h => by first | exact h | cases h.1) (Or.inl ⟨by rfl, fun W hW => ?_⟩) hH ?_
    ·have k1 := hW.2.1 1 _ rfl; have k2 := hW.2.1 2 _ rfl; have k3 := hW.2.1 3 _ rfl; have k4 := hW.2.1 4 _ rfl
     simp only [Nat.zero_add] at k1 k2 k3 k4
     clear hW hH
     unfold wd
     go_simp
    simp only [Act.put, List.setIfInBounds_toArray, List.set_cons_zero, List.set_cons_succ]
    refine take_d (i := 8) (d := some 30) (v := .pointer (some ⟨xb, 5, none⟩)) rfl rfl (by kernel_rfl) (by kernel_rfl) (by kernel_rfl) (fun _ _ _ h => by first | exact h | cases h.1) (Or.inl ⟨by rfl, fun W hW => ?_⟩) hH ?_
    ·clear hW hH
     go_simp
    simp only [Act.put, List.setIfInBounds_toArray, List.set_cons_zero, List.set_cons_succ]
    refine take_d (i := 9) (d := some 31) (v := .int .i64 d.nonce) rfl rfl (by kernel_rfl) (by kernel_rfl) (by kernel_rfl) (fun _ _ _ h => by first | exact h | cases h.1) (Or.inl ⟨by rfl, fun W hW => ?_⟩) hH ?_
    ·have k0 := hW.2.1 5 _ rfl
     simp only [Nat.zero_add] at k0
     clear hW hH
     go_simp
    simp only [Act.put, List.setIfInBounds_toArray, List.set_cons_zero, List.set_cons_succ]
    refine take_d (i := 10) (d := some 32) (v := .pointer (some ⟨xb, 6, none⟩)) rfl rfl (by kernel_rfl) (by kernel_rfl) (by kernel_rfl) (fun _ _ _ h => by first | exact h | cases h.1) (Or.inl ⟨by rfl, fun W hW => ?_⟩) hH ?_
    ·clear hW hH
     go_simp
    simp only [Act.put, List.setIfInBounds_toArray, List.set_cons_zero, List.set_cons_succ]
    refine take_d (i := 11) (d := some 33) (v := .string d.code) rfl rfl (by kernel_rfl) (by kernel_rfl) (by kernel_rfl) (fun _ _ _ h => by first | exact h | cases h.1) (Or.inl ⟨by rfl, fun W hW => ?_⟩) hH ?_
    ·have k0 := hW.2.1 6 _ rfl
     simp only [Nat.zero_add] at k0
     clear hW hH
     go_simp
    simp only [Act.put, List.setIfInBounds_toArray, List.set_cons_zero, List.set_cons_succ]
    refine take_d (i := 13) (d := some 35) (v := .slice (some ⟨mb, 0, none⟩) ds.length mc) rfl rfl (by kernel_rfl) (by kernel_rfl) (by kernel_rfl) (fun _ _ _ h => by first | exact h | cases h.1) (Or.inl ⟨by rfl, fun W hW => ?_⟩) hH ?_
    ·clear hW hH
     go_simp
    simp only [Act.put, List.setIfInBounds_toArray, List.set_cons_zero, List.set_cons_succ]
    refine take_d (i := 14) (d := some 36) (v := .int .i64 (k : Int)) rfl rfl (by kernel_rfl) (by kernel_rfl) (by kernel_rfl) (fun _ _ _ h => by first | exact h | cases h.1) (Or.inl ⟨by rfl, fun W hW => ?_⟩) hH ?_
    ·clear hW hH
     go_simp
    simp only [Act.put, List.setIfInBounds_toArray, List.set_cons_zero, List.set_cons_succ]
    refine take_d (i := 15) (d := some 37) (v := .pointer (some ⟨mb, k, none⟩)) rfl rfl (by kernel_rfl) (by kernel_rfl) (by kernel_rfl) (fun _ _ _ h => by first | exact h | cases h.1) (Or.inl ⟨by rfl, fun W hW => ?_⟩) hH ?_
    ·clear hW hH
     go_simp
    simp only [Act.put, List.setIfInBounds_toArray, List.set_cons_zero, List.set_cons_succ]
    refine take_d (i := 16) (d := some 38) (v := .slice mk.a mk.n mk.c) rfl rfl (by kernel_rfl) (by kernel_rfl) (by kernel_rfl) (fun _ _ _ h => by first | exact h | cases h.1) (Or.inl ⟨by rfl, fun W hW => ?_⟩) hH ?_
    ·have k0 := hW.2.2
     clear hW hH
     go_simp
    simp only [Act.put, List.setIfInBounds_toArray, List.set_cons_zero, List.set_cons_succ]
    refine take_d (i := 17) (d := some 39) (v := .pointer (some ⟨xb, 7, none⟩)) rfl rfl (by kernel_rfl) (by kernel_rfl) (by kernel_rfl) (fun _ _ _ h => by first | exact h | cases h.1) (Or.inl ⟨by rfl, fun W hW => ?_⟩) hH ?_
    ·clear hW hH
     go_simp
    simp only [Act.put, List.setIfInBounds_toArray, List.set_cons_zero, List.set_cons_succ]
    refine take_d (i := 18) (d := some 40) (v := .slice (some ⟨bs, 0, none⟩) d.slots.length sc) rfl rfl (by kernel_rfl) (by kernel_rfl) (by kernel_rfl) (fun _ _ _ h => by first | exact h | cases h.1) (Or.inl ⟨by rfl, fun W hW => ?_⟩) hH ?_
    ·have k0 := hW.2.1 7 _ rfl
     simp only [Nat.zero_add] at k0
     clear hW hH
     go_simp
    simp only [Act.put, List.setIfInBounds_toArray, List.set_cons_zero, List.set_cons_succ]
    have hN2 := hN1.keep (Below.refl _ _).drew
    have hml2 : mb < V.drew.heap.size := Nat.lt_of_lt_of_le hmb hN1.below.size
    generalize V.drew = W0 at hH hN2 hml2 ⊢
    have hcs : d.code.size ≤ 281474976710656 := by have := hokk.2.2.2.2.1; omega
    refine wpAnyH_ready (rs := [12]) (by kernel_rfl) (by simp) ?_
    refine AllReadyH.cons rfl (fun K hK => ?_) AllReadyH.nil
    ·skip
     go_simp
     refine (clone26 d.code W0 hcs).mono ?_
     rintro e W1 ⟨rfl, hbn⟩
     go_wp2_with fail
     refine hK.out _ _ ⟨(hbn.cell (p := ⟨v.heap.size + 1 + 1, 0, none⟩) hN2.lt).trans hH.1, hH.2.1.below hbn, (hbn.cell (p := ⟨mb, k, none⟩) hml2).trans hH.2.2⟩ (fun hH => ?_)
     clear hK K
     replace hN2 := hN2.keep hbn
     replace hml2 := Nat.lt_of_lt_of_le hml2 hbn.size
     clear hbn
     refine wpAnyH_ready (rs := [19]) (by kernel_rfl) (by simp) ?_
     refine AllReadyH.cons rfl (fun K hK => ?_) AllReadyH.nil
     go_simp
     refine (keptSlotsB d.slots bs sc W1 (hsl.below hN2.below) hnm hkey hokk.2.2.2.2.2.2).mono ?_
     rintro e W2 ⟨rfl, hmap, hbn, hmlt⟩
     obtain ⟨ms, hms⟩ : ∃ ms, W1.heap.size = ms := ⟨_, rfl⟩
     rw [hms] at hmap hmlt ⊢
     have hmsv : ms ≠ v.heap.size := by have := hN2.lt; omega
     go_wp2_with fail
     refine hK.out _ _ ⟨(hbn.cell (p := ⟨v.heap.size + 1 + 1, 0, none⟩) hN2.lt).trans hH.1, hH.2.1.below hbn, (hbn.cell (p := ⟨mb, k, none⟩) hml2).trans hH.2.2⟩ (fun hH => ?_)
     clear hK K
     replace hN2 := hN2.keep hbn
     replace hml2 := Nat.lt_of_lt_of_le hml2 hbn.size
     clear hbn
     refine take_d (i := 20) (d := some 42) (v := .agg (ledCells d mk ms).toArray) rfl rfl (by kernel_rfl) (by kernel_rfl) (by kernel_rfl) (fun _ _ _ h => by first | exact h | cases h.1) (Or.inl ⟨by rfl, fun W hW => ?_⟩) hH ?_
     ·clear hW hH
      unfold wd ledCells
      go_simp
     simp only [Act.put, List.setIfInBounds_toArray, List.set_cons_zero, List.set_cons_succ]
     refine wpAnyH_ready (rs := [21]) (by kernel_rfl) (by simp) ?_
     refine AllReadyH.cons rfl (fun K hK => ?_) AllReadyH.nil
     obtain ⟨pa, hpa⟩ : ∃ pa, W2.heap.size = pa := ⟨_, rfl⟩
     have hbn : Below W2.heap.size W2 (W2.alloc (.cells (ledCells d mk ms).toArray 94)) := (Below.refl _ _).alloc (Nat.le_refl _) _
     have hpc := cells_new W2 (ledCells d mk ms) 94
     unfold ledCells
     go_simp
     refine hK.out _ (W2.alloc (.cells (ledCells d mk ms).toArray 94)) ⟨(hbn.cell (p := ⟨v.heap.size + 1 + 1, 0, none⟩) hN2.lt).trans hH.1, hH.2.1.below hbn, (hbn.cell (p := ⟨mb, k, none⟩) hml2).trans hH.2.2⟩ (fun hH => ?_)
     clear hK K
     replace hN2 := hN2.keep hbn
     replace hmap := hmap.below hbn
     rw [hpa] at hpc
     generalize W2.alloc (.cells (ledCells d mk ms).toArray 94) = W3 at hH hN2 hmap hpc ⊢
     refine wpAnyH_ready (rs := [22]) (by kernel_rfl) (by simp) ?_
     refine AllReadyH.cons rfl (fun K hK => ?_) AllReadyH.nil
     go_simp
     refine upon_mapUpdateB intKeys u82 (k := d.id) (v := .pointer (some ⟨pa, 0, none⟩)) hN2.map trivial (fun _ _ => trivial) (fun o' hM' => ?_)
     have hcm := fun a u h => cell_setMap W3 v.heap.size o' hN2.map.is a u h
     refine hK.out _ _ ⟨hcm _ _ hH.1, fun j u hj => hcm _ _ (hH.2.1 j u hj), hcm _ _ hH.2.2⟩ (fun hH => ?_)
     clear hK K
     refine wpAnyH_done (by kernel_rfl) ?_ _
     have hnk : d.id ∉ (ledL L).map (·.1) := fun hm => by
      rw [ledL_keys] at hm
      obtain ⟨q, hq, e⟩ := List.mem_map.1 hm
      exact hnew q hq e
     rw [updL_new _ _ _ hnk] at hM'
     have hsame : ∀ g, g ≠ v.heap.size → (W3.heap.setIfInBounds v.heap.size o')[g]? = W3.heap[g]? := fun g hg => Array.getElem?_setIfInBounds_ne (Ne.symm hg)
     refine ⟨rfl, ms, pa, rfl, below_setMap hN2.below (Nat.le_refl _) o', hcm _ _ hN2.cell, ?_, ?_, fun q hq => ?_, by simpa using hN2.lt⟩
     ·have e : ledL (L ++ [(kp d, pa)]) = ledL L ++ [(d.id, .pointer (some ⟨pa, 0, none⟩))] := by unfold ledL; rw [List.map_append]; rfl
      rw [e]; exact hM'
     ·rw [htake, List.map_append, List.map_append, hN2.lst]; rfl
     ·rcases List.mem_append.1 hq with hq | hq
      ·obtain ⟨km, ks, h1, h2, h3⟩ := hN2.acc q hq
       exact ⟨km, ks, fun j u hj => hcm _ _ (h1 j u hj), h2.same (hsame ks h3), h3⟩
      ·rw [List.mem_singleton.1 hq]
       exact ⟨mk, ms, fun j u hj => hcm _ _ (hpc j u hj), hmap.same (hsame ms hmsv), hmsv⟩
   ·intro ms pa W hW
    go_wp2_with fail
    refine ⟨⟨k + 1, _, by go_num, by omega, hW⟩, ?_⟩
    simp [Go.RowKit.intOf]; omega
  ·have hk' : k = ds.length := by omega
   subst hk'
   go_wp2_with fail
   simp [bodyPost, results, go_sem]
   have hlst := hN.lst
   rw [List.take_length] at hlst
   have hin : ∀ q ∈ L, ∃ p ∈ ds, q.1 = kp p.1 := fun q hq => by
    have h1 : q.1 ∈ L.map (·.1) := List.mem_map_of_mem hq
    rw [hlst] at h1
    obtain ⟨p, hp, e⟩ := List.mem_map.1 h1
    exact ⟨p, hp, e.symm⟩
   refine ⟨L, ⟨⟨⟨_, hN.cell, hN.map⟩, hN.lt, fun q hq => ?_, ?_, fun q hq => ?_, ?_⟩, hlst, by omega, hN.below⟩⟩
   ·obtain ⟨mk, ms, h1, h2, _⟩ := hN.acc q hq
    obtain ⟨p, hp, e⟩ := hin q hq
    have hp0 := (hok p hp).2.2.2.2.2
    refine ⟨⟨mk, ms, h1, h2⟩, fun r hr => ?_, ?_, ?_⟩
    ·rw [e] at hr
     exact hI.key p hp r (List.mem_filter.1 hr).1
    ·rw [e]
     exact (List.filter_sublist.map _).nodup hp0.2
    ·rw [e]
     have h3 : (kept p.1.slots).length ≤ p.1.slots.length := List.length_filter_le _ _
     have h4 := hp0.1
     show (kept p.1.slots).length < _
     omega
   ·have e : L.map (·.1.id) = (L.map (·.1)).map (·.id) := by rw [List.map_map]; rfl
    rw [e, hlst, List.map_map]
    exact hids
   ·obtain ⟨p, hp, e⟩ := hin q hq
    have := hok p hp
    rw [e]
    show 0 ≤ p.1.id ∧ p.1.id ≤ _
    unfold AccOk at this
    omega
   ·have := congrArg List.length hlst
    simp at this
    omega
end Go.Mark
