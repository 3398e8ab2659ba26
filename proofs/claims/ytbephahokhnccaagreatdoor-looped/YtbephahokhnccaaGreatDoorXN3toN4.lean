import Derived.Test.YtbephahokhnccaaGreatDoorXK2toE8
set_option linter.unusedSectionVars false
set_option maxRecDepth 100000
set_option maxHeartbeats 4000000
namespace Go.Mark
open Go.RowKit Go.Proofs
variable [BaseB]
noncomputable def c17 : Code := match Tryz.f35.body with
 | some (.seq _ (.seq _ c)) => c
 | _ => .skip
def accOf (d : AccD) (mk : SV) (pa ms : Nat) : Int × Nat × Ac := (d.id, pa, ⟨d.bal, d.nonce, d.code, mk, ms, kept d.slots⟩)
structure N35 (v W : World) (ds : List (AccD × SV)) (mks : Nat -> SV) (k : Nat) (L : List (Int × Nat × Ac)) : Prop where
 below : Below v.heap.size v W
 led : W.heap[v.heap.size + 2]? = some (.cells #[.map (some v.heap.size), .int .i64 0, .slice none 0 0, .map (some (v.heap.size + 1))] 128 (0, 0))
 map : MapB (fun x : Int => Value.int .i64 x) W v.heap.size (ids L)
 dmap : MapB (fun x : Int => Value.int .i64 x) W (v.heap.size + 1) []
 len : L.length = k
 lst : ∀ i, i < k -> ∃ pa ms d, (ds[i]?).map (·.1) = some d /\ L[i]? = some (accOf d (mks i) pa ms)
 acc : ∀ q ∈ L, W.heap[q.2.1]? = some (.cells (acCells q.2.2) 136 (0, 0)) /\ MapB wd W q.2.2.ms (slotL q.2.2.sl) /\ v.heap.size + 2 < q.2.2.ms /\ v.heap.size + 2 < q.2.1
 ndb : (L.map (·.2.1)).Nodup
 ndm : (L.map (·.2.2.ms)).Nodup
theorem N35.lt {v W : World} {ds : List (AccD × SV)} {mks : Nat -> SV} {k : Nat} {L : List (Int × Nat × Ac)} (h : N35 v W ds mks k L) : v.heap.size + 2 < W.heap.size := (Array.getElem?_eq_some_iff.1 h.led).1
theorem N35.cell {v W : World} {ds : List (AccD × SV)} {mks : Nat -> SV} {k : Nat} {L : List (Int × Nat × Ac)} (h : N35 v W ds mks k L) : W.cell? ⟨v.heap.size + 2, 0, none⟩ = some (.map (some v.heap.size)) := by rw [blk_cell h.led 0]; rfl
theorem N35.keep {v W W' : World} {ds : List (AccD × SV)} {mks : Nat -> SV} {k : Nat} {L : List (Int × Nat × Ac)} (h : N35 v W ds mks k L) (hb : Below W.heap.size W W') : N35 v W' ds mks k L :=
 ⟨h.below.trans (hb.mono h.below.size), (hb.block _ h.lt).trans h.led, h.map.below hb, h.dmap.below hb, h.len, h.lst, fun q hq => ⟨(hb.block _ (blk_lt (h.acc q hq).1)).trans (h.acc q hq).1, (h.acc q hq).2.1.below hb, (h.acc q hq).2.2⟩, h.ndb, h.ndm⟩
theorem cell_setMap (W : World) (r : Nat) (o : Obj) (hm : ∃ es c, W.heap[r]? = some (.map es c)) (a : Addr) (u : Value) (h : W.cell? a = some u) : { W with heap := W.heap.setIfInBounds r o : World }.cell? a = some u := by
 have hne : r ≠ a.block := fun e => by
  obtain ⟨es, c, hm⟩ := hm
  unfold World.cell? at h
  rw [<- e, hm] at h
  cases h
 unfold World.cell? at h ⊢
 simp only [Array.getElem?_setIfInBounds_ne hne]
 exact h
theorem MapB.is {κ : Type} {kf : κ -> Value} {w : World} {r : Nat} {l : List (κ × Value)} (h : MapB kf w r l) : ∃ es c, w.heap[r]? = some (.map es c) := let ⟨es, c, h1, _⟩ := h; ⟨es, c, h1⟩
theorem new35 (ds : List (AccD × SV)) (a : Option Addr) (cap mb mc : Nat) (mks : Nat -> SV) (v : World) (hI : InR v a ds) (hmk : ∀ i, i < ds.length -> v.cell? ⟨mb, i, none⟩ = some (.slice (mks i).a (mks i).n (mks i).c)) (hmb : mb < v.heap.size) (hso : Sound (ds.map (·.1))) :
  c17.wp TryQ.prog (bodyPost TryQ.prog Tryz.f35 fun e v' => ∃ val, e = .returned val /\ ∃ L, val = .pointer (some ⟨v.heap.size + 2, 0, none⟩) /\ N35 v v' ds mks ds.length L) ⟨#[.slice a ds.length cap, undef, .pointer none, .slice (some ⟨mb, 0, none⟩) ds.length mc, undef, undef, undef, .slice a ds.length cap, .slice (some ⟨mb, 0, none⟩) ds.length mc, undef, undef, undef, undef, undef, undef, undef, undef, undef, undef, undef, undef, undef, undef, undef, undef, undef, undef, undef, undef, undef, undef, undef, undef, undef, undef, undef, undef, undef, undef, undef, undef, undef, undef, undef, undef, undef], []⟩ v := by
 have hn := hI.len
 have hnum : ds.length <= 64 := by simpa using hso.1
 have hok : ∀ p ∈ ds, AccOk p.1 := fun p hp => hso.2.1 _ (List.mem_map_of_mem hp)
 have hids : (ds.map (·.1.id)).Nodup := by have := hso.2.2.1; rw [List.map_map] at this; exact this
 have hmk1 := fun W => run_mkMap (mt := 124) u124 ds.length W
 have hmk2 := fun W => run_mkMap0 (mt := 125) W
 dsimp only [c17, Tryz.f35]
 go_wp2_with fail
 go_loopw [17] (fun i W => ∃ (k : Nat) (L : List (Int × Nat × Ac)), i = .int .i64 k /\ k <= ds.length /\ N35 v W ds mks k L) (fun i _ => ds.length - (Go.RowKit.intOf i).toNat)
 case atStart =>
  refine ⟨0, [], rfl, Nat.zero_le _, (ba.alloc (by simp) _).alloc (by simp; omega) _, ?_, ?_, ?_, rfl, (fun i hi => by omega), (fun q hq => by cases hq), List.nodup_nil, List.nodup_nil⟩
  ·have h1 := blk_new ((v.alloc (.map #[] 0)).alloc (.map #[] 0)) (.cells #[.map (some v.heap.size), .int .i64 0, .slice none 0 0, .map (some (v.heap.size + 1))] 128)
   have e : ((v.alloc (.map #[] 0)).alloc (.map #[] 0)).heap.size = v.heap.size + 2 := by simp
   rw [e] at h1
   exact h1
  ·have hm0 := MapB.new (fun x : Int => Value.int .i64 x) v
   have hb1 : Below (v.alloc (.map #[] 0)).heap.size (v.alloc (.map #[] 0)) ((v.alloc (.map #[] 0)).alloc (.map #[] 0)) := ba
   exact (hm0.below hb1).below ba
  ·have hm0 := MapB.new (fun x : Int => Value.int .i64 x) (v.alloc (.map #[] 0))
   have e : (v.alloc (.map #[] 0)).heap.size = v.heap.size + 1 := by simp
   rw [e] at hm0
   exact hm0.below ba
 case round =>
  obtain ⟨k, L, rfl, hk, hN⟩ := hrel
  by_cases hlt : k < ds.length
  ·have hlt' : (k : Int) < (ds.length : Int) := by omega
   have hmem := List.getElem_mem hlt
   obtain ⟨b, o, rfl, hAcc⟩ := hI.acc.resolve_left (fun h => by subst h; simp at hlt)
   have hA' := (hAcc.below hN.below) k ds[k] (List.getElem?_eq_getElem hlt)
   obtain ⟨hsn, hsl⟩ := hI.sl _ hmem
   have hbal := hI.bal _ hmem
   have hkey := hI.key _ hmem
   have hnm := hI.num _ hmem
   have hokk := hok _ hmem
   have hdk : (ds[k]?).map (·.1) = some ds[k].1 := by rw [List.getElem?_eq_getElem hlt]; rfl
   have hmki := hmk k hlt
   generalize hmkk : mks k = mk at hmki
   have hmki1 := (hN.below.cell (p := ⟨mb, k, none⟩) hmb).trans hmki
   have hnew : ds[k].1.id ∉ L.map (·.1) := fun h => by
    obtain ⟨q, hq, e⟩ := List.mem_map.1 h
    obtain ⟨i, hi, he⟩ := List.mem_iff_getElem.1 hq
    have hik : i < k := by have := hN.len; omega
    obtain ⟨pa, ms, d, hd, hL⟩ := hN.lst i hik
    rw [List.getElem?_eq_getElem hi, he] at hL
    have hil : i < ds.length := by omega
    rw [List.getElem?_eq_getElem hil] at hd
    have h2 := List.pairwise_iff_getElem.1 hids i k (by simpa using hil) (by simpa using hlt) hik
    simp only [List.getElem_map] at h2
    simp only [Option.map_some, Option.some.injEq] at hd hL
    rw [hL, <- hd] at e
    exact h2 e
   have hAccs : Shut (AccsAt v b o ds) := hAcc
   clear hAcc
   generalize ds[k] = p at *
   obtain ⟨d, sv⟩ := p
   simp only at hsn hsl hbal hkey hnm hokk hnew hdk
   have c0 := hA' 0 _ rfl
   have c1 := hA' 1 _ rfl
   have c2 := hA' 2 _ rfl
   have c3 := hA' 3 _ rfl
   have c4 := hA' 4 _ rfl
   have c5 := hA' 5 _ rfl
   have c6 := hA' 6 _ rfl
   have c7 := hA' 7 _ rfl
   rw [Nat.add_zero] at c0
   simp only at c0 c1 c2 c3 c4 c5 c6 c7
   rw [hsn] at c7
   have hbx : Below wr.heap.size wr (wr.alloc (.cells (accCells d ⟨sv.a, d.slots.length, sv.c⟩).toArray 52)) := ba
   have hx := cells_new wr (accCells d ⟨sv.a, d.slots.length, sv.c⟩) 52
   have hN1 := hN.keep hbx
   have hmki2 := (hbx.cell (p := ⟨mb, k, none⟩) (Nat.lt_of_lt_of_le hmb hN.below.size)).trans hmki1
   have hbl : b < wr.heap.size := by
    have h := c0
    simp only [World.cell?] at h
    cases hh : wr.heap[b]? with
    | none => rw [hh] at h; cases h
    | some o => exact (Array.getElem?_eq_some_iff.1 hh).1
   go_wp2_with fail
   clear c0 c1 c2 c3 c4 c5 c6 c7 hA' hmki1
   change Code.wp _ _ _ _ (wr.alloc (.cells (accCells d ⟨sv.a, d.slots.length, sv.c⟩).toArray 52))
   have hxl : wr.heap.size < (wr.alloc (.cells (accCells d ⟨sv.a, d.slots.length, sv.c⟩).toArray 52)).heap.size := by simp
   generalize wr.alloc (.cells (accCells d ⟨sv.a, d.slots.length, sv.c⟩).toArray 52) = V at hx hN1 hmki2 hxl ⊢
   generalize wr.heap.size = xb at hx hxl ⊢
   refine wp_meet2 (fun _ pa W => ∃ ms, N35 v W ds mks (k + 1) (L ++ [accOf d mk pa ms])) ?_
   apply Exists.intro
   apply And.intro
   ·refine wp_region_held_drew (S := fun W => W.cell? ⟨v.heap.size + 1 + 1, 0, none⟩ = some (.map (some v.heap.size)) /\ CellsAt W xb 0 (accCells d ⟨sv.a, d.slots.length, sv.c⟩) /\ W.cell? ⟨mb, k, none⟩ = some (.slice mk.a mk.n mk.c)) (by kernel_rfl) ⟨hN1.cell, hx.below (Below.refl _ _).drew, hmki2⟩ (fun hH => ?_)
    refine td (i := 0) (d := some 22) (v := .pointer (some ⟨v.heap.size + 1 + 1, 0, none⟩)) rfl rfl (fun W hW => ?_) hH ?_
    ·clear hW hH
     go_simp
    refine td (i := 1) (d := some 23) (v := .pointer (some ⟨v.heap.size + 1 + 1, 0, none⟩)) rfl rfl (fun W hW => ?_) hH ?_
    ·clear hW hH
     go_simp
    refine td (i := 2) (d := some 24) (v := .pointer (some ⟨v.heap.size + 1 + 1, 0, none⟩)) rfl rfl (fun W hW => ?_) hH ?_
    ·clear hW hH
     go_simp
    refine td (i := 3) (d := some 25) (v := .map (some v.heap.size)) rfl rfl (fun W hW => ?_) hH ?_
    ·have k0 := hW.1
     clear hW hH
     go_simp
    refine td (i := 4) (d := some 26) (v := .pointer (some ⟨xb, 0, none⟩)) rfl rfl (fun W hW => ?_) hH ?_
    ·clear hW hH
     go_simp
    refine td (i := 5) (d := some 27) (v := .int .i64 d.id) rfl rfl (fun W hW => ?_) hH ?_
    ·have k0 := hW.2.1 0 _ rfl
     simp only [Nat.zero_add] at k0
     clear hW hH
     go_simp
    refine td (i := 6) (d := some 28) (v := .pointer (some ⟨xb, 1, none⟩)) rfl rfl (fun W hW => ?_) hH ?_
    ·clear hW hH
     go_simp
    refine td (i := 7) (d := some 29) (v := wd d.bal) rfl rfl (fun W hW => ?_) hH ?_
    ·have k1 := hW.2.1 1 _ rfl; have k2 := hW.2.1 2 _ rfl; have k3 := hW.2.1 3 _ rfl; have k4 := hW.2.1 4 _ rfl
     simp only [Nat.zero_add] at k1 k2 k3 k4
     clear hW hH
     unfold wd
     go_simp
    refine td (i := 8) (d := some 30) (v := .pointer (some ⟨xb, 5, none⟩)) rfl rfl (fun W hW => ?_) hH ?_
    ·clear hW hH
     go_simp
    refine td (i := 9) (d := some 31) (v := .int .i64 d.nonce) rfl rfl (fun W hW => ?_) hH ?_
    ·have k0 := hW.2.1 5 _ rfl
     simp only [Nat.zero_add] at k0
     clear hW hH
     go_simp
    refine td (i := 10) (d := some 32) (v := .pointer (some ⟨xb, 6, none⟩)) rfl rfl (fun W hW => ?_) hH ?_
    ·clear hW hH
     go_simp
    refine td (i := 11) (d := some 33) (v := .string d.code) rfl rfl (fun W hW => ?_) hH ?_
    ·have k0 := hW.2.1 6 _ rfl
     simp only [Nat.zero_add] at k0
     clear hW hH
     go_simp
    refine td (i := 13) (d := some 35) (v := .slice (some ⟨mb, 0, none⟩) ds.length mc) rfl rfl (fun W hW => ?_) hH ?_
    ·clear hW hH
     go_simp
    refine td (i := 14) (d := some 36) (v := .int .i64 (k : Int)) rfl rfl (fun W hW => ?_) hH ?_
    ·clear hW hH
     go_simp
    refine td (i := 15) (d := some 37) (v := .pointer (some ⟨mb, k, none⟩)) rfl rfl (fun W hW => ?_) hH ?_
    ·clear hW hH
     go_simp
    refine td (i := 16) (d := some 38) (v := .slice mk.a mk.n mk.c) rfl rfl (fun W hW => ?_) hH ?_
    ·have k0 := hW.2.2
     clear hW hH
     go_simp
    refine td (i := 17) (d := some 39) (v := .pointer (some ⟨xb, 7, none⟩)) rfl rfl (fun W hW => ?_) hH ?_
    ·clear hW hH
     go_simp
    refine td (i := 18) (d := some 40) (v := .slice sv.a d.slots.length sv.c) rfl rfl (fun W hW => ?_) hH ?_
    ·have k0 := hW.2.1 7 _ rfl
     simp only [Nat.zero_add] at k0
     clear hW hH
     go_simp
    have hN2 := hN1.keep (Below.refl _ _).drew
    have hml2 : mb < V.drew.heap.size := Nat.lt_of_lt_of_le hmb hN1.below.size
    generalize V.drew = W0 at hH hN2 hml2 ⊢
    have hcs : d.code.size <= 281474976710656 := by have := hokk.2.2.2.2.1; omega
    refine r1 (i := 12) rfl (fun K hK => ?_)
    ·skip
     go_simp
     refine (clone26 d.code W0 hcs).mono ?_
     rintro e W1 ⟨rfl, hbn⟩
     go_wp2_with fail
     refine hK.out _ _ ⟨(hbn.cell (p := ⟨v.heap.size + 1 + 1, 0, none⟩) hN2.lt).trans hH.1, hH.2.1.below hbn, (hbn.cell (p := ⟨mb, k, none⟩) hml2).trans hH.2.2⟩ (fun hH => ?_)
     clear hK K
     replace hN2 := hN2.keep hbn
     replace hml2 := Nat.lt_of_lt_of_le hml2 hbn.size
     clear hbn
     refine r1 (i := 19) rfl (fun K hK => ?_)
     go_simp
     refine (keptSlotsR d.slots sv.a sv.c W1 (hsl.imp id fun ⟨b, o, h1, h2⟩ => ⟨b, o, h1, h2.below hN2.below⟩) hnm hkey hokk.2.2.2.2.2.2).mono ?_
     rintro e W2 ⟨rfl, hmap, hbn, hmlt⟩
     obtain ⟨ms, hms⟩ : ∃ ms, W1.heap.size = ms := ⟨_, rfl⟩
     rw [hms] at hmap hmlt ⊢
     have hmsv : v.heap.size + 2 < ms := by have := hN2.lt; omega
     have hlow0 : ∀ q ∈ L, q.2.2.ms < ms := fun q hq => by rw [<- hms]; exact (hN2.acc q hq).2.1.lt
     go_wp2_with fail
     refine hK.out _ _ ⟨(hbn.cell (p := ⟨v.heap.size + 1 + 1, 0, none⟩) hN2.lt).trans hH.1, hH.2.1.below hbn, (hbn.cell (p := ⟨mb, k, none⟩) hml2).trans hH.2.2⟩ (fun hH => ?_)
     clear hK K
     replace hN2 := hN2.keep hbn
     replace hml2 := Nat.lt_of_lt_of_le hml2 hbn.size
     clear hbn
     refine td (i := 20) (d := some 42) (v := .agg (acCells ⟨d.bal, d.nonce, d.code, mk, ms, kept d.slots⟩)) rfl rfl (fun W hW => ?_) hH ?_
     ·clear hW hH
      unfold wd acCells
      go_simp
     refine r1 (i := 21) rfl (fun K hK => ?_)
     obtain ⟨pa, hpa⟩ : ∃ pa, W2.heap.size = pa := ⟨_, rfl⟩
     have hbn : Below W2.heap.size W2 (W2.alloc (.cells (acCells ⟨d.bal, d.nonce, d.code, mk, ms, kept d.slots⟩) 136)) := ba
     have hpc := blk_new W2 (.cells (acCells ⟨d.bal, d.nonce, d.code, mk, ms, kept d.slots⟩) 136)
     have hpav : v.heap.size + 2 < pa := by have := hN2.lt; omega
     have hlow : ∀ q ∈ L, q.2.1 < pa /\ q.2.2.ms < ms := fun q hq => ⟨by rw [<- hpa]; exact blk_lt (hN2.acc q hq).1, hlow0 q hq⟩
     unfold acCells
     go_simp
     refine hK.out _ (W2.alloc (.cells (acCells ⟨d.bal, d.nonce, d.code, mk, ms, kept d.slots⟩) 136)) ⟨(hbn.cell (p := ⟨v.heap.size + 1 + 1, 0, none⟩) hN2.lt).trans hH.1, hH.2.1.below hbn, (hbn.cell (p := ⟨mb, k, none⟩) hml2).trans hH.2.2⟩ (fun hH => ?_)
     clear hK K
     replace hN2 := hN2.keep hbn
     replace hmap := hmap.below hbn
     rw [hpa] at hpc
     generalize W2.alloc (.cells (acCells ⟨d.bal, d.nonce, d.code, mk, ms, kept d.slots⟩) 136) = W3 at hH hN2 hmap hpc ⊢
     refine r1 (i := 22) rfl (fun K hK => ?_)
     go_simp
     refine upon_mapUpdateB intKeys u124 (k := d.id) (v := .pointer (some ⟨pa, 0, none⟩)) hN2.map trivial (fun _ _ => trivial) (fun o' hM' => ?_)
     have hcm := fun a u h => cell_setMap W3 v.heap.size o' hN2.map.is a u h
     refine hK.out _ _ ⟨hcm _ _ hH.1, fun j u hj => hcm _ _ (hH.2.1 j u hj), hcm _ _ hH.2.2⟩ (fun hH => ?_)
     clear hK K
     refine wpAnyH_done (by kernel_rfl) ?_ _
     have hnk : d.id ∉ (ids L).map (·.1) := fun hm => hnew (by rw [show (ids L).map (·.1) = L.map (·.1) by unfold ids; rw [List.map_map]; rfl] at hm; exact hm)
     rw [updL_new _ _ _ hnk] at hM'
     have hsame : ∀ g, g ≠ v.heap.size -> (W3.heap.setIfInBounds v.heap.size o')[g]? = W3.heap[g]? := fun g hg => Array.getElem?_setIfInBounds_ne (Ne.symm hg)
     refine ⟨rfl, ms, pa, rfl, ms, below_setMap hN2.below (Nat.le_refl _) o', (hsame _ (by omega)).trans hN2.led, ?_, hN2.dmap.same (hsame _ (by omega)), by simp [hN2.len], fun i hi => ?_, fun q hq => ?_, ?_, ?_⟩
     ·have e : ids (L ++ [accOf d mk pa ms]) = ids L ++ [(d.id, .pointer (some ⟨pa, 0, none⟩))] := by unfold ids; rw [List.map_append]; rfl
      rw [e]; exact hM'
     ·by_cases hik : i < k
      ·obtain ⟨pa', ms', d', h1, h2⟩ := hN2.lst i hik
       exact ⟨pa', ms', d', h1, by rw [List.getElem?_append_left (by rw [hN2.len]; exact hik)]; exact h2⟩
      ·obtain rfl : i = k := by omega
       refine ⟨pa, ms, d, hdk, ?_⟩
       rw [List.getElem?_append_right (by rw [hN2.len]; exact Nat.le_refl _), hN2.len, hmkk]
       simp
     ·rcases List.mem_append.1 hq with hq | hq
      ·obtain ⟨h1, h2, h3⟩ := hN2.acc q hq
       have h4 : q.2.1 ≠ v.heap.size := obj_ne h1 hN2.map.is.choose_spec.choose_spec (fun e => by cases e)
       exact ⟨(hsame _ h4).trans h1, h2.same (hsame _ (by omega)), h3⟩
      ·rw [List.mem_singleton.1 hq]
       have h4 : pa ≠ v.heap.size := obj_ne hpc hN2.map.is.choose_spec.choose_spec (fun e => by cases e)
       exact ⟨(hsame _ h4).trans hpc, hmap.same (hsame ms (by omega)), hmsv, hpav⟩
     ·rw [List.map_append, List.nodup_append]
      refine ⟨hN2.ndb, by simp, fun x hx y hy => ?_⟩
      obtain ⟨q, hq, rfl⟩ := List.mem_map.1 hx
      simp [accOf] at hy
      have := (hlow q hq).1
      omega
     ·rw [List.map_append, List.nodup_append]
      refine ⟨hN2.ndm, by simp, fun x hx y hy => ?_⟩
      obtain ⟨q, hq, rfl⟩ := List.mem_map.1 hx
      simp [accOf] at hy
      have := (hlow q hq).2
      omega
   ·rintro ms pa W ⟨ms', hW⟩
    go_wp2_with fail
    refine ⟨⟨k + 1, _, by go_num, by omega, hW⟩, ?_⟩
    simp [Go.RowKit.intOf]; omega
  ·have hk' : k = ds.length := by omega
   subst hk'
   go_wp2_with fail
   simp [bodyPost, results, go_sem]
   exact ⟨L, hN⟩
end Go.Mark
set_option maxRecDepth 100000
set_option maxHeartbeats 1000000
namespace Go.Mark
open Go.RowKit Go.Proofs
variable [BaseB]
attribute [local go_sem] wd
def setA (L : List (Int × Nat × Ac)) (b : Nat) (a : Ac) : List (Int × Nat × Ac) := L.map fun q => if q.2.1 = b then (q.1, b, a) else q
theorem setA_ids (L : List (Int × Nat × Ac)) (b : Nat) (a : Ac) : ids (setA L b a) = ids L := by
 unfold ids setA
 rw [List.map_map]
 refine List.map_congr_left fun q _ => ?_
 simp only [Function.comp]
 split
 ·rename_i e; subst e; rfl
 ·rfl
theorem setA_fst (L : List (Int × Nat × Ac)) (b : Nat) (a : Ac) : (setA L b a).map (·.1) = L.map (·.1) := by
 unfold setA
 rw [List.map_map]
 refine List.map_congr_left fun q _ => ?_
 simp only [Function.comp]
 split <;> rfl
theorem setA_blk (L : List (Int × Nat × Ac)) (b : Nat) (a : Ac) : (setA L b a).map (·.2.1) = L.map (·.2.1) := by
 unfold setA
 rw [List.map_map]
 refine List.map_congr_left fun q _ => ?_
 simp only [Function.comp]
 split
 ·rename_i e; exact e.symm
 ·rfl
theorem blk_uniq {L : List (Int × Nat × Ac)} (h : (L.map (·.2.1)).Nodup) {p q : Int × Nat × Ac} (hp : p ∈ L) (hq : q ∈ L) (e : p.2.1 = q.2.1) : p = q := by
 induction L with
 | nil => cases hp
 | cons r L ih =>
  have hn := List.nodup_cons.1 h
  rcases List.mem_cons.1 hp with hpe | hp'
  ·subst hpe
   rcases List.mem_cons.1 hq with rfl | hq
   ·rfl
   ·exact absurd (show p.2.1 ∈ L.map (·.2.1) by rw [e]; exact List.mem_map_of_mem (f := fun x : Int × Nat × Ac => x.2.1) hq) hn.1
  ·rcases List.mem_cons.1 hq with hqe | hq'
   ·subst hqe; exact absurd (show q.2.1 ∈ L.map (·.2.1) by rw [<- e]; exact List.mem_map_of_mem (f := fun x : Int × Nat × Ac => x.2.1) hp') hn.1
   ·exact ih hn.2 hp' hq'
theorem LJ.pres {W W' : World} {l m dm : Nat} {cr : Int} {J : List Value} {T : List TypeId} {B : List Nat} (h : LJ W l m cr dm J) (hp : Pres B T W W') (hT : 128 ∉ T /\ 262 ∉ T) (hB : ∀ k ∈ B, ∀ o, W.heap[k]? = some o -> ∃ c t f, o = .cells c t f /\ t ≠ 128 /\ t ≠ 262) : LJ W' l m cr dm J := by
 obtain ⟨jv, h1, h2⟩ := h.ex
 refine ⟨h.lo, jv, hp.obj h1 hT.1 (fun e => ?_), own_same h2 fun g hg => ?_⟩
 ·obtain ⟨c, t, f, h3, h4, _⟩ := hB l e _ h1
  cases h3
  exact h4 rfl
 ·obtain ⟨cur, hc⟩ := own_type h2 g hg
  refine (hp.obj hc hT.2 (fun e => ?_)).trans hc.symm
  obtain ⟨c, t, f, h3, _, h4⟩ := hB g e _ hc
  cases h3
  exact h4 rfl
theorem blk_set4 {w : World} {b : Nat} {c : Array Value} {t : TypeId} (v0 v1 v2 v3 : Value) (h : w.heap[b]? = some (.cells c t (0, 0))) : ((((w.setCell ⟨b, 0, none⟩ v0).setCell ⟨b, 1, none⟩ v1).setCell ⟨b, 2, none⟩ v2).setCell ⟨b, 3, none⟩ v3).heap[b]? = some (.cells ((((c.setIfInBounds 0 v0).setIfInBounds 1 v1).setIfInBounds 2 v2).setIfInBounds 3 v3) t (0, 0)) := blk_set (blk_set (blk_set (blk_set h)))
theorem pres_set4 (w : World) (b : Nat) (v0 v1 v2 v3 : Value) : Pres [b] [] w ((((w.setCell ⟨b, 0, none⟩ v0).setCell ⟨b, 1, none⟩ v1).setCell ⟨b, 2, none⟩ v2).setCell ⟨b, 3, none⟩ v3) := (((Pres.setCell w b 0 v0).trans (Pres.setCell _ b 1 v1)).trans (Pres.setCell _ b 2 v2)).trans (Pres.setCell _ b 3 v3)
theorem LG.pres {W W' : World} {l m : Nat} {dm : Dm} {cr cr' : Int} {L : List (Int × Nat × Ac)} {J J' : List Value} {T : List TypeId} {B : List Nat} (h : LG W l m dm cr L J) (hlj : LJ W' l m cr' dm.b J') (hp : Pres B T W W') (hT : 136 ∉ T) (hB : ∀ k ∈ B, ∀ o, W.heap[k]? = some o -> ∃ c t f, o = .cells c t f /\ t ≠ 136) : LG W' l m dm cr' L J' := by
 have hm : ∀ {κ : Type} {kf : κ -> Value} {r : Nat} {x : List (κ × Value)}, MapB kf W r x -> MapB kf W' r x := fun {κ kf r x} hx => by
  obtain ⟨es, c, he⟩ : ∃ es c, W.heap[r]? = some (.map es c) := let ⟨es, c, h1, _⟩ := hx; ⟨es, c, h1⟩
  refine hx.same ((hp.obj he trivial (fun e => ?_)).trans he.symm)
  obtain ⟨c, t, f, h1, _⟩ := hB r e _ he
  cases h1
 refine ⟨hlj, hm h.map, hm h.dmap, fun q hq => hp.obj (h.acc q hq) hT (fun e => ?_), fun q hq => hm (h.slot q hq), h.nd, h.ndb, h.bal, h.key, h.ndk, h.ndm, h.nms, h.nmd, h.ndd, h.lo, h.mlo⟩
 obtain ⟨c, t, f, h1, h2⟩ := hB _ e _ (h.acc q hq)
 cases h1
 exact h2 rfl
theorem LG.below {W W' : World} {l m : Nat} {dm : Dm} {cr : Int} {L : List (Int × Nat × Ac)} {J : List Value} (h : LG W l m dm cr L J) (hb : Below W.heap.size W W') : LG W' l m dm cr L J := by
 refine h.pres ?_ (.of_below hb [] []) (by simp) (fun k hk => by cases hk)
 obtain ⟨jv, h1, h2⟩ := h.lj.ex
 exact ⟨h.lj.lo, jv, (hb.block _ (blk_lt h1)).trans h1, own_below h2 hb⟩
theorem LG.set {W W' : World} {l m : Nat} {dm : Dm} {cr : Int} {L : List (Int × Nat × Ac)} {J J' : List Value} {T : List TypeId} (h : LG W l m dm cr L J) {q : Int × Nat × Ac} (hq : q ∈ L) {a : Ac} (hlj : LJ W' l m cr dm.b J') (hb : W'.heap[q.2.1]? = some (.cells (acCells a) 136 (0, 0))) (hp : Pres [l, q.2.1] T W W') (hT : 136 ∉ T) (hms : a.ms = q.2.2.ms /\ a.sl = q.2.2.sl) (hbal : a.bal < M) : LG W' l m dm cr (setA L q.2.1 a) J' := by
 obtain ⟨jv, hl, _⟩ := h.lj.ex
 have hqb := h.acc q hq
 have hm : ∀ {κ : Type} {kf : κ -> Value} {r : Nat} {x : List (κ × Value)}, MapB kf W r x -> MapB kf W' r x := fun {κ kf r x} hx => by
  obtain ⟨es, c, he⟩ : ∃ es c, W.heap[r]? = some (.map es c) := let ⟨es, c, h1, _⟩ := hx; ⟨es, c, h1⟩
  refine hx.same ((hp.obj he trivial ?_).trans he.symm)
  simp only [List.mem_cons, List.not_mem_nil, or_false, not_or]
  exact ⟨obj_ne he hl (fun e => by cases e), obj_ne he hqb (fun e => by cases e)⟩
 have hcase : ∀ p ∈ setA L q.2.1 a, (p = (q.1, q.2.1, a)) \/ (p ∈ L /\ p.2.1 ≠ q.2.1) := fun p hp' => by
  obtain ⟨r, hr, rfl⟩ := List.mem_map.1 hp'
  split
  ·rename_i e
   have := blk_uniq h.ndb hr hq e
   subst this
   exact .inl rfl
  ·rename_i hne
   exact .inr ⟨hr, hne⟩
 have hmse : (setA L q.2.1 a).map (·.2.2.ms) = L.map (·.2.2.ms) := by
  unfold setA
  rw [List.map_map]
  refine List.map_congr_left fun r hr => ?_
  simp only [Function.comp]
  split
  ·rename_i e
   have := blk_uniq h.ndb hr hq e
   subst this
   exact hms.1
  ·rfl
 refine ⟨hlj, by rw [setA_ids]; exact hm h.map, hm h.dmap, fun p hp' => ?_, fun p hp' => ?_, by rw [setA_fst]; exact h.nd, by rw [setA_blk]; exact h.ndb, fun p hp' => ?_, fun p hp' => ?_, fun p hp' => ?_, by rw [hmse]; exact h.ndm, fun p hp' => ?_, h.nmd, h.ndd, fun p hp' => ?_, h.mlo⟩
 ·rcases hcase p hp' with rfl | ⟨hr, hne⟩
  ·exact hb
  ·refine hp.obj (h.acc p hr) hT ?_
   simp only [List.mem_cons, List.not_mem_nil, or_false, not_or]
   exact ⟨ty_ne (h.acc p hr) hl (by decide), hne⟩
 ·rcases hcase p hp' with rfl | ⟨hr, _⟩
  ·show MapB wd W' a.ms (slotL a.sl)
   rw [hms.1, hms.2]; exact hm (h.slot q hq)
  ·exact hm (h.slot p hr)
 ·rcases hcase p hp' with rfl | ⟨hr, _⟩
  ·exact hbal
  ·exact h.bal p hr
 ·rcases hcase p hp' with rfl | ⟨hr, _⟩
  ·show ∀ r ∈ a.sl, _
   rw [hms.2]; exact h.key q hq
  ·exact h.key p hr
 ·rcases hcase p hp' with rfl | ⟨hr, _⟩
  ·show (a.sl.map (·.1)).Nodup
   rw [hms.2]; exact h.ndk q hq
  ·exact h.ndk p hr
 ·rcases hcase p hp' with rfl | ⟨hr, _⟩
  ·show a.ms ≠ m /\ a.ms ≠ dm.b
   rw [hms.1]; exact h.nms q hq
  ·exact h.nms p hr
 ·rcases hcase p hp' with rfl | ⟨hr, _⟩
  ·show BaseB.b0 <= q.2.1 /\ BaseB.b0 <= a.ms
   rw [hms.1]; exact h.lo q hq
  ·exact h.lo p hr
def jBal (b : Nat) (x : Nat) : Value := .iface 212 (.agg #[.pointer (some ⟨b, 0, none⟩), .int .u64 (lim x 0), .int .u64 (lim x 1), .int .u64 (lim x 2), .int .u64 (lim x 3)])
def jNonce (b : Nat) (x : Int) : Value := .iface 229 (.agg #[.pointer (some ⟨b, 0, none⟩), .int .i64 x])
section
variable {W : World} {l m : Nat} {dm : Dm} {cr : Int} {L : List (Int × Nat × Ac)} {J : List Value}
theorem setBalance (h : LG W l m dm cr L J) {q : Int × Nat × Ac} (hq : q ∈ L) (x : Nat) (hx : x < M) (hJ : J.length < 1000000) :
  Calls TryQ.prog 88 #[.pointer (some ⟨l, 0, none⟩), .pointer (some ⟨q.2.1, 0, none⟩), wd x] W fun e w' => e = .returned (.tuple #[]) /\ LG w' l m dm cr (setA L q.2.1 { q.2.2 with bal := x }) (J ++ [jBal q.2.1 q.2.2.bal]) /\ Pres [l, q.2.1] [262] W w' := by
 have hbx : Below W.heap.size W (W.alloc (.cells #[.int .u64 (lim x 0), .int .u64 (lim x 1), .int .u64 (lim x 2), .int .u64 (lim x 3)] 41)) := ba
 have h1 := h.below hbx
 have hn := blk_new W (.cells #[.int .u64 (lim x 0), .int .u64 (lim x 1), .int .u64 (lim x 2), .int .u64 (lim x 3)] 41)
 have hq1 := h1.acc q hq
 have hne : q.2.1 ≠ l := by obtain ⟨jv, hl, _⟩ := h1.lj.ex; exact ty_ne hq1 hl (by decide)
 have c0 := blk_cell hq1 0
 have c1 := blk_cell hq1 1
 have c2 := blk_cell hq1 2
 have c3 := blk_cell hq1 3
 simp only [acCells, List.getElem?_toArray, List.getElem?_cons_zero, List.getElem?_cons_succ] at c0 c1 c2 c3
 have hnt := note l m cr dm.b J 212 (.agg #[.pointer (some ⟨q.2.1, 0, none⟩), .int .u64 (lim q.2.2.bal 0), .int .u64 (lim q.2.2.bal 1), .int .u64 (lim q.2.2.bal 2), .int .u64 (lim q.2.2.bal 3)]) _ h1.lj hJ
 go_enter TryQ.func88, Tryz.ntmps88
 go_wp2_with fail
 refine hnt.mono ?_
 rintro e w2 ⟨rfl, hlj2, hp2⟩
 clear c0 c1 c2 c3 hnt
 have hq2 : w2.heap[q.2.1]? = _ := hp2.obj hq1 (by show (136 : Nat) ∉ [262]; decide) (by simpa using hne)
 have hn2 : w2.heap[W.heap.size]? = _ := hp2.obj hn (by show (41 : Nat) ∉ [262]; decide) (by obtain ⟨jv, hl, _⟩ := h.lj.ex; simp; have := blk_lt hl; omega)
 have c0 := blk_cell hq2 0
 have c1 := blk_cell hq2 1
 have c2 := blk_cell hq2 2
 have c3 := blk_cell hq2 3
 have f0 := blk_fz hq2 0
 have f1 := blk_fz hq2 1
 have f2 := blk_fz hq2 2
 have f3 := blk_fz hq2 3
 have n0 := blk_cell hn2 0
 have n1 := blk_cell hn2 1
 have n2 := blk_cell hn2 2
 have n3 := blk_cell hn2 3
 simp only [acCells, List.getElem?_toArray, List.getElem?_cons_zero, List.getElem?_cons_succ] at c0 c1 c2 c3 n0 n1 n2 n3
 go_wp2
 simp [bodyPost, results, Tryz.results88, go_sem]
 have hp3 := pres_set4 w2 q.2.1 (.int .u64 (lim x 0)) (.int .u64 (lim x 1)) (.int .u64 (lim x 2)) (.int .u64 (lim x 3))
 have hb3 := blk_set4 (.int .u64 (lim x 0)) (.int .u64 (lim x 1)) (.int .u64 (lim x 2)) (.int .u64 (lim x 3)) hq2
 have hlj3 := hlj2.pres hp3 (by decide) (fun k hk o ho => by
  obtain rfl : k = q.2.1 := by simpa using hk
  rw [hq2] at ho
  cases ho
  exact ⟨_, _, _, rfl, by decide, by decide⟩)
 have hpA : Pres [l, q.2.1] [262] W _ := Pres.trans (.of_below hbx _ _) (Pres.trans (hp2.mono (fun k _ hk => by simp at hk; simp [hk]) (fun t ht => ht)) (hp3.mono (fun k _ hk => by simp at hk; simp [hk]) (fun t ht => by cases ht)))
 exact ⟨h.set hq (a := { q.2.2 with bal := x }) hlj3 hb3 hpA (by decide) ⟨rfl, rfl⟩ hx, hpA⟩
end
end Go.Mark
namespace Go.Mark
open Go.RowKit Go.Proofs
variable [BaseB]
section
variable {v W : World} {ds : List (AccD × SV)} {mks : Nat -> SV} {L : List (Int × Nat × Ac)}
theorem N35.mem (h : N35 v W ds mks ds.length L) {q : Int × Nat × Ac} (hq : q ∈ L) : ∃ p ∈ ds, ∃ mk pa ms, q = accOf p.1 mk pa ms := by
 obtain ⟨i, hi, he⟩ := List.mem_iff_getElem.1 hq
 have hil : i < ds.length := by have := h.len; omega
 obtain ⟨pa, ms, d, hd, hL⟩ := h.lst i hil
 rw [List.getElem?_eq_getElem hil] at hd
 rw [List.getElem?_eq_getElem hi, he] at hL
 simp only [Option.map_some, Option.some.injEq] at hd hL
 exact ⟨ds[i], List.getElem_mem hil, _, _, _, by rw [hL, <- hd]⟩
theorem N35.fst (h : N35 v W ds mks ds.length L) : L.map (·.1) = ds.map (·.1.id) := by
 refine List.ext_getElem (by simp [h.len]) (fun i h1 h2 => ?_)
 have hi : i < L.length := by simpa using h1
 have hil : i < ds.length := by simpa using h2
 obtain ⟨pa, ms, d, hd, hL⟩ := h.lst i hil
 rw [List.getElem?_eq_getElem hil] at hd
 rw [List.getElem?_eq_getElem hi] at hL
 simp only [Option.map_some, Option.some.injEq] at hd hL
 rw [List.getElem_map, List.getElem_map, hL, <- hd]
 rfl
theorem N35.lg (h : N35 v W ds mks ds.length L) {a : Option Addr} (hI : InR v a ds) (hso : Sound (ds.map (·.1))) (hb0 : BaseB.b0 <= v.heap.size) : LG W (v.heap.size + 2) v.heap.size ⟨v.heap.size + 1, []⟩ 0 L [] := by
 refine ⟨⟨by omega, ⟨none, 0, 0⟩, h.led, rfl, .inl ⟨rfl, rfl⟩⟩, h.map, h.dmap, fun q hq => (h.acc q hq).1, fun q hq => (h.acc q hq).2.1, ?_, h.ndb, fun q hq => ?_, fun q hq p hp => ?_, fun q hq => ?_, h.ndm, fun q hq => ?_, by show v.heap.size ≠ v.heap.size + 1; omega, List.nodup_nil, fun q hq => ?_, ⟨hb0, by show _ <= v.heap.size + 1; omega⟩⟩
 ·rw [h.fst]
  have := hso.2.2.1
  rw [List.map_map] at this
  exact this
 ·obtain ⟨p, hp, mk, pa, ms, rfl⟩ := h.mem hq
  exact hI.bal p hp
 ·obtain ⟨r, hr, mk, pa, ms, rfl⟩ := h.mem hq
  exact hI.key r hr p (List.mem_filter.1 hp).1
 ·obtain ⟨r, hr, mk, pa, ms, rfl⟩ := h.mem hq
  exact (List.filter_sublist.map _).nodup (hso.2.1 _ (List.mem_map_of_mem hr)).2.2.2.2.2.2
 ·have := (h.acc q hq).2.2
  show q.2.2.ms ≠ v.heap.size /\ q.2.2.ms ≠ v.heap.size + 1
  omega
 ·have := (h.acc q hq).2.2
  omega
end
end Go.Mark
