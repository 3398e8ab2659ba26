import Derived.Test.YtbephahokhnccaaGreatDoorXE6toE8
import Derived.Test.YtbephahokhnccaaGreatDoorXK6toK11
set_option linter.unusedSectionVars false
set_option maxRecDepth 100000
set_option maxHeartbeats 4000000
namespace Go.Mark
open Go.RowKit Go.Proofs
variable [BaseB]
noncomputable def c17 : Code:=match Tryz.f35.body with
 | some (.seq _ (.seq _ c))=>c
 | _=>.skip
def Gz (d : Bt) (mk : SV) (pa ms : Nat) : Int × Nat × Ac:=(d.id,pa,⟨d.bal,d.nonce,d.code,mk,ms,kept d.slots⟩)
structure N35 (v W : World) (ds : List (Bt × SV)) (mks : Nat -> SV) (k : Nat) (L : AL) : Prop where
 below : Below v.heap.size v W
 led : W.heap[v.heap.size + 2]? = ob #[.map (some v.heap.size),.int .i64 0,.slice none 0 0,.map (some (v.heap.size + 1))] 128
 map : MapB (fun x : Int=>Value.int .i64 x) W v.heap.size (ids L)
 dmap : MapB (fun x : Int=>Value.int .i64 x) W (v.heap.size + 1) []
 len : L.length = k
 lst : ∀ i,i < k -> ∃ pa ms d,(ds[i]?).map (·.1) = some d /\ L[i]? = some (Gz d (mks i) pa ms)
 acc : ∀ q ∈ L,W.heap[q.2.1]? = ob (Bd q.2.2) 136 /\ MapB wd W q.2.2.ms (slotL q.2.2.sl) /\ v.heap.size + 2 < q.2.2.ms /\ v.heap.size + 2 < q.2.1
 ndb : (L.map (·.2.1)).Nodup
 ndm : (L.map (·.2.2.ms)).Nodup
theorem N35.lt {v W : World} {ds : List (Bt × SV)} {mks : Nat -> SV} {k : Nat} {L : AL} (h : N35 v W ds mks k L) : v.heap.size + 2 < W.heap.size:=(Array.getElem?_eq_some_iff.1 h.led).1
theorem N35.cell {v W : World} {ds : List (Bt × SV)} {mks : Nat -> SV} {k : Nat} {L : AL} (h : N35 v W ds mks k L) : W.cell? ⟨v.heap.size + 2,0,none⟩ = some (.map (some v.heap.size)):=by rw [Ad h.led 0]; rfl
theorem N35.keep {v W W' : World} {ds : List (Bt × SV)} {mks : Nat -> SV} {k : Nat} {L : AL} (h : N35 v W ds mks k L) (hb : Below W.heap.size W W') : N35 v W' ds mks k L :=
 ⟨h.below.trans (hb.mono h.below.size),(hb.block _ h.lt).trans h.led,h.map.below hb,h.dmap.below hb,h.len,h.lst,fun q hq=>⟨(hb.block _ (Aa (h.acc q hq).1)).trans (h.acc q hq).1,(h.acc q hq).2.1.below hb,(h.acc q hq).2.2⟩,h.ndb,h.ndm⟩
theorem Zu (W : World) (r : Nat) (o : Obj) (hm : ∃ es c,W.heap[r]? = some (.map es c)) (a : Addr) (u : Value) (h : W.cell? a = some u) : { W with heap:=W.heap.setIfInBounds r o : World }.cell? a = some u:=by
 have hne : r ≠ a.block:=fun e=>by
  obtain ⟨es,c,hm⟩:=hm
  unfold World.cell? at h
  rw [<- e,hm] at h
  cases h
 unfold World.cell? at h ⊢
 simp only [Array.getElem?_setIfInBounds_ne hne]
 exact h
theorem MapB.is {κ : Type} {kf : κ -> Value} {w : World} {r : Nat} {l : List (κ × Value)} (h : MapB kf w r l) : ∃ es c,w.heap[r]? = some (.map es c):=let ⟨es,c,h1,_⟩:=h; ⟨es,c,h1⟩
theorem Arb (ds : List (Bt × SV)) (a : Option Addr) (cap mb mc : Nat) (mks : Nat -> SV) (v : World) (hI : InR v a ds) (hmk : ∀ i,i < ds.length -> v.cell? ⟨mb,i,none⟩ = some (.slice (mks i).a (mks i).n (mks i).c)) (hmb : mb < v.heap.size) (hso : Er (ds.map (·.1))) :
  c17.wp TryQ.prog (bodyPost TryQ.prog Tryz.f35 fun e v'=>∃ val,e = .returned val /\ ∃ L,val = pq (v.heap.size + 2) 0 /\ N35 v v' ds mks ds.length L) ⟨#[.slice a ds.length cap,ud,.pointer none,.slice (some ⟨mb,0,none⟩) ds.length mc,ud,ud,ud,.slice a ds.length cap,.slice (some ⟨mb,0,none⟩) ds.length mc,ud,ud,ud,ud,ud,ud,ud,ud,ud,ud,ud,ud,ud,ud,ud,ud,ud,ud,ud,ud,ud,ud,ud,ud,ud,ud,ud,ud,ud,ud,ud,ud,ud,ud,ud,ud,ud],[]⟩ v:=by
 have hn:=hI.len
 have hnum : ds.length <= 64:=by simpa using hso.1
 have hok : ∀ p ∈ ds,Es p.1:=fun p hp=>hso.2.1 _ (List.mem_map_of_mem hp)
 have hids : (ds.map (·.1.id)).Nodup:=by have:=hso.2.2.1; rw [List.map_map] at this; exact this
 have hmk1:=fun W=>Nf (mt:=124) u124 ds.length W
 have hmk2:=fun W=>Qs (mt:=125) W
 dsimp only [c17,Tryz.f35]
 go_wp2_with fail
 go_loopw [17] (fun i W=>∃ (k : Nat) (L : AL),i = .int .i64 k /\ k <= ds.length /\ N35 v W ds mks k L) (fun i _=>ds.length - (Go.RowKit.intOf i).toNat)
 case atStart =>
  refine ⟨0,[],rfl,Nat.zero_le _,(ba.alloc (by simp) _).alloc (by simp; omega) _,?_,?_,?_,rfl,(fun i hi=>by omega),(fun q hq=>by cases hq),List.nodup_nil,List.nodup_nil⟩
  ·have h1:=Al ((v.alloc (.map #[] 0)).alloc (.map #[] 0)) (.cells #[.map (some v.heap.size),.int .i64 0,.slice none 0 0,.map (some (v.heap.size + 1))] 128)
   have e : ((v.alloc (.map #[] 0)).alloc (.map #[] 0)).heap.size = v.heap.size + 2:=by simp
   rw [e] at h1
   exact h1
  ·have hm0:=MapB.new (fun x : Int=>Value.int .i64 x) v
   have hb1 : Below (v.alloc (.map #[] 0)).heap.size (v.alloc (.map #[] 0)) ((v.alloc (.map #[] 0)).alloc (.map #[] 0)):=ba
   exact (hm0.below hb1).below ba
  ·have hm0:=MapB.new (fun x : Int=>Value.int .i64 x) (v.alloc (.map #[] 0))
   have e : (v.alloc (.map #[] 0)).heap.size = v.heap.size + 1:=by simp
   rw [e] at hm0
   exact hm0.below ba
 case round =>
  obtain ⟨k,L,rfl,hk,hN⟩:=hrel
  by_cases hlt : k < ds.length
  ·have hlt' : (k : Int) < (ds.length : Int):=by omega
   have hmem:=List.getElem_mem hlt
   obtain ⟨b,o,rfl,hAcc⟩:=hI.acc.resolve_left (fun h=>by subst h; simp at hlt)
   have hA':=(hAcc.below hN.below) k ds[k] (List.getElem?_eq_getElem hlt)
   obtain ⟨hsn,hsl⟩:=hI.sl _ hmem
   have hbal:=hI.bal _ hmem
   have hkey:=hI.key _ hmem
   have hnm:=hI.num _ hmem
   have hokk:=hok _ hmem
   have hdk : (ds[k]?).map (·.1) = some ds[k].1:=by rw [List.getElem?_eq_getElem hlt]; rfl
   have hmki:=hmk k hlt
   generalize hmkk : mks k = mk at hmki
   have hmki1:=(hN.below.cell (p:=⟨mb,k,none⟩) hmb).trans hmki
   have hnew : ds[k].1.id ∉ L.map (·.1):=fun h=>by
    obtain ⟨q,hq,e⟩:=List.mem_map.1 h
    obtain ⟨i,hi,he⟩:=List.mem_iff_getElem.1 hq
    have hik : i < k:=by have:=hN.len; omega
    obtain ⟨pa,ms,d,hd,hL⟩:=hN.lst i hik
    rw [List.getElem?_eq_getElem hi,he] at hL
    have hil : i < ds.length:=by omega
    rw [List.getElem?_eq_getElem hil] at hd
    have h2:=List.pairwise_iff_getElem.1 hids i k (by simpa using hil) (by simpa using hlt) hik
    simp only [List.getElem_map] at h2
    simp only [Option.map_some,Option.some.injEq] at hd hL
    rw [hL,<- hd] at e
    exact h2 e
   have hAccs : Shut (AccsAt v b o ds):=hAcc
   clear hAcc
   generalize ds[k] = p at *
   obtain ⟨d,sv⟩:=p
   simp only at hsn hsl hbal hkey hnm hokk hnew hdk
   have c0:=hA' 0 _ rfl
   have c1:=hA' 1 _ rfl
   have c2:=hA' 2 _ rfl
   have c3:=hA' 3 _ rfl
   have c4:=hA' 4 _ rfl
   have c5:=hA' 5 _ rfl
   have c6:=hA' 6 _ rfl
   have c7:=hA' 7 _ rfl
   rw [Nat.add_zero] at c0
   simp only at c0 c1 c2 c3 c4 c5 c6 c7
   rw [hsn] at c7
   have hbx : Below wr.heap.size wr (wr.alloc (.cells (Am d ⟨sv.a,d.slots.length,sv.c⟩).toArray 52)):=ba
   have hx:=Et wr (Am d ⟨sv.a,d.slots.length,sv.c⟩) 52
   have hN1:=hN.keep hbx
   have hmki2:=(hbx.cell (p:=⟨mb,k,none⟩) (Nat.lt_of_lt_of_le hmb hN.below.size)).trans hmki1
   have hbl : b < wr.heap.size:=by
    have h:=c0
    simp only [World.cell?] at h
    cases hh : wr.heap[b]? with
    | none=>rw [hh] at h; cases h
    | some o=>exact (Array.getElem?_eq_some_iff.1 hh).1
   go_wp2_with fail
   clear c0 c1 c2 c3 c4 c5 c6 c7 hA' hmki1
   change Code.wp _ _ _ _ (wr.alloc (.cells (Am d ⟨sv.a,d.slots.length,sv.c⟩).toArray 52))
   have hxl : wr.heap.size < (wr.alloc (.cells (Am d ⟨sv.a,d.slots.length,sv.c⟩).toArray 52)).heap.size:=by simp
   generalize wr.alloc (.cells (Am d ⟨sv.a,d.slots.length,sv.c⟩).toArray 52) = V at hx hN1 hmki2 hxl ⊢
   generalize wr.heap.size = xb at hx hxl ⊢
   refine P6 (fun _ pa W=>∃ ms,N35 v W ds mks (k + 1) (L ++ [Gz d mk pa ms])) ?_
   apply Exists.intro
   apply And.intro
   ·refine rq (fun W=>W.cell? ⟨v.heap.size + 1 + 1,0,none⟩ = some (.map (some v.heap.size)) /\ CellsAt W xb 0 (Am d ⟨sv.a,d.slots.length,sv.c⟩) /\ W.cell? ⟨mb,k,none⟩ = some (.slice mk.a mk.n mk.c)) ⟨hN1.cell,hx.below (Below.refl _ _).drew,hmki2⟩ fun hH=>?_
    refine tx 0 22 (pq (v.heap.size + 1 + 1) 0) hH ?_
    refine tx 1 23 (pq (v.heap.size + 1 + 1) 0) hH ?_
    refine tx 2 24 (pq (v.heap.size + 1 + 1) 0) hH ?_
    refine td (i:=3) (d:=some 25) (v:=.map (some v.heap.size)) rfl rfl (fun W hW=>?_) hH ?_
    ·have k0:=hW.1
     clear hW hH
     go_simp
    refine tx 4 26 (pq xb 0) hH ?_
    refine td (i:=5) (d:=some 27) (v:=.int .i64 d.id) rfl rfl (fun W hW=>?_) hH ?_
    ·have k0:=hW.2.1 0 _ rfl
     simp only [Nat.zero_add] at k0
     clear hW hH
     go_simp
    refine tx 6 28 (pq xb 1) hH ?_
    refine td (i:=7) (d:=some 29) (v:=wd d.bal) rfl rfl (fun W hW=>?_) hH ?_
    ·have k1:=hW.2.1 1 _ rfl; have k2:=hW.2.1 2 _ rfl; have k3:=hW.2.1 3 _ rfl; have k4:=hW.2.1 4 _ rfl
     simp only [Nat.zero_add] at k1 k2 k3 k4
     clear hW hH
     unfold wd
     go_simp
    refine tx 8 30 (pq xb 5) hH ?_
    refine td (i:=9) (d:=some 31) (v:=.int .i64 d.nonce) rfl rfl (fun W hW=>?_) hH ?_
    ·have k0:=hW.2.1 5 _ rfl
     simp only [Nat.zero_add] at k0
     clear hW hH
     go_simp
    refine tx 10 32 (pq xb 6) hH ?_
    refine td (i:=11) (d:=some 33) (v:=.string d.code) rfl rfl (fun W hW=>?_) hH ?_
    ·have k0:=hW.2.1 6 _ rfl
     simp only [Nat.zero_add] at k0
     clear hW hH
     go_simp
    refine tx 13 35 (.slice (some ⟨mb,0,none⟩) ds.length mc) hH ?_
    refine tx 14 36 (.int .i64 (k : Int)) hH ?_
    refine tx 15 37 (pq mb k) hH ?_
    refine td (i:=16) (d:=some 38) (v:=.slice mk.a mk.n mk.c) rfl rfl (fun W hW=>?_) hH ?_
    ·have k0:=hW.2.2
     clear hW hH
     go_simp
    refine tx 17 39 (pq xb 7) hH ?_
    refine td (i:=18) (d:=some 40) (v:=.slice sv.a d.slots.length sv.c) rfl rfl (fun W hW=>?_) hH ?_
    ·have k0:=hW.2.1 7 _ rfl
     simp only [Nat.zero_add] at k0
     clear hW hH
     go_simp
    have hN2:=hN1.keep (Below.refl _ _).drew
    have hml2 : mb < V.drew.heap.size:=Nat.lt_of_lt_of_le hmb hN1.below.size
    generalize V.drew = W0 at hH hN2 hml2 ⊢
    have hcs : d.code.size <= 281474976710656:=by have:=hokk.2.2.2.2.1; omega
    refine r1 12 fun K hK=>?_
    ·skip
     go_simp
     refine (Ami d.code W0 hcs).mono ?_
     rintro e W1 ⟨rfl,hbn⟩
     go_wp2_with fail
     refine hK.out _ _ ⟨(hbn.cell (p:=⟨v.heap.size + 1 + 1,0,none⟩) hN2.lt).trans hH.1,hH.2.1.below hbn,(hbn.cell (p:=⟨mb,k,none⟩) hml2).trans hH.2.2⟩ fun hH=>?_
     clear hK K
     replace hN2:=hN2.keep hbn
     replace hml2:=Nat.lt_of_lt_of_le hml2 hbn.size
     clear hbn
     refine r1 19 fun K hK=>?_
     go_simp
     refine (Ab5 d.slots sv.a sv.c W1 (hsl.imp id fun ⟨b,o,h1,h2⟩=>⟨b,o,h1,h2.below hN2.below⟩) hnm hkey hokk.2.2.2.2.2.2).mono ?_
     rintro e W2 ⟨rfl,hmap,hbn,hmlt⟩
     obtain ⟨ms,hms⟩ : ∃ ms,W1.heap.size = ms:=⟨_,rfl⟩
     rw [hms] at hmap hmlt ⊢
     have hmsv : v.heap.size + 2 < ms:=by have:=hN2.lt; omega
     have hlow0 : ∀ q ∈ L,q.2.2.ms < ms:=fun q hq=>by rw [<- hms]; exact (hN2.acc q hq).2.1.lt
     go_wp2_with fail
     refine hK.out _ _ ⟨(hbn.cell (p:=⟨v.heap.size + 1 + 1,0,none⟩) hN2.lt).trans hH.1,hH.2.1.below hbn,(hbn.cell (p:=⟨mb,k,none⟩) hml2).trans hH.2.2⟩ fun hH=>?_
     clear hK K
     replace hN2:=hN2.keep hbn
     replace hml2:=Nat.lt_of_lt_of_le hml2 hbn.size
     clear hbn
     refine td (i:=20) (d:=some 42) (v:=.agg (Bd ⟨d.bal,d.nonce,d.code,mk,ms,kept d.slots⟩)) rfl rfl (fun W hW=>?_) hH ?_
     ·clear hW hH
      unfold wd Bd
      go_simp
     refine r1 21 fun K hK=>?_
     obtain ⟨pa,hpa⟩ : ∃ pa,W2.heap.size = pa:=⟨_,rfl⟩
     have hbn : Below W2.heap.size W2 (W2.alloc (.cells (Bd ⟨d.bal,d.nonce,d.code,mk,ms,kept d.slots⟩) 136)):=ba
     have hpc:=Al W2 (.cells (Bd ⟨d.bal,d.nonce,d.code,mk,ms,kept d.slots⟩) 136)
     have hpav : v.heap.size + 2 < pa:=by have:=hN2.lt; omega
     have hlow : ∀ q ∈ L,q.2.1 < pa /\ q.2.2.ms < ms:=fun q hq=>⟨by rw [<- hpa]; exact Aa (hN2.acc q hq).1,hlow0 q hq⟩
     unfold Bd
     go_simp
     refine hK.out _ (W2.alloc (.cells (Bd ⟨d.bal,d.nonce,d.code,mk,ms,kept d.slots⟩) 136)) ⟨(hbn.cell (p:=⟨v.heap.size + 1 + 1,0,none⟩) hN2.lt).trans hH.1,hH.2.1.below hbn,(hbn.cell (p:=⟨mb,k,none⟩) hml2).trans hH.2.2⟩ fun hH=>?_
     clear hK K
     replace hN2:=hN2.keep hbn
     replace hmap:=hmap.below hbn
     rw [hpa] at hpc
     generalize W2.alloc (.cells (Bd ⟨d.bal,d.nonce,d.code,mk,ms,kept d.slots⟩) 136) = W3 at hH hN2 hmap hpc ⊢
     refine r1 22 fun K hK=>?_
     go_simp
     refine Eo intKeys u124 (k:=d.id) (v:=pq pa 0) hN2.map trivial (fun _ _=>trivial) (fun o' hM'=>?_)
     have hcm:=fun a u h=>Zu W3 v.heap.size o' hN2.map.is a u h
     refine hK.out _ _ ⟨hcm _ _ hH.1,fun j u hj=>hcm _ _ (hH.2.1 j u hj),hcm _ _ hH.2.2⟩ fun hH=>?_
     clear hK K
     refine dn ?_
     have hnk : d.id ∉ (ids L).map (·.1):=fun hm=>hnew (by rw [show (ids L).map (·.1) = L.map (·.1) by unfold ids; rw [List.map_map]; rfl] at hm; exact hm)
     rw [Lf _ _ _ hnk] at hM'
     have hsame : ∀ g,g ≠ v.heap.size -> (W3.heap.setIfInBounds v.heap.size o')[g]? = W3.heap[g]?:=fun g hg=>Array.getElem?_setIfInBounds_ne (Ne.symm hg)
     refine ⟨rfl,ms,pa,rfl,ms,Gh hN2.below (Nat.le_refl _) o',(hsame _ (by omega)).trans hN2.led,?_,hN2.dmap.same (hsame _ (by omega)),by simp [hN2.len],fun i hi=>?_,fun q hq=>?_,?_,?_⟩
     ·have e : ids (L ++ [Gz d mk pa ms]) = ids L ++ [(d.id,pq pa 0)]:=by unfold ids; rw [List.map_append]; rfl
      rw [e]; exact hM'
     ·by_cases hik : i < k
      ·obtain ⟨pa',ms',d',h1,h2⟩:=hN2.lst i hik
       exact ⟨pa',ms',d',h1,by rw [List.getElem?_append_left (by rw [hN2.len]; exact hik)]; exact h2⟩
      ·obtain rfl : i = k:=by omega
       refine ⟨pa,ms,d,hdk,?_⟩
       rw [List.getElem?_append_right (by rw [hN2.len]; exact Nat.le_refl _),hN2.len,hmkk]
       simp
     ·rcases List.mem_append.1 hq with hq | hq
      ·obtain ⟨h1,h2,h3⟩:=hN2.acc q hq
       have h4 : q.2.1 ≠ v.heap.size:=Ci h1 hN2.map.is.choose_spec.choose_spec (fun e=>by cases e)
       exact ⟨(hsame _ h4).trans h1,h2.same (hsame _ (by omega)),h3⟩
      ·rw [List.mem_singleton.1 hq]
       have h4 : pa ≠ v.heap.size:=Ci hpc hN2.map.is.choose_spec.choose_spec (fun e=>by cases e)
       exact ⟨(hsame _ h4).trans hpc,hmap.same (hsame ms (by omega)),hmsv,hpav⟩
     ·rw [List.map_append,List.nodup_append]
      refine ⟨hN2.ndb,by simp,fun x hx y hy=>?_⟩
      obtain ⟨q,hq,rfl⟩:=List.mem_map.1 hx
      simp [Gz] at hy
      have:=(hlow q hq).1
      omega
     ·rw [List.map_append,List.nodup_append]
      refine ⟨hN2.ndm,by simp,fun x hx y hy=>?_⟩
      obtain ⟨q,hq,rfl⟩:=List.mem_map.1 hx
      simp [Gz] at hy
      have:=(hlow q hq).2
      omega
   ·rintro ms pa W ⟨ms',hW⟩
    go_wp2_with fail
    refine ⟨⟨k + 1,_,by go_num,by omega,hW⟩,?_⟩
    simp [Go.RowKit.intOf]; omega
  ·have hk' : k = ds.length:=by omega
   subst hk'
   go_wp2_with fail
   simp [bodyPost,results,go_sem]
   exact ⟨L,hN⟩
section
section
variable {v W : World} {ds : List (Bt × SV)} {mks : Nat -> SV} {L : AL}
theorem N35.mem (h : N35 v W ds mks ds.length L) {q : Int × Nat × Ac} (hq : q ∈ L) : ∃ p ∈ ds,∃ mk pa ms,q = Gz p.1 mk pa ms:=by
 obtain ⟨i,hi,he⟩:=List.mem_iff_getElem.1 hq
 have hil : i < ds.length:=by have:=h.len; omega
 obtain ⟨pa,ms,d,hd,hL⟩:=h.lst i hil
 rw [List.getElem?_eq_getElem hil] at hd
 rw [List.getElem?_eq_getElem hi,he] at hL
 simp only [Option.map_some,Option.some.injEq] at hd hL
 exact ⟨ds[i],List.getElem_mem hil,_,_,_,by rw [hL,<- hd]⟩
theorem N35.fst (h : N35 v W ds mks ds.length L) : L.map (·.1) = ds.map (·.1.id):=by
 refine List.ext_getElem (by simp [h.len]) (fun i h1 h2=>?_)
 have hi : i < L.length:=by simpa using h1
 have hil : i < ds.length:=by simpa using h2
 obtain ⟨pa,ms,d,hd,hL⟩:=h.lst i hil
 rw [List.getElem?_eq_getElem hil] at hd
 rw [List.getElem?_eq_getElem hi] at hL
 simp only [Option.map_some,Option.some.injEq] at hd hL
 rw [List.getElem_map,List.getElem_map,hL,<- hd]
 rfl
theorem N35.lg (h : N35 v W ds mks ds.length L) {a : Option Addr} (hI : InR v a ds) (hso : Er (ds.map (·.1))) (hb0 : BaseB.b0 <= v.heap.size) : LG W (v.heap.size + 2) v.heap.size ⟨v.heap.size + 1,[]⟩ 0 L []:=by
 refine ⟨⟨by omega,⟨none,0,0⟩,h.led,rfl,.inl ⟨rfl,rfl⟩⟩,h.map,h.dmap,fun q hq=>(h.acc q hq).1,fun q hq=>(h.acc q hq).2.1,?_,h.ndb,fun q hq=>?_,fun q hq p hp=>?_,fun q hq=>?_,h.ndm,fun q hq=>?_,by show v.heap.size ≠ v.heap.size + 1; omega,List.nodup_nil,fun q hq=>?_,⟨hb0,by show _ <= v.heap.size + 1; omega⟩⟩
 ·rw [h.fst]
  have:=hso.2.2.1
  rw [List.map_map] at this
  exact this
 ·obtain ⟨p,hp,mk,pa,ms,rfl⟩:=h.mem hq
  exact hI.bal p hp
 ·obtain ⟨r,hr,mk,pa,ms,rfl⟩:=h.mem hq
  exact hI.key r hr p (List.mem_filter.1 hp).1
 ·obtain ⟨r,hr,mk,pa,ms,rfl⟩:=h.mem hq
  exact (List.filter_sublist.map _).nodup (hso.2.1 _ (List.mem_map_of_mem hr)).2.2.2.2.2.2
 ·have:=(h.acc q hq).2.2
  show q.2.2.ms ≠ v.heap.size /\ q.2.2.ms ≠ v.heap.size + 1
  omega
 ·have:=(h.acc q hq).2.2
  omega
end
end
end Go.Mark
namespace Go.Mark
open Go.RowKit Go.Proofs
attribute [local go_sem] wd
theorem Af9 (ss : List (Nat × Nat)) (a : Option Addr) (cap : Nat) (w : World) (hA : ss = [] \/ ∃ b o,a = some ⟨b,o,none⟩ /\ SlotsFrom w b o ss) (hn : ss.length < 2199023255552) (hm : ∀ p ∈ ss,p.1 < M) :
  Calls TryQ.prog 95 #[.slice a ss.length cap] w fun e w'=>e = .returned (.bool (decide (ss.map (·.1)).Nodup)) /\ Below w.heap.size w w':=by
 have u122 : TryQ.prog.underlying 233 = some (.map 41 179):=(Ab 233).trans Tryz.underlying233
 have hmk:=fun W=>Nf u122 ss.length W
 go_enter TryQ.func95,Tryz.ntmps95
 go_wp2
 go_loopw [11] (fun i wr=>∃ k : Nat,i = .int .i64 k /\ k <= ss.length /\ MapL wd wr w.heap.size (I6 (.agg #[]) ((ss.take k).map (·.1))) /\ Below w.heap.size w wr /\ w.heap.size < wr.heap.size) (fun i _=>ss.length - (Go.RowKit.intOf i).toNat)
 case atStart =>
  exact ⟨0,rfl,Nat.zero_le _,⟨#[],0,by show (w.heap.push _)[w.heap.size]? = _; rw [Array.getElem?_push_size],rfl⟩,ba,by simp⟩
 case round =>
  obtain ⟨k,rfl,hk,hM,hB,hsz⟩:=hrel
  by_cases hlt : k < ss.length
  ·have hlt' : (k : Int) < (ss.length : Int):=by omega
   obtain ⟨b,o,rfl,hA2⟩:=hA.resolve_left (fun h=>by subst h; simp at hlt)
   have hA':=(hA2.below hB) k ss[k] (List.getElem?_eq_getElem hlt)
   have c0:=hA' 0 _ rfl
   have c1:=hA' 1 _ rfl
   have c2:=hA' 2 _ rfl
   have c3:=hA' 3 _ rfl
   have c4:=hA' 4 _ rfl
   have c5:=hA' 5 _ rfl
   have c6:=hA' 6 _ rfl
   have c7:=hA' 7 _ rfl
   rw [Nat.add_zero] at c0
   clear hA'
   go_wp2
   refine Jh Gq u122 (k:=ss[k].1) (hM.alloc _) (hm _ (List.getElem_mem hlt)) (Ah8 (ok:=(· < M)) _ _ (fun x hx=>by obtain ⟨p,hp,rfl⟩:=List.mem_map.1 hx; exact hm p (List.mem_of_mem_take hp))) (fun o' hM'=>?_)
   have hB':=Gh ((hB.alloc (Nat.le_of_lt hsz) (.cells (Ba ss[k]).toArray 72))) (Nat.le_refl _) o'
   rw [<- Jp,P7 (fun p : Nat × Nat=>p.1) ss k hlt] at hM'
   have hs' : w.heap.size < (wr.heap.push (.cells (Ba ss[k]).toArray 72)).size:=by simp; omega
   go_wp2
   go_roundw
   case rel =>
    exact ⟨k + 1,by go_num,by omega,hM',hB',by simpa using hs'⟩
   case measure=>simp [Go.RowKit.intOf]; omega
  ·have hk' : k = ss.length:=by omega
   subst hk'
   rw [List.take_length] at hM
   have hlen:=Iq u122 hM
   go_wp2
   have hnd:=Xq (Value.agg #[]) (ss.map (·.1))
   rw [List.length_map] at hnd
   have hbb : ((↑(I6 (Value.agg #[]) (List.map (fun x=>x.fst) ss)).length : Int) == (↑ss.length : Int)) = decide (ss.map (·.1)).Nodup:=by
    rw [Bool.eq_iff_iff,beq_iff_eq,decide_eq_true_iff,<- hnd.2]
    omega
   simp [bodyPost,results,Tryz.results95,go_sem]
   exact ⟨by rw [hbb],hB⟩
theorem Zx (d : Bt) (sv : SV) (w : World) (hS : d.slots = [] \/ ∃ bs os,sv.a = some ⟨bs,os,none⟩ /\ SlotsFrom w bs os d.slots) (hn : d.slots.length < 2199023255552) (hm : ∀ p ∈ d.slots,p.1 < M) :
  Calls TryQ.prog 57 #[.agg (Am d ⟨sv.a,d.slots.length,sv.c⟩).toArray] w fun e w'=>e = .returned (.bool (decide (Es d))) /\ Below w.heap.size w w':=by
 unfold Am
 have hB : ∀ o,Below w.heap.size w (w.alloc o):=fun o=>(Below.refl _ _).alloc (Nat.le_refl _) o
 by_cases h1 : 1 <= d.id
 rotate_left
 ·have ho : decide (Es d) = false:=decide_eq_false (fun h=>absurd h.1 h1)
  rw [ho]
  go_enter TryQ.func57,Tryz.ntmps57
  go_wp2
  go_ret
  exact ⟨rfl,hB _⟩
 by_cases h2 : d.id <= 999999
 rotate_left
 ·have ho : decide (Es d) = false:=decide_eq_false (fun h=>absurd h.2.1 h2)
  rw [ho]
  go_enter TryQ.func57,Tryz.ntmps57
  go_wp2
  go_ret
  exact ⟨rfl,hB _⟩
 by_cases h3 : 0 <= d.nonce
 rotate_left
 ·have ho : decide (Es d) = false:=decide_eq_false (fun h=>absurd h.2.2.1 h3)
  rw [ho]
  go_enter TryQ.func57,Tryz.ntmps57
  go_wp2
  go_ret
  exact ⟨rfl,hB _⟩
 by_cases h4 : d.nonce <= 4611686018427387904
 rotate_left
 ·have ho : decide (Es d) = false:=decide_eq_false (fun h=>absurd h.2.2.2.1 h4)
  rw [ho]
  go_enter TryQ.func57,Tryz.ntmps57
  go_wp2
  go_ret
  exact ⟨rfl,hB _⟩
 by_cases h5 : (d.code.size : Int) <= 2000
 rotate_left
 ·have ho : decide (Es d) = false:=decide_eq_false (fun h=>absurd h.2.2.2.2.1 h5)
  rw [ho]
  go_enter TryQ.func57,Tryz.ntmps57
  go_wp2
  go_ret
  exact ⟨rfl,hB _⟩
 by_cases h6 : (d.slots.length : Int) <= 64
 rotate_left
 ·have ho : decide (Es d) = false:=decide_eq_false (fun h=>absurd h.2.2.2.2.2.1 h6)
  rw [ho]
  go_enter TryQ.func57,Tryz.ntmps57
  go_wp2
  go_ret
  exact ⟨rfl,hB _⟩
 have hk : decide (Es d) = decide (d.slots.map (·.1)).Nodup:=by
  by_cases h7 : (d.slots.map (·.1)).Nodup
  ·have hA : Es d:=⟨h1,h2,h3,h4,h5,h6,h7⟩
   rw [decide_eq_true h7,decide_eq_true hA]
  ·have hA : ¬ Es d:=fun h=>h7 h.2.2.2.2.2.2
   rw [decide_eq_false h7,decide_eq_false hA]
 rw [hk]
 go_enter TryQ.func57,Tryz.ntmps57
 go_wp2_with (go_at_call 95; refine (Af9 d.slots sv.a sv.c _ (hS.imp id fun ⟨b,o,h1,h2⟩=>⟨b,o,h1,h2.below (hB _)⟩) hn hm).mono ?_; rintro e w' ⟨rfl,hb⟩)
 simp [bodyPost,results,Tryz.results57,go_sem]
 exact (hB _).trans (hb.mono (hB _).size)
theorem Ajx (ds : List (Bt × SV)) (a : Option Addr) (cap : Nat) (w : World) (hA : ds = [] \/ ∃ b o,a = some ⟨b,o,none⟩ /\ AccsAt w b o ds) (hn : ds.length < 2199023255552) :
  Calls TryQ.prog 58 #[.slice a ds.length cap] w fun e w'=>e = .returned (.bool (decide (ds.map (·.1.id)).Nodup)) /\ Below w.heap.size w w':=by
 have u83 : TryQ.prog.underlying 125 = some (.map 3 179):=(Ab 125).trans Tryz.underlying125
 have hmk:=fun W=>Nf u83 ds.length W
 go_enter TryQ.func58,Tryz.ntmps58
 go_wp2
 go_loopw [11] (fun i wr=>∃ k : Nat,i = .int .i64 k /\ k <= ds.length /\ MapL (fun x : Int=>Value.int .i64 x) wr w.heap.size (I6 (.agg #[]) ((ds.take k).map (·.1.id))) /\ Below w.heap.size w wr /\ w.heap.size < wr.heap.size) (fun i _=>ds.length - (Go.RowKit.intOf i).toNat)
 case atStart =>
  exact ⟨0,rfl,Nat.zero_le _,⟨#[],0,by show (w.heap.push _)[w.heap.size]? = _; rw [Array.getElem?_push_size],rfl⟩,ba,by simp⟩
 case round =>
  obtain ⟨k,rfl,hk,hM,hB,hsz⟩:=hrel
  by_cases hlt : k < ds.length
  ·have hlt' : (k : Int) < (ds.length : Int):=by omega
   obtain ⟨b,o,rfl,hA2⟩:=hA.resolve_left (fun h=>by subst h; simp at hlt)
   have hA':=(hA2.below hB) k ds[k] (List.getElem?_eq_getElem hlt)
   have c0:=hA' 0 _ rfl
   have c1:=hA' 1 _ rfl
   have c2:=hA' 2 _ rfl
   have c3:=hA' 3 _ rfl
   have c4:=hA' 4 _ rfl
   have c5:=hA' 5 _ rfl
   have c6:=hA' 6 _ rfl
   have c7:=hA' 7 _ rfl
   rw [Nat.add_zero] at c0
   clear hA'
   go_wp2
   refine Jh intKeys u83 (k:=ds[k].1.id) (hM.alloc _) trivial (fun _ _=>trivial) (fun o' hM'=>?_)
   have hB':=Gh ((hB.alloc (Nat.le_of_lt hsz) (.cells #[.int .i64 ds[k].1.id,.int .u64 (lim ds[k].1.bal 0),.int .u64 (lim ds[k].1.bal 1),.int .u64 (lim ds[k].1.bal 2),.int .u64 (lim ds[k].1.bal 3),.int .i64 ds[k].1.nonce,.string ds[k].1.code,.slice ds[k].2.a ds[k].2.n ds[k].2.c] 52))) (Nat.le_refl _) o'
   rw [<- Jp,P7 (fun p : Bt × SV=>p.1.id) ds k hlt] at hM'
   have hs' : w.heap.size < (wr.heap.push (.cells #[.int .i64 ds[k].1.id,.int .u64 (lim ds[k].1.bal 0),.int .u64 (lim ds[k].1.bal 1),.int .u64 (lim ds[k].1.bal 2),.int .u64 (lim ds[k].1.bal 3),.int .i64 ds[k].1.nonce,.string ds[k].1.code,.slice ds[k].2.a ds[k].2.n ds[k].2.c] 52)).size:=by simp; omega
   go_wp2
   go_roundw
   case rel =>
    exact ⟨k + 1,by go_num,by omega,hM',hB',by simpa using hs'⟩
   case measure=>simp [Go.RowKit.intOf]; omega
  ·have hk' : k = ds.length:=by omega
   subst hk'
   rw [List.take_length] at hM
   have hlen:=Iq u83 hM
   go_wp2
   have hnd:=Xq (Value.agg #[]) (ds.map (·.1.id))
   rw [List.length_map] at hnd
   have hbb : ((↑(I6 (Value.agg #[]) (List.map (fun x=>x.fst.id) ds)).length : Int) == (↑ds.length : Int)) = decide (ds.map (·.1.id)).Nodup:=by
    rw [Bool.eq_iff_iff,beq_iff_eq,decide_eq_true_iff,<- hnd.2]
    omega
   simp [bodyPost,results,Tryz.results58,go_sem]
   exact ⟨by rw [hbb],hB⟩
theorem Aig (ds : List (Bt × SV)) (a : Option Addr) (cap : Nat) (w : World) (hA : ds = [] \/ ∃ b o,a = some ⟨b,o,none⟩ /\ AccsAt w b o ds) (hn : ds.length < 2199023255552) (hm : ∀ p ∈ ds,p.1.bal < M) :
  Calls TryQ.prog 59 #[.slice a ds.length cap] w fun e w'=>e = .returned (.bool (decide (total ds < M))) /\ Below w.heap.size w w':=by
 go_enter TryQ.func59,Tryz.ntmps59
 go_wp2
 go_loopw [9] (fun i wr=>∃ k : Nat,i = .int .i64 k /\ k <= ds.length /\ total (ds.take k) < M /\ R4 wr w.heap.size (total (ds.take k)) /\ Below w.heap.size w wr) (fun i _=>ds.length - (Go.RowKit.intOf i).toNat)
 case atStart =>
  refine ⟨0,rfl,Nat.zero_le _,(by decide : (0 : Nat) < M),?_,ba⟩
  have e : total (ds.take 0) = 0:=rfl
  rw [e]
  have hb : (w.alloc (.cells wz 41)).heap[w.heap.size]? = some (.cells wz 41):=by show (w.heap.push _)[w.heap.size]? = _; rw [Array.getElem?_push_size]
  constructor
  iterate 4 simp only [World.cell?,hb]; rfl
  ·intro j; simp only [World.frozen?,hb]; simp
  ·simp
 case round =>
  obtain ⟨k,rfl,hk,ht,hR,hB⟩:=hrel
  by_cases hlt : k < ds.length
  ·have hlt' : (k : Int) < (ds.length : Int):=by omega
   obtain ⟨b,o,rfl,hA2⟩:=hA.resolve_left (fun h=>by subst h; simp at hlt)
   have hA':=(hA2.below hB) k ds[k] (List.getElem?_eq_getElem hlt)
   have c0:=hA' 0 _ rfl
   have c1:=hA' 1 _ rfl
   have c2:=hA' 2 _ rfl
   have c3:=hA' 3 _ rfl
   have c4:=hA' 4 _ rfl
   have c5:=hA' 5 _ rfl
   have c6:=hA' 6 _ rfl
   have c7:=hA' 7 _ rfl
   rw [Nat.add_zero] at c0
   clear hA'
   obtain ⟨r0,r1,r2,r3,rf,rlt⟩:=hR
   have hbk:=hm _ (List.getElem_mem hlt)
   have hts:=Aau ds k hlt
   go_wp2_with fail
   refine (sum (total (ds.take k)) ds[k].1.bal ht hbk _).mono ?_
   rintro e w1 ⟨rfl,hb1⟩
   have hB1 : Below wr.heap.size wr w1:=ba.trans (hb1.mono (by simp))
   obtain ⟨r0',r1',r2',r3',rf',rlt'⟩:=(R4.mk r0 r1 r2 r3 rf rlt).below hB1
   have hBB : Below w.heap.size w w1:=hB.trans (hB1.mono hB.size)
   clear hb1 hB1 r0 r1 r2 r3 rf rlt c0 c1 c2 c3 c4 c5 c6 c7
   by_cases hov : total (ds.take (k + 1)) < M
   ·have hd0 : (total (ds.take k) + ds[k].1.bal) / M = 0:=Nat.div_eq_of_lt (by omega)
    have hm0 : (total (ds.take k) + ds[k].1.bal) % M = total (ds.take (k + 1)):=by rw [hts]; exact Nat.mod_eq_of_lt (by omega)
    rw [hd0,hm0]
    go_wp2
    go_roundw
    case rel =>
     refine ⟨k + 1,by go_num,by omega,hov,?_,?_⟩
     ·rw [hts]
      constructor
      iterate 4 simp [go_sem, *]
      ·intro j; simp [go_sem,rf']
      ·simpa using rlt'
     ·exact (((hBB.setCell (p:=⟨w.heap.size,0,none⟩) (Nat.le_refl _) _).setCell (p:=⟨w.heap.size,1,none⟩) (Nat.le_refl _) _).setCell (p:=⟨w.heap.size,2,none⟩) (Nat.le_refl _) _).setCell (p:=⟨w.heap.size,3,none⟩) (Nat.le_refl _) _
    case measure=>simp [Go.RowKit.intOf]; omega
   ·have hd1 : (total (ds.take k) + ds[k].1.bal) / M = 1:=by
     have : M <= total (ds.take k) + ds[k].1.bal:=by omega
     rw [Nat.div_eq_iff (by decide)]
     omega
    have hno:=Ahu ds (k + 1)
    rw [hd1]
    go_wp2
    simp [bodyPost,results,Tryz.results59,go_sem]
    refine ⟨by omega,?_⟩
    exact (((hBB.setCell (p:=⟨w.heap.size,0,none⟩) (Nat.le_refl _) _).setCell (p:=⟨w.heap.size,1,none⟩) (Nat.le_refl _) _).setCell (p:=⟨w.heap.size,2,none⟩) (Nat.le_refl _) _).setCell (p:=⟨w.heap.size,3,none⟩) (Nat.le_refl _) _
  ·have hk' : k = ds.length:=by omega
   subst hk'
   rw [List.take_length] at ht
   have hd : decide (total ds < M) = true:=decide_eq_true ht
   go_wp2
   simp [bodyPost,results,Tryz.results59,go_sem]
   exact ⟨ht,hB⟩
theorem InR.belowR {w w' : World} {a : Option Addr} {ds : List (Bt × SV)} (h : InR w a ds) (hb : Below w.heap.size w w') : InR w' a ds:=h.below hb
theorem Yv (ds : List (Bt × SV)) (a : Option Addr) (cap : Nat) (w : World) (hI : InR w a ds) :
  Calls TryQ.prog 34 #[.slice a ds.length cap] w fun e w'=>e = .returned (.bool (decide (Er (ds.map (·.1))))) /\ Below w.heap.size w w':=by
 have hn:=hI.len
 by_cases h64 : ds.length <= 64
 rotate_left
 ·have h64' : ¬ (ds.length : Int) <= 64:=by omega
  have hno : ¬ Er (ds.map (·.1)):=fun h=>h64 (by simpa using h.1)
  go_enter TryQ.func34,Tryz.ntmps34
  go_wp2
  simp [bodyPost,results,Tryz.results34,go_sem]
  exact Below.refl _ _
 have h64' : (ds.length : Int) <= 64:=by omega
 go_enter TryQ.func34,Tryz.ntmps34
 go_wp2
 go_loopw [10] (fun i wr=>∃ k : Nat,i = .int .i64 k /\ k <= ds.length /\ (∀ p ∈ ds.take k,Es p.1) /\ Below w.heap.size w wr) (fun i _=>ds.length - (Go.RowKit.intOf i).toNat)
 case atStart =>
  exact ⟨0,rfl,Nat.zero_le _,by simp,Below.refl _ _⟩
 case round =>
  obtain ⟨k,rfl,hk,hok,hB⟩:=hrel
  by_cases hlt : k < ds.length
  ·have hlt' : (k : Int) < (ds.length : Int):=by omega
   have hmem:=List.getElem_mem hlt
   obtain ⟨b,o,rfl,hAcc⟩:=hI.acc.resolve_left (fun h=>by subst h; simp at hlt)
   have hA':=(hAcc.below hB) k ds[k] (List.getElem?_eq_getElem hlt)
   have c0:=hA' 0 _ rfl
   have c1:=hA' 1 _ rfl
   have c2:=hA' 2 _ rfl
   have c3:=hA' 3 _ rfl
   have c4:=hA' 4 _ rfl
   have c5:=hA' 5 _ rfl
   have c6:=hA' 6 _ rfl
   have c7:=hA' 7 _ rfl
   rw [Nat.add_zero] at c0
   clear hA'
   obtain ⟨hsv,hS⟩:=hI.sl _ hmem
   rw [hsv] at c7
   go_wp2_with fail
   have hal:=fun (W : World) (hW : ds[k].1.slots = [] \/ ∃ bs os,ds[k].2.a = some ⟨bs,os,none⟩ /\ SlotsFrom W bs os ds[k].1.slots)=>Zx ds[k].1 ds[k].2 W hW (hI.num _ hmem) (fun q hq=>(hI.key _ hmem q hq).1)
   unfold Am at hal
   refine (hal _ (hS.imp id fun ⟨b,o,h1,h2⟩=>⟨b,o,h1,(h2.below hB).below ba⟩)).mono ?_
   rintro e w1 ⟨rfl,hb1⟩
   have hBB : Below w.heap.size w w1:=hB.trans ((ba.trans (hb1.mono (by simp))).mono hB.size)
   clear hal c0 c1 c2 c3 c4 c5 c6 c7 hb1
   by_cases hacc : Es ds[k].1
   ·rw [decide_eq_true hacc]
    go_wp2
    go_roundw
    case rel =>
     refine ⟨k + 1,by go_num,by omega,fun p hp=>?_,hBB⟩
     rw [List.take_add_one,List.getElem?_eq_getElem hlt] at hp
     rcases List.mem_append.1 hp with hp | hp
     ·exact hok p hp
     ·simp at hp; rw [hp]; exact hacc
    case measure=>simp [Go.RowKit.intOf]; omega
   ·rw [decide_eq_false hacc]
    have hno : ¬ Er (ds.map (·.1)):=fun h=>hacc (h.2.1 _ (List.mem_map_of_mem hmem))
    go_wp2
    simp [bodyPost,results,Tryz.results34,go_sem,hno]
    exact hBB
  ·have hk' : k = ds.length:=by omega
   subst hk'
   rw [List.take_length] at hok
   go_wp2_with fail
   refine (Ajx ds a cap _ (hI.belowR hB).acc hn).mono ?_
   rintro e w1 ⟨rfl,hb1⟩
   have hBB : Below w.heap.size w w1:=hB.trans (hb1.mono hB.size)
   have hids : (ds.map (·.1)).map (·.id) = ds.map (·.1.id):=by simp
   have hbal : ((ds.map (·.1)).map (·.bal)).sum = total ds:=by simp [total]; rfl
   by_cases hnd : (ds.map (·.1.id)).Nodup
   ·rw [decide_eq_true hnd]
    go_wp2_with fail
    refine (Aig ds a cap _ (hI.belowR hBB).acc hn hI.bal).mono ?_
    rintro e w2 ⟨rfl,hb2⟩
    have hB2 : Below w.heap.size w w2:=hBB.trans (hb2.mono hBB.size)
    have hs : decide (Er (ds.map (·.1))) = decide (total ds < M):=by
     by_cases ht : total ds < M
     ·have hS : Er (ds.map (·.1)):=⟨by simpa using h64,fun d hd=>by obtain ⟨p,hp,rfl⟩:=List.mem_map.1 hd; exact hok p hp,by rw [hids]; exact hnd,by rw [hbal]; exact ht⟩
      rw [decide_eq_true ht,decide_eq_true hS]
     ·have hS : ¬ Er (ds.map (·.1)):=fun h=>ht (by rw [<- hbal]; exact h.2.2.2)
      rw [decide_eq_false ht,decide_eq_false hS]
    go_wp2
    have hiff : total ds < M ↔ Er (ds.map (·.1)):=by
     rw [<- decide_eq_true_iff (p:=total ds < M),<- hs,decide_eq_true_iff]
    simp [bodyPost,results,Tryz.results34,go_sem]
    exact ⟨hiff,hB2⟩
   ·have hno : ¬ Er (ds.map (·.1)):=fun h=>hnd (by rw [<- hids]; exact h.2.2.1)
    rw [decide_eq_false hnd]
    go_wp2
    simp [bodyPost,results,Tryz.results34,go_sem,hno]
    exact hBB
end Go.Mark
