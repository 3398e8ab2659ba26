import Derived.Test.YtbephahokhnccaaGreatDoorJ8
import Derived.Test.YtbephahokhnccaaGreatDoorJ9
set_option linter.all false
set_option maxRecDepth 100000
set_option maxHeartbeats 4000000
namespace Go.Mark
open Go.RowKit Go.Proofs Go.Proofs.Tryz
variable{L:List (Int×Nat×Ac)}{ds:List (bF×SV)}{k:Nat}{mks:Nat->SV}{v W:WR}
section
variable [aB]
noncomputable def JR:Code:=match Tryz.f35.body with
 |some (.seq _ (.seq _ c))=>c
 |_=>.skip
def oK(d:bF)(mk:SV)(a ms:Nat):Int×Nat×Ac:=(d.id,a,⟨d.bal,d.nonce,d.code,mk,ms,kept d.bE⟩)
structure KM (v W:WR)(ds:List (bF×SV))(mks:Nat->SV)(k:Nat)(L:List (Int×Nat×Ac)):Prop where
 below:Below v.heap.size v W
 qy:W.heap[v.heap.size+2]?=ob #[.map (some v.heap.size),.int .i64 0,.slice none 0 0,.map (some (v.heap.size+1))] 128
 map:cR (fun x:Int=>Value.int .i64 x) W v.heap.size (ids L)
 iZ:cR (fun x:Int=>Value.int .i64 x) W (v.heap.size+1) []
 len:L.length=k
 mu:∀i,i<k->∃pa ms d,(ds[i]?).map (·.1)=some d/\L[i]?=some (oK d (mks i) pa ms)
 acc:∀q∈L,W.heap[q.2.1]?=ob (cG q.2.2) 136/\cR wd W q.2.2.ms (slotL q.2.2.sl)/\v.heap.size+2<q.2.2.ms/\v.heap.size+2<q.2.1
 AJ:(L.map (·.2.1)).Nodup
 UN:(L.map (·.2.2.ms)).Nodup
def KM.lt(h:KM v W ds mks k L):v.heap.size+2<W.heap.size:=(aAu.1 h.qy).1
def KM.cell(h:KM v W ds mks k L):W.cell? ⟨v.heap.size+2,0,none⟩=some (.map (some v.heap.size)):=by rw[aJ h.qy 0];rfl
def KM.eT{c:WR}(h:KM v W ds mks k L)(a:Bw W c):KM v c ds mks k L:=
 ⟨h.below.tr (a.mono h.below.size),(a.block _ h.lt).tr h.qy,h.map.below a,h.iZ.below a,h.len,h.mu,fun q b=>⟨(a.block _ (aG (h.acc q b).1)).tr (h.acc q b).1,(h.acc q b).2.1.below a,(h.acc q b).2.2⟩,h.AJ,h.UN⟩
def KN(W:WR)(r:Nat)(o:Obj)(b:∃f c,W.heap[r]?=some (.map f c))(a:Addr)(u:vZ)(h:W.cell? a=some u):{W with heap:=W.heap.setIfInBounds r o:WR}.cell? a=some u:=by
 have d:r≠a.block:=fun e=>by have⟨f,c,b⟩:=b;unfold World.cell? at h;rw[<-e,b] at h;cases h
 unfold World.cell? at h⊢;simp only[aAH d];exact h
def cR.is{b:Type}{e:b->vZ}{w:WR}{r:Nat}{l:List (b×vZ)}(h:cR e w r l):∃a c,w.heap[r]?=some (.map a c):=let⟨a,c,d,_⟩:=h;⟨a,c,d⟩
def Io(ds:List (bF×SV))(a:yj)(cap F mc:Nat)(mks:Nat->SV)(v:WR)(hI:uE v a ds)(b7:∀i,i<ds.length->v.cA F i=some (.sl (mks i).a (mks i).n (mks i).c))(a0:F<v.heap.size)(Z:gM (ds.map (·.1))):
  JR.wp zQ.prog (bodyPost zQ.prog f35 fun e v'=>∃val,e=.rt val/\∃L,val=pq (v.heap.size+2) 0/\KM v v' ds mks ds.length L) ⟨#[.sl a ds.length cap,ud,.pointer none,.sl (some (ad F 0)) ds.length mc,ud,ud,ud,.sl a ds.length cap,.sl (some (ad F 0)) ds.length mc,ud,ud,ud,ud,ud,ud,ud,ud,ud,ud,ud,ud,ud,ud,ud,ud,ud,ud,ud,ud,ud,ud,ud,ud,ud,ud,ud,ud,ud,ud,ud,ud,ud,ud,ud,ud,ud],[]⟩ v:=by
 have hn:=hI.len;have bh:ds.length<=64:=by simpa using Z.1
 have b5:∀p∈ds,iD p.1:=fun p hp=>Z.2.1 _ (aAI hp);have a2:(ds.map (·.1.id)).Nodup:=by have:=Z.2.2.1;rw[aAS] at this;exact this
 have bf:=fun W=>uD (mt:=124) UP ds.length W;have bd:=fun W=>yO (mt:=125) W;dsimp only[JR,f35];go_wp2_with fail;go_loopw [17] (fun i W=>∃(k:Nat) (L:List (Int×Nat×Ac)),i=vI k/\k<=ds.length/\KM v W ds mks k L) (fun i _=>ds.length - (Go.RowKit.intOf i).toNat)
 case atStart=>
  refine⟨0,[],rfl,aBa _,((ba).alloc sI _).alloc sQ0 _,?_,?_,?_,rfl,(fun i hi=>oM),(fun q t=>by cases t),aCZ,aCZ⟩
  .have N:=aM ((v.alloc (.map #[] 0)).alloc (.map #[] 0)) (.ce #[.map (some v.heap.size),vI 0,.sl none 0 0,.map (some (v.heap.size+1))] 128);have e:((v.alloc (.map #[] 0)).alloc (.map #[] 0)).heap.size=v.heap.size+2:=sI
   rw[e] at N;exact N
  .have J:=cR.new (fun x:Int=>Value.int .i64 x) v;have bc:Below (v.alloc (.map #[] 0)).heap.size (v.alloc (.map #[] 0)) ((v.alloc (.map #[] 0)).alloc (.map #[] 0)):=ba;exact(J.below bc).below ba
  .have J:=cR.new (fun x:Int=>Value.int .i64 x) (v.alloc (.map #[] 0));have e:(v.alloc (.map #[] 0)).heap.size=v.heap.size+1:=sI
   rw[e] at J;exact J.below ba
 case round=>
  obtain⟨k,L,rfl,hk,hN⟩:=hrel;by_cases C:k<ds.length
  .have bg:(k:Int)<(ds.length:Int):=oM
   have z:=aBf C;obtain⟨b,o,rfl,D⟩:=hI.acc.resolve_left (fun h=>by subst h;simp at C);have s:=(D.below hN.below) k ds[k] (aAG C);have⟨ac,al⟩:=hI.sl _ z;have a9:=hI.bal _ z;have S:=hI.key _ z;have a8:=hI.num _ z;have E:=b5 _ z;have a7:(ds[k]?).map (·.1)=some ds[k].1:=by rw[aAG C];rfl
   have Q:=b7 k C;generalize b0:mks k=mk at Q;have I:=(hN.below.cell (p:=(ad F k)) a0).tr Q;have T:ds[k].1.id∉L.map (·.1):=fun h=>by
    have⟨q,t,e⟩:=aAJ.1 h;have⟨i,hi,he⟩:=aBe.1 t;have H:i<k:=by have:=hN.len;omega
    have⟨B,ms,d,hd,hL⟩:=hN.mu i H;rw[aAG hi,he] at hL;have b2:i<ds.length:=oM
    rw[aAG b2] at hd;have R:=aBg.1 a2 i k (by simpa using b2) (by simpa using C) H;simp only[aCN] at R;simp only[aAX,aAF] at hd hL;rw[hL,<-hd] at e;exact R e
   have b9:=US D;clear D;generalize ds[k]=p at*;have⟨d,A⟩:=p;simp only at ac al a9 S a8 E T a7;have c0:=s 0 _ rfl;have c1:=s 1 _ rfl;have c2:=s 2 _ rfl;have c3:=s 3 _ rfl;have c4:=s 4 _ rfl;have c5:=s 5 _ rfl;have c6:=s 6 _ rfl;have c7:=s 7 _ rfl;rw[aBd] at c0;simp only at c0 c1 c2 c3 c4 c5 c6 c7;rw[ac] at c7;have ar:Bw wr (wr.alloc (.ce (aV d ⟨A.a,d.bE.length,A.c⟩).toArray 52)):=ba;have X:=fW wr (aV d ⟨A.a,d.bE.length,A.c⟩) 52;have O:=hN.eT ar;have G:=(ar.cell (p:=(ad F k)) (aAy a0 hN.below.size)).tr I;have bi:b<wr.heap.size:=by
    have h:=c0;simp only[World.cell?] at h;cases hh:wr.heap[b]? with
    |none=>rw[hh] at h;cases h
    |some o=>exact(aAu.1 hh).1
   go_wp2_with fail;clear c0 c1 c2 c3 c4 c5 c6 c7 s I;change Code.wp _ _ _ _ (wr.alloc (.ce (aV d ⟨A.a,d.bE.length,A.c⟩).toArray 52));have aa:wr.heap.size<(wr.alloc (.ce (aV d ⟨A.a,d.bE.length,A.c⟩).toArray 52)).heap.size:=sI
   generalize wr.alloc (.cells (aV d ⟨A.a,d.bE.length,A.c⟩).toArray 52)=V at X O G aa⊢;generalize wr.heap.size=xb at X aa⊢;refine nW (fun _ B W=>∃ms,KM v W ds mks (k+1) (L++[oK d mk B ms])) ?_;apply Exists.intro;apply And.intro
   .refine rq (fun W=>W.cA (v.heap.size+1+1) 0=some (.map (some v.heap.size))/\cI W xb 0 (aV d ⟨A.a,d.bE.length,A.c⟩)/\W.cA F k=some (.sl mk.a mk.n mk.c)) ⟨O.cell,X.below bR.drew,G⟩ fun f=>?_;refine t3 0 1 2 f ?_;refine tV 3 (fun _ r=>r.1) f ?_;refine t1 4 f ?_;refine tD 5 27 (vI d.id) (fun W r=>?_) f ?_
    .have k0:=r.2.1 0 _ rfl;simp only[aAM] at k0;clear r f;go_simp
    refine t1 6 f ?_;refine tD 7 29 (wd d.bal) (fun W r=>?_) f ?_
    .have k1:=r.2.1 1 _ rfl;have k2:=r.2.1 2 _ rfl;have k3:=r.2.1 3 _ rfl;have k4:=r.2.1 4 _ rfl;simp only[aAM] at k1 k2 k3 k4;clear r f;unfold wd;go_simp
    refine t1 8 f ?_;refine tD 9 31 (vI d.nonce) (fun W r=>?_) f ?_
    .have k0:=r.2.1 5 _ rfl;simp only[aAM] at k0;clear r f;go_simp
    refine t1 10 f ?_;refine tD 11 33 (.string d.code) (fun W r=>?_) f ?_
    .have k0:=r.2.1 6 _ rfl;simp only[aAM] at k0;clear r f;go_simp
    refine t3 13 14 15 f ?_;refine tV 16 (fun _ r=>r.2.2) f ?_;refine t1 17 f ?_;refine tD 18 40 (.sl A.a d.bE.length A.c) (fun W r=>?_) f ?_
    .have k0:=r.2.1 7 _ rfl;simp only[aAM] at k0;clear r f;go_simp
    have c:=O.eT bR.drew;have n:F<V.drew.heap.size:=aAy a0 O.below.size;generalize V.drew=W0 at f c n⊢;have b8:d.code.size<=281474976710656:=by have:=E.2.2.2.2.1;omega
    refine rA 12 fun K hK=>?_
    .skip
     go_simp;apply(ui d.code W0 b8).mono;rintro e W1 ⟨rfl,l⟩;go_wp2_with fail;refine hK.out _ _ ⟨(l.cell (p:=(ad (v.heap.size+1+1) 0)) c.lt).tr f.1,f.2.1.below l,(l.cell (p:=(ad F k)) n).tr f.2.2⟩ fun f=>?_;replace c:=c.eT l;replace n:=aAy n l.size;clear l;refine rA 19 fun K hK=>?_;go_simp;apply(PH d.bE A.a A.c W1 (al.imp id fun⟨b,o,N,R⟩=>⟨b,o,N,R.below c.below⟩) a8 S E.2.2.2.2.2.2).mono;rintro e W2 ⟨rfl,w,l,a6⟩;obtain⟨ms,b1⟩:∃ms,W1.heap.size=ms:=⟨_,rfl⟩;rw[b1] at w a6⊢;have a1:v.heap.size+2<ms:=by have:=c.lt;omega
     have U:∀q∈L,q.2.2.ms<ms:=fun q t=>by rw[<-b1];exact(c.acc q t).2.1.lt
     go_wp2_with fail;refine hK.out _ _ ⟨(l.cell (p:=(ad (v.heap.size+1+1) 0)) c.lt).tr f.1,f.2.1.below l,(l.cell (p:=(ad F k)) n).tr f.2.2⟩ fun f=>?_;replace c:=c.eT l;replace n:=aAy n l.size;clear l;refine tD 20 42 (.agg (cG ⟨d.bal,d.nonce,d.code,mk,ms,kept d.bE⟩)) (fun W r=>?_) f ?_
     .clear r f;unfold wd cG;go_simp
     refine rA 21 fun K hK=>?_;obtain⟨B,b3⟩:∃B,W2.heap.size=B:=⟨_,rfl⟩;have l:Bw W2 (W2.alloc (.ce (cG ⟨d.bal,d.nonce,d.code,mk,ms,kept d.bE⟩) 136)):=ba;have M:=aM W2 (.ce (cG ⟨d.bal,d.nonce,d.code,mk,ms,kept d.bE⟩) 136);have a5:v.heap.size+2<B:=by have:=c.lt;omega
     have P:∀q∈L,q.2.1<B/\q.2.2.ms<ms:=fun q t=>⟨by rw[<-b3];exact aG (c.acc q t).1,U q t⟩;unfold cG;go_simp;refine hK.out _ (W2.alloc (.ce (cG ⟨d.bal,d.nonce,d.code,mk,ms,kept d.bE⟩) 136)) ⟨(l.cell (p:=(ad (v.heap.size+1+1) 0)) c.lt).tr f.1,f.2.1.below l,(l.cell (p:=(ad F k)) n).tr f.2.2⟩ fun f=>?_;replace c:=c.eT l;replace w:=w.below l;rw[b3] at M;generalize W2.alloc (.cells (cG ⟨d.bal,d.nonce,d.code,mk,ms,kept d.bE⟩) 136)=W3 at f c w M⊢;refine rA 22 fun K hK=>?_;go_simp;refine gH pg UP (k:=d.id) (v:=pq B 0) c.map trivial (fun _ _=>trivial) fun o' a4=>?_;have Y:=fun a u h=>KN W3 v.heap.size o' c.map.is a u h;refine hK.out _ _ ⟨Y _ _ f.1,fun j u hj=>Y _ _ (f.2.1 j u hj),Y _ _ f.2.2⟩ fun f=>?_;refine dn ?_;have bb:d.id∉(ids L).map (·.1):=fun hm=>T (by rw[show(ids L).map (·.1)=L.map (·.1) by unfold ids;rw[aAS];rfl] at hm;exact hm);rw[nZ _ _ _ bb] at a4;have m:∀g,g≠v.heap.size->(W3.heap.setIfInBounds v.heap.size o')[g]?=W3.heap[g]?:=fun g hg=>aAH (Ne.symm hg);refine⟨rfl,ms,B,rfl,ms,jG c.below lR o',(m _ oM).tr c.qy,?_,c.iZ.same (m _ oM),by simp[c.len],fun i hi=>?_,fun q t=>?_,?_,?_⟩
     .have e:ids (L++[oK d mk B ms])=ids L++[(d.id,pq B 0)]:=by unfold ids;rw[aBc];rfl
      rw[e];exact a4
     .by_cases H:i<k
      .have⟨b6,a3,d',N,R⟩:=c.mu i H;exact⟨b6,a3,d',N,by rw[aBI (by rw[c.len];exact H)];exact R⟩
      .obtain rfl:i=k:=oM
       refine⟨B,ms,d,a7,?_⟩;rw[aBn (by rw[c.len];exact aAz _),c.len,b0];simp
     .rcases aAL.1 t with t|t
      .have⟨N,R,h3⟩:=c.acc q t;have h4:q.2.1≠v.heap.size:=dS N c.map.is.choose_spec.choose_spec (fun e=>by cases e);exact⟨(m _ h4).tr N,R.same (m _ oM),h3⟩
      .rw[aAB.1 t];have h4:B≠v.heap.size:=dS M c.map.is.choose_spec.choose_spec (fun e=>by cases e);exact⟨(m _ h4).tr M,w.same (m ms oM),a1,a5⟩
     .rw[aBc,aBv];refine⟨c.AJ,sI,fun x X y hy=>?_⟩;obtain⟨q,t,rfl⟩:=aAJ.1 X;simp[oK] at hy;have:=(P q t).1;omega
     .rw[aBc,aBv];refine⟨c.UN,sI,fun x X y hy=>?_⟩;obtain⟨q,t,rfl⟩:=aAJ.1 X;simp[oK] at hy;have:=(P q t).2;omega
   .rintro ms B W ⟨a3,r⟩;go_wp2_with fail;refine⟨⟨k+1,_,by go_num,oM,r⟩,?_⟩;simp[Go.RowKit.intOf];omega
  .have b4:k=ds.length:=oM
   subst b4;go_wp2_with fail;simp[bodyPost,results,go_sem];exact⟨L,hN⟩
def KM.mem(h:KM v W ds mks ds.length L){q:Int×Nat×Ac}(f:q∈L):∃p∈ds,∃mk e ms,q=oK p.1 mk e ms:=by
 have⟨i,j,g⟩:=aBe.1 f;have a:i<ds.length:=by have:=h.len;omega
 have⟨e,ms,d,b,c⟩:=h.mu i a;rw[aAG a] at b;rw[aAG j,g] at c;simp only[aAX,aAF] at b c;exact⟨ds[i],aBf a,_,_,_,by rw[c,<-b]⟩
def KM.fst(h:KM v W ds mks ds.length L):L.map (·.1)=ds.map (·.1.id):=by
 refine List.ext_getElem (by simp[h.len]) fun i f e=>?_;have g:i<L.length:=by simpa using f
 have a:i<ds.length:=by simpa using e
 have⟨j,ms,d,b,c⟩:=h.mu i a;rw[aAG a] at b;rw[aAG g] at c;simp only[aAX,aAF] at b c;rw[aCN,aCN,c,<-b];rfl
def KM.lg(h:KM v W ds mks ds.length L){a:yj}(g:uE v a ds)(c:gM (ds.map (·.1)))(e:aB.b0<=v.heap.size):LG W (v.heap.size+2) v.heap.size ⟨v.heap.size+1,[]⟩ 0 L []:=by
 refine⟨⟨oM,⟨none,0,0⟩,h.qy,rfl,.inl ⟨rfl,rfl⟩⟩,h.map,h.iZ,fun q b=>(h.acc q b).1,fun q b=>(h.acc q b).2.1,?_,h.AJ,fun q b=>?_,fun q b p d=>?_,fun q b=>?_,h.UN,fun q b=>?_,by show v.heap.size≠v.heap.size+1;omega,aCZ,fun q b=>?_,⟨e,by show _<=v.heap.size+1;omega⟩⟩
 .rw[h.fst];have:=c.2.2.1;rw[aAS] at this;exact this
 .obtain⟨p,d,mk,i,ms,rfl⟩:=h.mem b;exact g.bal p d
 .obtain⟨r,f,mk,i,ms,rfl⟩:=h.mem b;exact g.key r f p (aCU.1 d).1
 .obtain⟨r,f,mk,i,ms,rfl⟩:=h.mem b;exact(List.filter_sublist.map _).nodup (c.2.1 _ (aAI f)).2.2.2.2.2.2
 .have:=(h.acc q b).2.2;show q.2.2.ms≠v.heap.size/\q.2.2.ms≠v.heap.size+1;omega
 .have:=(h.acc q b).2.2;omega
end
end Go.Mark
