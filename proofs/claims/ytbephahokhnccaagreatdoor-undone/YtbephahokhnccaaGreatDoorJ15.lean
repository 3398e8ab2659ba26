import Derived.Lib.Mul64
import Derived.Test.YtbephahokhnccaaGreatDoorJ14
set_option linter.all false
set_option maxRecDepth 100000
set_option maxHeartbeats 8000000
namespace Go.Mark
open Go.RowKit Go.Proofs Go.Proofs.Tryz
variable{a:Act}{ops:DQ}{c:Ff}{n t g iA:Nat}{oA:Obj}{P:K5}{dA:Tmp}{t':Fh}{w:WR}
section
open Go.Shelf
variable [aB]
attribute [local go_sem] wd
def gV(n:Nat):UC n (Array.replicate n (vU 0)):=⟨sI,fun j a=>⟨0,by simp[a],dC⟩⟩
def UC.G1(h:UC 8 c):∃v0 v1 b a v4 e v6 d:Int,U v0/\U v1/\U b/\U a/\c=#[.int .u64 v0,.int .u64 v1,.int .u64 b,.int .u64 a,.int .u64 v4,.int .u64 e,.int .u64 v6,.int .u64 d]:=by
 have⟨v0,g,n⟩:=h.2 0 dC;have⟨v1,q,p⟩:=h.2 1 dC;have⟨b,o,m⟩:=h.2 2 dC;have⟨a,r,u3⟩:=h.2 3 dC;have⟨v4,s,u⟩:=h.2 4 dC;have⟨e,j,u5⟩:=h.2 5 dC;have⟨v6,l,v⟩:=h.2 6 dC;have⟨d,k,t⟩:=h.2 7 dC;refine⟨v0,v1,b,a,v4,e,v6,d,n,p,m,u3,aCz fun i=>?_⟩;have:i=0\/i=1\/i=2\/i=3\/i=4\/i=5\/i=6\/i=7\/8<=i:=oM
 rcases this with rfl|rfl|rfl|rfl|rfl|rfl|rfl|rfl|f
 .rw[g];rfl
 .rw[q];rfl
 .rw[o];rfl
 .rw[r];rfl
 .rw[s];rfl
 .rw[j];rfl
 .rw[l];rfl
 .rw[k];rfl
 .rw[aBh (by rw[h.1];exact f),aBh (by simpa using f)]
def AO(e:Ending):Prop:=∃x,x<M/\e=.returned (wd x)
def AO.of(h:UC 4 c):AO (.returned (.agg c)):=by have⟨x,a,e⟩:=h.wd;exact⟨x,a,by rw[e]⟩
def G2(W:WR)(a b:Obj):∃V,∃A B:Nat,V=((W.alloc a).alloc b)/\Shut (W.heap.size=A)/\Shut (W.heap.size+1=B)/\V.heap[A]?=some a/\V.heap[B]?=some b/\Below W.heap.size W V:=by
 refine⟨_,_,_,rfl,rfl,rfl,?_,?_,?_⟩
 .exact aT (aM W _)
 .exact by have:=aM (W.aL a) b;simpa using this
 .exact Below.aL (Below.aL bR lR _) sI _
def ON(W:WR)(a b c:Obj):∃V,∃A B C:Nat,V=(((W.alloc a).alloc b).alloc c)/\Shut (W.heap.size=A)/\Shut (W.heap.size+1=B)/\Shut (W.heap.size+1+1=C)/\V.heap[A]?=some a/\V.heap[B]?=some b/\V.heap[C]?=some c/\Below W.heap.size W V:=by
 refine⟨_,_,_,_,rfl,rfl,rfl,rfl,?_,?_,?_,?_⟩
 .exact aT (aT (aM W _))
 .exact aT (by have:=aM (W.aL a) b;simpa using this)
 .exact by have:=aM ((W.aL a).aL b) c;simpa using this
 .exact Below.aL (Below.aL (Below.aL bR lR _) sI _) sQ0 _
def VL(W:WR)(a b c d:Obj):∃V,∃A B C D:Nat,V=((((W.alloc a).alloc b).alloc c).alloc d)/\Shut (W.heap.size=A)/\Shut (W.heap.size+1=B)/\Shut (W.heap.size+1+1=C)/\Shut (W.heap.size+1+1+1=D)/\V.heap[A]?=some a/\V.heap[B]?=some b/\V.heap[C]?=some c/\V.heap[D]?=some d/\Below W.heap.size W V:=by
 refine⟨_,_,_,_,_,rfl,rfl,rfl,rfl,rfl,?_,?_,?_,?_,?_⟩
 .exact aT (aT (aT (aM W _)))
 .exact aT (aT (by have:=aM (W.aL a) b;simpa using this))
 .exact aT (by have:=aM ((W.aL a).aL b) c;simpa using this)
 .exact by have:=aM (((W.aL a).aL b).aL c) d;simpa using this
 .exact Below.aL (Below.aL (Below.aL (Below.aL bR lR _) sI _) sQ0 _) sQ0 _
def G3(h:UC 8 c)(W:WR):Cq 165 #[.agg c] W fun e a=>AO e/\Bw W a:=by
 obtain⟨v0,v1,i,b,v4,n,v6,l,f,g,d,u3,rfl⟩:=h.G1;have k:UC 4 #[vU v0,vU v1,vU i,vU b]:=⟨rfl,fun j m=>by
  have:j=0\/j=1\/j=2\/j=3:=oM
  rcases this with rfl|rfl|rfl|rfl
  .exact⟨_,rfl,f⟩
  .exact⟨_,rfl,g⟩
  .exact⟨_,rfl,d⟩
  .exact⟨_,rfl,u3⟩⟩
 go_enter (qz func165),ntmps165;go_wp2;simp[bodyPost,results,results165,go_sem];exact⟨.of k,(ba).tr ((ba).mono sI)⟩
def Pg(e:Ending):Prop:=∃c,UC 8 c/\e=.returned (.agg c)
def OO(a:Nat)(v:Int)(b:U v)(W:WR):Cq 167 #[wd a,vU v] W fun e c=>Pg e/\Bw W c:=by
 have d:UC 8 #[vL a 0,vL a 1,vL a 2,vL a 3,vU v,vU 0,vU 0,vU 0]:=⟨rfl,fun j f=>by
  have:j=0\/j=1\/j=2\/j=3\/j=4\/j=5\/j=6\/j=7:=oM
  rcases this with rfl|rfl|rfl|rfl|rfl|rfl|rfl|rfl
  .exact⟨_,rfl,bJ a _,bN a _⟩
  .exact⟨_,rfl,bJ a _,bN a _⟩
  .exact⟨_,rfl,bJ a _,bN a _⟩
  .exact⟨_,rfl,bJ a _,bN a _⟩
  .exact⟨_,rfl,b⟩
  all_goals exact⟨0,rfl,dC⟩⟩
 go_enter (qz func167),ntmps167;go_wp2;simp[bodyPost,results,results167,go_sem];exact⟨⟨_,d,rfl⟩,(ba).tr ((ba).mono sI)⟩
def rm(a k:Nat)(c:k<4)(w:WR):(Instr.index 41 (.agg (wq a)) (.int .i64 (k:Int))).run zQ.prog w=.ok (.int .u64 (aI a k)) w:=by
 have:k=0\/k=1\/k=2\/k=3:=oM
 have b:(Go.sizeOf 39).run zQ.prog w=.ok 1 w:=(aN 39 w).tr (sizeOf39 w);rcases this with rfl|rfl|rfl|rfl<;>simp[Instr.index,run_underlying ((aC 41).tr underlying41),asIntOf,go_sem,b]
def JY(a b:Nat)(W:WR):Cq 164 #[wd a,wd b] W fun e J=>Pg e/\Bw W J:=by
 change Cq 164 #[.agg (wq a),.agg (wq b)] W _;obtain⟨G,A,B,C,D,p,o,v,w,F,hA,Z,I,O,M⟩:=VL W (.cells (wq a) 41) (.cells (wq b) 41) (.cells #[vU 0,vU 0,vU 0,vU 0,vU 0,vU 0,vU 0,vU 0] 254) (.cells #[vU 0,vU 0,vU 0,vU 0,vU 0,vU 0,vU 0,vU 0] 254);go_enter (qz func164),Tryz.ntmps164;go_wp2_with fail;change Code.wp _ _ _ _ ((((W.alloc (.cells (wq a) 41)).alloc (.cells (wq b) 41)).alloc (.cells #[vU 0,vU 0,vU 0,vU 0,vU 0,vU 0,vU 0,vU 0] 254)).alloc (.cells #[vU 0,vU 0,vU 0,vU 0,vU 0,vU 0,vU 0,vU 0] 254));rw[<-p];try rw[F.out]
 try rw[w.out]
 try rw[v.out]
 rw[o.out];have lB:A<B:=by have:=o.out;have:=v.out;exact oM
 have lC:B<C:=by have:=v.out;have:=w.out;exact oM
 have lD:C<D:=by have:=w.out;have:=F.out;exact oM
 clear p;have T:UC 8 #[vU 0,vU 0,vU 0,vU 0,vU 0,vU 0,vU 0,vU 0]:=gV 8;go_loopw [12] (fun i V=>∃(k:Nat) (c:Ff),i=vI (k:Int)/\k<=4/\V.heap[D]?=ob c 254/\UC 8 c/\Bt D G V) (fun i _=>4 - (Go.RowKit.intOf i).toNat)
 case atStart=>exact⟨0,_,rfl,dC,O,T,Bt.refl _ _⟩
 case round=>
  obtain⟨k,c,rfl,hk,g,f,d⟩:=hrel;have t:=d.blk Z oM;obtain⟨Q,K,X,N⟩:=q4 t;have m:=aG g;have s:=aG t;by_cases q:k<4
  .have ix:=rm a k q;have E:(k:Int)<4:=oM
   have a9:IntKind.i64.wrap ((k:Int)+1)=((k+1:Nat):Int):=by rw[IntWalk.i64_in _ ⟨oM,oM⟩];exact oM
   have a8:IntKind.i64.wrap ((k:Int)+4)=((k+4:Nat):Int):=by rw[IntWalk.i64_in _ ⟨oM,oM⟩];exact oM
   go_wp2_with fail;go_loopw [17,8] (fun i b V=>∃(j:Nat) (n:Int) (c:Ff),i=vI (j:Int)/\b=vU n/\j<=4/\U n/\V.heap[D]?=ob c 254/\UC 8 c/\Bt D G V) (fun i _ _=>4 - (Go.RowKit.intOf i).toNat)
   case atStart=>exact⟨0,0,_,rfl,rfl,dC,dC,g,f,d⟩
   case round=>
    clear g f d Q K X N t m s;obtain⟨j,n,c,rfl,rfl,hj,l,g,f,d⟩:=hrel;have m:=aG g;by_cases r:j<4
    .have iy:=rm b j r;have z:(j:Int)<4:=oM
     have u:=aJ g (k+j);have P:=aQ g (k+j);rw[(f.pv (show k+j<8 by exact oM)).1] at u;have a7:IntKind.i64.wrap ((j:Int)+1)=((j+1:Nat):Int):=by rw[IntWalk.i64_in _ ⟨oM,oM⟩];exact oM
     have a6:IntKind.i64.wrap ((k:Int)+(j:Int))=((k+j:Nat):Int):=by rw[IntWalk.i64_in _ ⟨oM,oM⟩];exact oM
     have R:((k+j:Nat):Int)<8:=oM
     have H:=RJ (aI a k) (aI b j) (pv c (k+j)) n (by have:=(f.pv (show k+j<8 by exact oM)).2;unfold U;exact oM) l;go_wp2_with fail;refine(H _).mono ?_;rintro e w1 ⟨⟨x,y,Y,S,rfl⟩,rfl⟩;clear H;go_wp2;go_roundw
     case rel=>exact⟨j+1,x,_,rfl,rfl,oM,Y,aO g,f.set _ S,d.set _ _⟩
     case measure=>simp[Go.RowKit.intOf];exact oM
    .obtain rfl:j=4:=oM
     have u:=aJ g (k+4);have P:=aQ g (k+4);rw[(f.pv (show k+4<8 by exact oM)).1] at u;have R:((k+4:Nat):Int)<8:=oM
     go_wp2;go_roundw
     case rel=>exact⟨k+1,_,rfl,oM,aO g,f.set _ l,d.set _ _⟩
     case measure=>simp[Go.RowKit.intOf];exact oM
  .obtain rfl:k=4:=oM
   have L:=d.blk I oM;go_wp2_with (first| (refine pG jC g f.1 ?_)| (refine iX jC f L rfl (fun V p h=>?_)))
   exact eH jC p f.1 Tryz.results164 ⟨⟨_,f,rfl⟩,h.below (by have:=o.out;exact oM) (d.below (by have:=o.out;exact oM) M)⟩
def OP(a:zQ.prog.underlying t=some (.array n 39))(g:Nat)(w:WR):(Instr.sliceAt t (pq g 0) none none none).run zQ.prog w=.ok (.slice (some ⟨g,0,none⟩) n n) w:=by simp[Instr.sliceAt,Instr.slice,Instr.sliceBounds,run_underlying a,Instr.sureAddr,sizeOf39,Addr.add_lit]
def B1(g:Nat)(w:WR):(Instr.arrayAt 41 (.slice (some ⟨g,0,none⟩) 9 9)).run zQ.prog w=.ok (pq g 0) w:=by simp[Instr.arrayAt,run_underlying ((aC 41).tr underlying41)]
def G4(a:zQ.prog.underlying t=some (.array n 39))(g k:Nat)(b:k<=n)(w:WR):(Instr.sliceAt t (pq g 0) none (some (.int .i64 (k:Int))) none).run zQ.prog w=.ok (.slice (some ⟨g,0,none⟩) k n) w:=by simp[Instr.sliceAt,Instr.slice,Instr.sliceBounds,Instr.sliceBound,run_underlying a,Instr.sureAddr,sizeOf39,Addr.add_lit,asIntOf];omega
def B2(a:zQ.prog.underlying t=some (.array n 39))(g i k:Nat)(b:i+k<=n)(c:i<n)(w:WR):(Instr.sliceAt t (pq g 0) (some (.int .i64 (i:Int))) (some (.int .i64 ((i+k:Nat):Int))) none).run zQ.prog w=.ok (.slice (some ⟨g,i,none⟩) k (n - i)) w:=by simp[Instr.sliceAt,Instr.slice,Instr.sliceBounds,Instr.sliceBound,run_underlying a,Instr.sureAddr,sizeOf39,Addr.add_lit,asIntOf];rw[if_pos oM,if_pos oM,if_neg oM,show((i:Int)+(k:Int)).toNat - i=k by omega]
def OQ{o:Oper}{t:Fh}{x:Operand}(b:Rt t n)(i:w.heap[g]?=some (.cells c t' (0,0)))(h:c.size=n)(d:o.op=.load t x:=by rfl)(j:a.eval x=pq g 0:=by rfl):(execOp a.eval o).run zQ.prog w=.ok (.value (.agg c)) w:=by have⟨e,f⟩:=b.G0;unfold execOp;simp only[d,j,Instr.loadAt,Instr.sureAddr,Sem.run_bind,Sem.run_pure,Result.andThen_ok,run_loadVar_row w g t' t c (0,0) _ i f rfl (by rw[h];exact b.inf)]
def xr{t t1 b:Fh}{v j:Nat}{i:Ff}{fn:Func}{p r:Tmp}{R:Ending->K6}(u:Rt t n)(d:Rt t1 v)(y:w.heap[g]?=some (.cells c t' (0,0)))(D:c.size=n)(o:w.heap[j]?=some (.cells i b (0,0)))(s:i.size=v)(B:fn.results=#[.cell p t,.cell r t1])(h:R (.rt (.tuple #[.agg c,.agg i])) w)(A:a.tmps.getD p ud=pq g 0)(k:a.tmps.getD r ud=pq j 0)(x:a.defers=[]):bodyPost zQ.prog fn R .ret a w:=by
 have⟨e,C⟩:=u.G0;have⟨E,l⟩:=d.G0;have q:=run_loadVar_row w g t' t c (0,0) _ y C rfl (by rw[D];exact u.inf);have z:=run_loadVar_row w j b t1 i (0,0) _ o l rfl (by rw[s];exact d.inf);refine bodyPost_ret ?_ x h;have m:a.tmps[p]?.getD ud=pq g 0:=by simpa using A
 have f:a.tmps[r]?.getD ud=pq j 0:=by simpa using k
 simp[results,B,m,f,asAddr,q,z]
def G5(W:WR)(o:Obj):∃V,∃E:Nat,V=W.alloc o/\Shut (W.heap.size=E)/\V.heap[E]?=some o/\Below W.heap.size W V:=⟨_,_,rfl,rfl,aM W o,ba⟩
def wX(h:UC 8 c)(d:Nat)(W:WR):Cq 166 #[.agg c,wd d] W fun e w'=>(∃q x,UC 8 q/\x<M/\e=.rt (.tuple #[.agg q,wd x]))/\Bw W w':=by
 change Cq 166 #[.agg c,.agg (wq d)] W _;have⟨V0,A,B,C,D,hV,eA,eB,eC,eD,hA,hB,hC,hD,Y⟩:=VL W (.ce c 254) (.ce (wq d) 41) (.ce zq8 254) (.ce wz 41);go_enter (qz func166),ntmps166;go_wp2_with fail;change Calls _ _ _ ((((W.alloc (.ce c 254)).alloc (.ce (wq d) 41)).alloc (.ce zq8 254)).alloc (.ce wz 41)) _;rw[<-hV];try rw[eD.out]
 try rw[eC.out]
 try rw[eB.out]
 rw[eA.out];have lB:A<B:=by have:=eA.out;have:=eB.out;omega
 have lC:B<C:=by have:=eB.out;have:=eC.out;omega
 have lD:C<D:=by have:=eC.out;have:=eD.out;omega
 clear hV;apply(JC d _).mono;rintro e V1 ⟨k,db,b5,rfl,n⟩;replace hA:=bk n hA;replace hB:=bk n hB;replace hC:=bk n hC;replace hD:=bk n hD;replace Y:=Y.tr (n.mono Y.size);clear n;by_cases R:k=0
 .subst R;have L:UC 8 zq8:=gV 8;have rn:UC 4 wz:=gV 4;go_wp2_with (first| (refine iX jC L hC rfl (fun V2 J aa=>?_))| (refine iX bG rn (aa.blk hD oM) rfl (fun V3 c7 f=>?_)))
  have⟨x,hx,ex⟩:=rn.wd;exact xr jC bG (f.blk J oM) rfl c7 rfl results166 ⟨⟨_,x,L,hx,by rw[ex]⟩,f.below (by have:=eA.out;omega) (aa.below (by have:=eA.out;omega) Y)⟩ rfl rfl rfl
 .obtain⟨m,rfl⟩:∃m,k=m+1:=⟨k - 1,oM⟩;have ac:aI d m≠0:=by rcases b5 with h|h;omega;exact h
  have bm:=aJ hB m;rw[(bH d).pv (show m<4 by omega)|>.1] at bm;have pm:(pv (wq d) m:Int)=aI d m:=by
   have:m=0\/m=1\/m=2\/m=3:=oM
   rcases this with rfl|rfl|rfl|rfl<;>exact aBG (bJ d _)
  rw[pm] at bm;have bh:=aG hB;have a1:IntKind.i64.wrap (((m+1:Nat):Int) - 1)=(m:Int):=by rw[IntWalk.i64_in _ ⟨oM,oM⟩];omega
  have a2:iw (m:Int)=(m:Int):=iW;have d5:(m:Int)<4:=oM
  have a3:¬((m:Int)+1=0):=oM
  have b2:=US ac;have b9:=US pm;clear pm b5 R ac;go_wp2_with fail;refine(Pf (aI d m) _ (by have:=bJ d m;have:=b2.out;omega) (bN d m)).mono ?_;rintro e d7 ⟨s,rfl,hs,ct,cl⟩;obtain rfl:=cl.symm;have⟨V2,E,J,eE,hE,r⟩:=G5 V1 (.ce wz 41);go_wp2_with fail;change Code.wp _ _ _ _ (V1.alloc (.ce wz 41));rw[<-J,eE.out];clear J;have bd:=bk r hA;have br:=bk r hB;have bj:=bk r hC;have bc:=bk r hD;have lE:D<E:=by have:=aG hD;have:=eE.out;omega
  have lW:W.heap.size<=A:=by have:=eA.out;omega
  have bt:=Y.tr (r.mono Y.size);have c1:=OP (t:=41) (n:=4) ((aC 41).tr underlying41);have b3:=OP (t:=254) (n:=8) ((aC 254).tr underlying254);have a9:=OP (t:=294) (n:=9) ((aC 294).tr underlying294);have su:=JX (W:=V2.drew) (R:=E) (D:=B) (o:=0) (p:=0) (n:=4) (m:=4) (k1:=4) (k2:=4) hE br (gV 4:UC 4 wz) (bH d) dC dC dC dC oM s hs;clear bm bh;refine rq (fun V=>True) trivial fun a=>?_;refine t3 0 1 2 a ?_;refine rA 3 fun K l=>?_;go_simp;apply(su).mono;rintro _ V3 ⟨rfl,dv,cc,a0,cv,f⟩;go_wp2_with fail;refine l.out _ _ trivial fun a=>?_;refine dn ?_;clear su;have ca:=f.blk (W:=V2.drew) bd oM;have cn:=f.blk (W:=V2.drew) bj oM;have cp:=f.blk (W:=V2.drew) bc oM;have ad:=f.below oM bt.drew;have bv:Shut (pv dv (0+m)≠0):=cv.out m oM (by rw[aAM,b9.out,IntKind.wrap_u64];have:=ct.out;generalize aI d m*2 ^ s=P at*;omega)
  have⟨V4,F,b0,eF,hF,u⟩:=G5 V3 (.ce #[vU 0,vU 0,vU 0,vU 0,vU 0,vU 0,vU 0,vU 0,vU 0] 294);go_wp2_with fail;change Code.wp _ _ _ _ (V3.alloc (.ce #[vU 0,vU 0,vU 0,vU 0,vU 0,vU 0,vU 0,vU 0,vU 0] 294));rw[<-b0,eF.out];clear b0;have ck:=bk u ca;have cy:=bk u cn;have bs:=bk u cp;have ch:=bk u a0;have lF:E<F:=by have:=aG a0;have:=eF.out;omega
  have cw:=ad.tr (u.mono ad.size);have sv:=JX (W:=V4.drew) (R:=F) (D:=A) (o:=0) (p:=0) (n:=8) (m:=9) (k1:=9) (k2:=8) hF ck (gV 9:UC 9 #[vU 0,vU 0,vU 0,vU 0,vU 0,vU 0,vU 0,vU 0,vU 0]) h dC dC dC dC oM s hs;refine rq (fun V=>True) trivial fun a=>?_;refine t3 0 1 2 a ?_;refine rA 3 fun K l=>?_;go_simp;apply(sv).mono;rintro _ V5 ⟨rfl,v,b,Z,_,H⟩;go_wp2_with fail;refine l.out _ _ trivial fun a=>?_;refine dn ?_;clear sv;have cd:=H.blk (W:=V4.drew) cy oM;have cs:=H.blk (W:=V4.drew) bs oM;have bb:=H.blk (W:=V4.drew) ch oM;have b4:=H.below oM cw.drew;have⟨V6,G,b6,eG,hG,t⟩:=G5 V5 (.ce zq8 254);have a4:iw (8 - ((m:Int)+1))=8 - ((m:Int)+1):=iW;go_wp2_with fail;change Code.wp _ _ _ _ (V5.alloc (.ce zq8 254));rw[<-b6,eG.out];clear b6;have bw:=bk t cd;have c6:=bk t cs;have b8:=bk t bb;have c5:=bk t Z;have lG:F<G:=by have:=aG Z;have:=eG.out;omega
  have c9:=b4.tr (t.mono b4.size);have L:UC 8 zq8:=gV 8;go_loopw [11] (fun i V=>∃(k:Int) (v cq:Ff),i=vI k/\ -1<=k/\k<=7 - m/\UC 9 v/\UC 8 cq/\V.heap[F]?=ob v 294/\V.heap[G]?=ob cq 254/\V.heap[E]?=ob dv 41/\V.heap[C]?=ob zq8 254/\V.heap[D]?=ob wz 41/\Bw W V) (fun i _=>(Go.RowKit.intOf i+1).toNat)
  case atStart=>exact⟨_,v,_,rfl,oM,oM,b,L,c5,hG,b8,bw,c6,c9⟩
  case round=>
   obtain⟨k,v,cq,rfl,R,d0,b,j,Q,S,a8,T,O,X⟩:=hrel;by_cases hk:0<=k
   .obtain⟨q,rfl⟩:=aAW hk;have a5:iw ((q:Int) - 1)=(q:Int) - 1:=iW;have a6:iw ((q:Int)+((m:Int)+1))=(q:Int)+((m:Int)+1):=iW;have a7:IntKind.i64.wrap ((q:Int)+((m:Int)+1)+1)=(q:Int)+((m:Int)+1+1):=by rw[IntWalk.i64_in _ ⟨oM,oM⟩];omega
    have q8:(q:Int)<8:=oM
    have sm:=B2 (t:=294) (n:=9) ((aC 294).tr underlying294) F q (m+1+1) oM oM;have st:=G4 (t:=41) (n:=4) ((aC 41).tr underlying41) E (m+1) oM;simp only[Int.natCast_add,Int.natCast_one] at sm st;have tm:=VK (W:=wr.drew) (R:=F) (D:=E) (o:=q) (p:=0) (n:=m) (k1:=9 - q) (k2:=4) Q a8 b cc oM oM dC oM bv.out;go_wp2_with fail;refine rq (fun V=>True) trivial fun a=>?_;refine t6 0 1 2 3 4 5 a ?_;refine t3 6 7 8 a ?_;refine rA 9 fun K l=>?_;go_simp;apply(tm).mono;rintro _ V8 ⟨d6,x,al,hx,rfl,bi,p⟩;have I:=p.blk (W:=wr.drew) S oM;have b7:=aG I;have c0:=aJ I q;have f0:=aQ I q;rw[(j.pv (show q<8 by omega)).1] at c0;go_wp2_with fail;refine l.out _ _ trivial fun a=>?_;refine t1 10 a ?_;refine rA 11 fun K l=>?_;go_simp;refine l.out _ _ trivial fun a=>?_;refine dn ?_;clear tm;have bz:=aO (i:=q) (v:=vU x) I;have cb:=aD (b:=G) (i:=q) (v:=vU x) bi oM;have cm:=aD (b:=G) (i:=q) (v:=vU x) (p.blk (W:=wr.drew) a8 oM) oM;have bo:=aD (b:=G) (i:=q) (v:=vU x) (p.blk (W:=wr.drew) T oM) oM;have bl:=aD (b:=G) (i:=q) (v:=vU x) (p.blk (W:=wr.drew) O oM) oM;have bn:Bw W (V8.setCell ⟨G,q,none⟩ (vU x)):=(p.below oM X.drew).setCell (by show W.heap.size<=G;omega) _;clear sm st c1 b3 a9 c0;go_wp2;go_roundw
    case rel=>exact⟨_,_,_,rfl,oM,oM,al,j.set q hx,cb,bz,cm,bo,bl,bn⟩
    case measure=>simp[Go.RowKit.intOf]
   .obtain rfl:k= -1:=oM
    have⟨x,hx,x0,x1,x2,x3⟩:=IS (pv v 0) (pv v 1) (pv v 2) (pv v 3) oM oM oM oM (by have:=(b.pv (show 0<9 by decide)).2;omega) (by have:=(b.pv (show 1<9 by decide)).2;omega) (by have:=(b.pv (show 2<9 by decide)).2;omega) (by have:=(b.pv (show 3<9 by decide)).2;omega);have y0:=US x0;have y1:=US x1;have y2:=US x2;have y3:=US x3;clear x0 x1 x2 x3;have ar:=B1 F;have sd:=fun w=>OM x s hs w;have b7:=aG S;have da:=aG Q;go_wp2_with fail;refine rq (fun V=>V.heap[G]?=ob cq 254/\V.heap[F]?=ob v 294) ⟨S,Q⟩ fun a=>?_;refine tD 0 48 (.agg cq) (fun V U=>?_) a ?_
    .exact OQ jC U.1 j.1
    refine t2 1 2 a ?_;refine tD 3 51 (.agg (wq x)) (fun V U=>?_) a ?_
    .have k0:=aJ U.2 0;have k1:=aJ U.2 1;have k2:=aJ U.2 2;have k3:=aJ U.2 3;rw[(b.pv (show 0<9 by decide)).1,<-y0.out] at k0;rw[(b.pv (show 1<9 by decide)).1,<-y1.out] at k1;rw[(b.pv (show 2<9 by decide)).1,<-y2.out] at k2;rw[(b.pv (show 3<9 by decide)).1,<-y3.out] at k3;clear U a;go_simp
    refine t1 4 a ?_;refine rA 5 fun K l=>?_;go_simp;apply(sd _).mono;rintro _ V8 ⟨⟨y,hy,rfl⟩,o⟩;have bf:=(o.block _ (aG (w:=wr.drew) T)).tr T;have bx:=(o.block _ (aG (w:=wr.drew) O)).tr O;go_wp2_with fail;refine l.out _ _ ⟨bk o a.1,bk o a.2⟩ fun a=>?_;refine rA 6 fun K l=>?_;rw[if_pos rI];refine OL jC j bf rfl fun V9 bg N=>l.out _ _ ⟨N.blk a.1 oM,N.blk a.2 oM⟩ (fun a=>?_);refine rA 7 fun K l=>?_;rw[if_pos rI];refine OL bG (bH y) (N.blk bx oM) rfl fun d9 b1 g=>l.out _ _ ⟨g.blk a.1 oM,g.blk a.2 oM⟩ (fun a=>?_);refine dn ?_;have⟨z,hz,ez⟩:=(bH y).wd;go_wp2;exact xr jC bG (g.blk bg oM) j.1 b1 rfl results166 ⟨⟨_,y,j,hy,rfl⟩,g.below oM (N.below oM (X.drew.tr (o.mono X.size)))⟩ rfl rfl rfl
def G7:wd 0=.agg wz:=by simp[wd,aI]
def Mf(e:Ending):Prop:=∃b,e=.returned (.bool b)
def uK(q:Bool)(W:WR):Cq 116 #[.bool q] W fun e b=>AO e/\Bw W b:=by
 have a:UC 4 wz:=gV 4;have c:UC 4 #[vU 1,vU 0,vU 0,vU 0]:=a.set 0 (v:=1) dC;cases q;all_goals
  go_enter (qz func116),ntmps116;go_wp2;simp[bodyPost,results,results116,go_sem]
 · exact⟨.of a,ba⟩
 · exact⟨.of c,ba⟩
def gN(a:Nat)(W:WR):Cq 169 #[wd a] W fun e b=>Mf e/\Bw W b:=by go_enter (qz func169),ntmps169;go_wp2;go_ret;exact⟨⟨_,rfl⟩,ba⟩
def wY(a:Nat)(m:a<M)(W:WR):Cq 170 #[wd a] W fun e l=>AO e/\Bw W l:=by
 change Cq 170 #[.agg (wq a)] W _;have h:=sub 0 a dC m;rw[G7] at h;obtain⟨n,A,B,d,f,k,j,i,c⟩:=G2 W (.cells (wq a) 41) (.cells wz 41);go_enter (qz func170),Tryz.ntmps170;go_wp2_with fail;change Calls _ _ _ ((W.alloc (.cells (wq a) 41)).alloc (.cells wz 41)) _;rw[<-d];try rw[k.out]
 rw[f.out];have p:A<B:=by have:=f.out;have:=k.out;exact oM
 clear d;refine(h _).mono ?_;rintro e o ⟨rfl,b⟩;clear h;replace j:=bk b j;replace i:=bk b i;replace c:=c.trans (b.mono c.size);clear b;go_wp2_with (refine iX bG (bH ((0+M - a) % M)) i rfl (fun V d g=>?_))
 exact eH bG d rfl Tryz.results170 ⟨.of (bH ((0+M - a) % M)),g.below (by have:=f.out;exact oM) c⟩
def RK(a:Nat)(p:a<M)(W:WR):Cq 168 #[wd a] W fun e k=>AO e/\Bw W k:=by
 change Cq 168 #[.agg (wq a)] W _;obtain⟨r,A,B,h,i,j,f,g,c⟩:=G2 W (.cells (wq a) 41) (.cells wz 41);go_enter (qz func168),Tryz.ntmps168;go_wp2_with fail;change Calls _ _ _ ((W.alloc (.cells (wq a) 41)).alloc (.cells wz 41)) _;rw[<-h];try rw[j.out]
 rw[i.out];have t:A<B:=by have:=i.out;have:=j.out;exact oM
 clear h;refine(gN a _).mono ?_;rintro e m ⟨⟨q,rfl⟩,b⟩;replace f:=bk b f;replace g:=bk b g;replace c:=c.trans (b.mono c.size);clear b;have l:=aG f;obtain⟨n,o,c2,c3⟩:=q4 f;cases q
 .go_wp2_with (refine iX bG (bH a) g rfl (fun V h d=>?_))
  exact eH bG h rfl Tryz.results168 ⟨.of (bH a),d.below (by have:=i.out;exact oM) c⟩
 .go_wp2_with fail;refine(wY a p _).mono ?_;rintro e m ⟨⟨x,s,rfl⟩,b⟩;clear n o c2 c3;replace f:=bk b f;replace g:=bk b g;replace c:=c.trans (b.mono c.size);clear b;go_wp2_with (refine iX bG (bH x) g rfl (fun V h d=>?_))
  exact eH bG h rfl Tryz.results168 ⟨.of (bH x),d.below (by have:=i.out;exact oM) c⟩
def rp(a b:Nat)(W:WR):Cq 107 #[wd a,wd b] W fun e o=>AO e/\Bw W o:=by
 change Cq 107 #[.agg (wq a),.agg (wq b)] W _;obtain⟨s,A,B,C,j,k,m,n,h,i,g,f⟩:=ON W (.cells (wq a) 41) (.cells (wq b) 41) (.cells wz 41);go_enter (qz func107),Tryz.ntmps107;go_wp2_with fail;change Calls _ _ _ (((W.alloc (.cells (wq a) 41)).alloc (.cells (wq b) 41)).alloc (.cells wz 41)) _;rw[<-j];try rw[n.out]
 try rw[m.out]
 rw[k.out];have u:A<B:=by have:=k.out;have:=m.out;exact oM
 have r:B<C:=by have:=m.out;have:=n.out;exact oM
 clear j;refine(JY a b _).mono ?_;rintro e p ⟨⟨c,q,rfl⟩,d⟩;replace h:=bk d h;replace i:=bk d i;replace g:=bk d g;replace f:=f.trans (d.mono f.size);clear d;go_wp2_with fail;refine(G3 q _).mono ?_;rintro e p ⟨⟨x,t,rfl⟩,d⟩;replace h:=bk d h;replace i:=bk d i;replace g:=bk d g;replace f:=f.trans (d.mono f.size);clear d;go_wp2_with (refine iX bG (bH x) g rfl (fun V j l=>?_))
 exact eH bG j rfl Tryz.results107 ⟨.of (bH x),l.below (by have:=k.out;exact oM) f⟩
def ex(i:Nat)(v:vZ):vZ:=match v with
 |.tuple a=>a.getD i undef
 |_=>undef
def ef(a b:vZ):ex 0 (.tuple #[a,b])=a:=rfl
def eh(a b:vZ):ex 1 (.tuple #[a,b])=b:=rfl
def e9{Q:Fg}{e:Nat}{f:Tmp}{c:Obj}(i:∀a w (K:Fi),K (a.put (some dA) (ptr w.heap.size)) (w.alloc oA)->wpOp P ops Q iA K a w:=by intro _ _ _ h;refine wpOp_step rfl (fun j b=>?_);go_simp;exact b _ _ h)(g:∀a w (K:Fi),K (a.put (some f) (ptr w.heap.size)) (w.alloc c)->wpOp P ops Q e K a w:=by intro _ _ _ h;refine wpOp_step rfl (fun j b=>?_);go_simp;exact b _ _ h):Rg P ops Q (fun W p=>W.heap[p]?=some oA) (fun W p=>W.heap[p]?=some c) iA e dA f oA c:=⟨i,g,fun w=>aM w _,fun w=>aM w _,fun _ _ _ _ d h=>bk d h,fun _ _ _ _ d h=>bk d h⟩
def WG{Q:Fg}(b:∀a w (K:Fi),K (a.put (some dA) (ptr w.heap.size)) (w.alloc oA)->wpOp P ops Q iA K a w:=by intro _ _ _ h;refine wpOp_step rfl (fun e c=>?_);go_simp;exact c _ _ h):Lg P ops Q (fun W p=>W.heap[p]?=some oA) iA dA oA:=⟨b,fun w=>aM w _,fun _ _ _ _ d h=>bk d h⟩
def dmF(n a b:Nat)(hn:n=108\/n=109)(W:WR):Cq n #[wd a,wd b] W fun e Q=>AO e/\Bw W Q:=by
 change Cq n #[.agg (wq a),.agg (wq b)] W _;obtain⟨U,A,B,C,s,D,H,P,hA,hB,m,i⟩:=ON W (.cells (wq a) 41) (.cells (wq b) 41) (.cells wz 41);rcases hn with rfl|rfl;go_enter (qz func108),Tryz.ntmps108;rotate_left;go_enter (qz func109),Tryz.ntmps109;rotate_left
 all_goals
  go_wp2_with fail;change Code.wp _ _ _ _ (((W.alloc (.cells (wq a) 41)).alloc (.cells (wq b) 41)).alloc (.cells wz 41));rw[<-s];try rw[P.out]
  try rw[H.out]
  rw[D.out];have lB:A<B:=by have:=D.out;have:=H.out;exact oM
  have lC:B<C:=by have:=H.out;have:=P.out;exact oM
  clear s;refine rq (fun V=>Bw U V) bR.drew fun d=>?_;refine tD 0 8 (.agg (wq a)) (fun V g=>?_) d ?_
  .have E:=bk g hA;clear g d;exact OQ bG E rfl
  refine tD 2 10 (.agg (wq b)) (fun V g=>?_) d ?_
  .have E:=bk g hB;clear g d;exact OQ bG E rfl
  refine Nd.start (f:=7) (iA:=7) (iB:=8) (dA:=5) (dB:=6) (oA:=.cells #[vU 0,vU 0,vU 0,vU 0,vU 0,vU 0,vU 0,vU 0] 254) (oB:=.cells wz 41) (L:=fun x y=>#[true,false,true,false,false,false,false,x,y,false,false]) e9 rfl ud ud rfl d fun R=>?_;refine Nd.step (c:=1) (d:=9) (φ:=fun v=>∃c,UC 8 c/\v=.agg c) (n:=0) (l:=fun v=>[]) (f':=6) (L':=fun x y=>#[true,true,true,false,false,false,false,x,y,false,false]) R rfl rfl sQ7 sQ3 sQ3 (fun _=>rfl) (fun _=>rfl) (fun X Y G K d f=>?_) (fun _ _ _ _ _ _ _ _ h=>h) fun v w=>?_
  .simp only[Act.put,aAA,aAD,aAE] at f⊢;clear R d;go_simp;refine(OO a 0 dC _).mono ?_;rintro e Z ⟨⟨c,N,rfl⟩,k⟩;go_wp2_with fail;exact f.out _ _ ⟨c,N,rfl⟩ k
  obtain⟨c,N,rfl⟩:=w;refine Nd.step (c:=3) (d:=11) (φ:=fun v=>∃q x,UC 8 q/\x<M/\v=.tuple #[.agg q,wd x]) (n:=3) (l:=fun v=>[(7,v),(12,ex 0 v),(13,ex 1 v)]) (f':=2) (L':=fun x y=>#[true,true,true,true,true,true,true,x,y,false,false]) R rfl rfl sQ7 sQ3 sQ3 (fun _=>rfl) (fun _=>rfl) (fun X Y G K d f=>?_) (fun v w l r X Y G d f=>?_) fun v w=>?_
  .simp only[gB,Act.put,aAA,aAD,aAE] at f⊢;clear R d;go_simp;refine(wX N b _).mono ?_;rintro e Z ⟨⟨q,x,o,I,rfl⟩,k⟩;go_wp2_with fail;exact f.out _ _ ⟨q,x,o,I,rfl⟩ k
  .obtain⟨q,x,o,I,rfl⟩:=w;simp only[gB,ef,eh,Act.put,aAA,aAD,aAE] at f⊢;clear R;refine tD 4 7 (.tuple #[.agg q,.agg (wq x)]) (fun V g=>?_) d ?_ (hr:=(by clear f;cases l<;>cases r<;>kernel_rfl)) (hf:=(by clear f;cases l<;>cases r<;>kernel_rfl))
   .clear g d f;go_simp
   refine tD 5 12 (.agg q) (fun V g=>?_) d ?_ (hr:=(by clear f;cases l<;>cases r<;>kernel_rfl)) (hf:=(by clear f;cases l<;>cases r<;>kernel_rfl))
   .clear g d f;go_simp
   refine tD 6 13 (.agg (wq x)) (fun V g=>?_) d ?_ (hr:=(by clear f;cases l<;>cases r<;>kernel_rfl)) (hf:=(by clear f;cases l<;>cases r<;>kernel_rfl))
   .clear g d f;go_simp
   exact f.out
  obtain⟨q,x,o,I,rfl⟩:=w;refine Nd.last (f:=1) R kR kR kR sQ3 sQ3 (fun _=>rfl) (fun _=>rfl) fun p p2 G d hp T a0 O S R5 R6=>?_;simp only[gB,ptr,ef,eh,Act.put,aAA,aAD,aAE];clear R;refine rA 9 fun K f=>?_;rw[if_pos rI];refine OL jC o R5 rfl fun V2 L t=>f.out _ _ (t.below oM d) (fun d=>?_);refine rA 10 fun K f=>?_;rw[if_pos rI];refine OL bG (bH x) (t.blk R6 oM) rfl fun V3 F z=>f.out _ _ (z.below oM d) (fun d=>?_);refine dn ?_
 .have h5:=z.blk L oM;go_wp2_with (refine pG jC h5 o.1 ?_)
  refine(G3 o _).mono ?_;rintro e V4 ⟨⟨y,hy,rfl⟩,J⟩;have u:=d.trans (J.mono d.size);replace m:=bk u m;replace i:=i.trans (u.mono i.size);go_wp2_with (refine iX bG (bH y) m rfl (fun V s j=>?_))
  exact eH bG s rfl Tryz.results108 ⟨.of (bH y),j.below (by have:=D.out;exact oM) i⟩
 .replace m:=bk d m;replace i:=i.trans (d.mono i.size);go_wp2_with (first| (refine pG bG F rfl ?_)| (refine iX bG (bH x) m rfl (fun V s j=>?_)))
  exact eH bG s rfl Tryz.results109 ⟨.of (bH x),j.below (by have:=D.out;exact oM) i⟩
def G8(a b:Nat)(W:WR):Cq 108 #[wd a,wd b] W fun e c=>AO e/\Bw W c:=dmF _ a b (.inl rfl) W
def G9(a b:Nat)(W:WR):Cq 109 #[wd a,wd b] W fun e c=>AO e/\Bw W c:=dmF _ a b (.inr rfl) W
def rr(a b c:Nat)(ha:a<M)(hB:b<M)(W:WR):Cq 112 #[wd a,wd b,wd c] W fun e w'=>AO e/\Bw W w':=by
 change Cq 112 #[.agg (wq a),.agg (wq b),.agg (wq c)] W _;have⟨V0,A,B,C,D,F,H,P,T,eD,hA,J,hC,I,z⟩:=VL W (.ce (wq a) 41) (.ce (wq b) 41) (.ce (wq c) 41) (.ce wz 41);go_enter (qz func112),ntmps112;go_wp2_with fail;change Code.wp _ _ _ _ ((((W.alloc (.ce (wq a) 41)).alloc (.ce (wq b) 41)).alloc (.ce (wq c) 41)).alloc (.ce wz 41));rw[<-F];try rw[eD.out]
 try rw[T.out]
 try rw[P.out]
 rw[H.out];have lB:A<B:=by have:=H.out;have:=P.out;omega
 have lC:B<C:=by have:=P.out;have:=T.out;omega
 have lD:C<D:=by have:=T.out;have:=eD.out;omega
 clear F;have su:U (((a+b) / M:Nat):Int):=by have:(a+b) / M<2:=Nat.div_lt_of_lt_mul oM;generalize(a+b) / M=t at*;unfold U;omega
 refine rq (fun V=>Bw V0 V) bR.drew fun g=>?_;refine tD 0 10 (.agg (wq a)) (fun V i=>?_) g ?_
 · have u:=bk i hA
   clear i g;exact OQ bG u rfl
 refine tD 1 11 (.agg (wq b)) (fun V i=>?_) g ?_
 · have u:=bk i J
   clear i g;exact OQ bG u rfl
 refine tD 6 16 (.agg (wq c)) (fun V i=>?_) g ?_
 · have u:=bk i hC
   clear i g;exact OQ bG u rfl
 refine Nd.start (f:=10) (iA:=11) (iB:=12) (dA:=7) (dB:=8) (oA:=.ce zq8 254) (oB:=.ce wz 41) (L:=fun x y=>#[true,true,false,false,false,false,true,false,false,false,false,x,y,false,false]) e9 rfl ud ud rfl g fun R=>?_;refine Nd.step (c:=2) (d:=12) (φ:=fun v=>∃o n,o<M/\U n/\v=.tuple #[wd o,vU n]) (n:=2) (l:=fun v=>[(13,ex 0 v),(14,ex 1 v)]) (f':=7) (L':=fun x y=>#[true,true,true,true,true,false,true,false,false,false,false,x,y,false,false]) R rfl rfl sQ7 sQ3 sQ3 (fun _=>rfl) (fun _=>rfl) (fun X Y w K g f=>?_) (fun v m j k X Y w g f=>?_) fun v m=>?_
 · simp only[Act.put,aAA,aAD,aAE] at f⊢
   clear R g;go_simp;apply(sum a b ha hB _).mono;rintro e Wq ⟨rfl,l⟩;go_wp2_with fail;exact f.out _ _ ⟨_,_,aBE _ dC,su,rfl⟩ l
 · obtain⟨o,n,O,s,rfl⟩:=m
   simp only[gB,ef,eh,Act.put,aAA,aAD,aAE] at f⊢;clear R;refine tD 3 13 (.agg (wq o)) (fun V i=>?_) g ?_ (hr:=(by clear f;cases j<;>cases k<;>kernel_rfl)) (hf:=(by clear f;cases j<;>cases k<;>kernel_rfl))
   .clear i g f;go_simp
   refine tD 4 14 (vU n) (fun V i=>?_) g ?_ (hr:=(by clear f;cases j<;>cases k<;>kernel_rfl)) (hf:=(by clear f;cases j<;>cases k<;>kernel_rfl))
   .clear i g f;go_simp
   exact f.out
 obtain⟨o,n,O,s,rfl⟩:=m;refine Nd.step (c:=5) (d:=15) (φ:=fun v=>∃d,UC 8 d/\v=.agg d) (n:=0) (l:=fun v=>[]) (f':=6) (L':=fun x y=>#[true,true,true,true,true,true,true,false,false,false,false,x,y,false,false]) R rfl rfl sQ7 sQ3 sQ3 (fun _=>rfl) (fun _=>rfl) (fun X Y w K g f=>?_) (fun _ _ _ _ _ _ _ _ h=>h) fun v m=>?_
 · simp only[gB,ef,eh,Act.put,aAA,aAD,aAE] at f⊢
   clear R g;go_simp;apply(OO o n s _).mono;rintro e Wq ⟨⟨d,G,rfl⟩,l⟩;go_wp2_with fail;exact f.out _ _ ⟨d,G,rfl⟩ l
 obtain⟨d,G,rfl⟩:=m;refine Nd.step (c:=7) (d:=17) (φ:=fun v=>∃q x,UC 8 q/\x<M/\v=.tuple #[.agg q,wd x]) (n:=3) (l:=fun v=>[(9,v),(18,ex 0 v),(19,ex 1 v)]) (f':=2) (L':=fun x y=>#[true,true,true,true,true,true,true,true,true,true,true,x,y,false,false]) R rfl rfl sQ7 sQ3 sQ3 (fun _=>rfl) (fun _=>rfl) (fun X Y w K g f=>?_) (fun v m j k X Y w g f=>?_) fun v m=>?_
 · simp only[gB,ef,eh,Act.put,aAA,aAD,aAE] at f⊢
   clear R g;go_simp;apply(wX G c _).mono;rintro e Wq ⟨⟨q,x,E,Q,rfl⟩,l⟩;go_wp2_with fail;exact f.out _ _ ⟨q,x,E,Q,rfl⟩ l
 · obtain⟨q,x,E,Q,rfl⟩:=m
   simp only[gB,ef,eh,Act.put,aAA,aAD,aAE] at f⊢;clear R;refine tD 8 9 (.tuple #[.agg q,.agg (wq x)]) (fun V i=>?_) g ?_ (hr:=(by clear f;cases j<;>cases k<;>kernel_rfl)) (hf:=(by clear f;cases j<;>cases k<;>kernel_rfl))
   .clear i g f;go_simp
   refine tD 9 18 (.agg q) (fun V i=>?_) g ?_ (hr:=(by clear f;cases j<;>cases k<;>kernel_rfl)) (hf:=(by clear f;cases j<;>cases k<;>kernel_rfl))
   .clear i g f;go_simp
   refine tD 10 19 (.agg (wq x)) (fun V i=>?_) g ?_ (hr:=(by clear f;cases j<;>cases k<;>kernel_rfl)) (hf:=(by clear f;cases j<;>cases k<;>kernel_rfl))
   .clear i g f;go_simp
   exact f.out
 obtain⟨q,x,E,Q,rfl⟩:=m;refine Nd.last (f:=1) R kR kR kR sQ3 sQ3 (fun _=>rfl) (fun _=>rfl) fun p p2 w g hp a1 a2 Z a0 R5 R6=>?_;simp only[gB,ptr,ef,eh,Act.put,aAA,aAD,aAE];clear R;refine rA 13 fun K f=>?_;rw[if_pos rI];refine OL jC E R5 rfl fun V2 a3 r=>f.out _ _ (r.below oM g) (fun g=>?_);refine rA 14 fun K f=>?_;rw[if_pos rI];refine OL bG (bH x) (r.blk R6 oM) rfl fun V3 L S=>f.out _ _ (S.below oM g) (fun g=>?_);refine dn ?_;replace I:=bk g I;replace z:=z.tr (g.mono z.size);go_wp2_with (first| (refine pG bG L rfl ?_)| (refine iX bG (bH x) I rfl (fun V F N=>?_)))
 exact eH bG F rfl results112 ⟨.of (bH x),N.below (by have:=H.out;omega) z⟩
def ru(a b c:Nat)(W:WR):Cq 113 #[wd a,wd b,wd c] W fun e Q=>AO e/\Bw W Q:=by
 change Cq 113 #[.agg (wq a),.agg (wq b),.agg (wq c)] W _;obtain⟨U,A,B,C,D,t,w,H,L,O,hA,hB,P,z,r⟩:=VL W (.cells (wq a) 41) (.cells (wq b) 41) (.cells (wq c) 41) (.cells wz 41);go_enter (qz func113),Tryz.ntmps113;go_wp2_with fail;change Code.wp _ _ _ _ ((((W.alloc (.cells (wq a) 41)).alloc (.cells (wq b) 41)).alloc (.cells (wq c) 41)).alloc (.cells wz 41));rw[<-t];try rw[O.out]
 try rw[L.out]
 try rw[H.out]
 rw[w.out];have lB:A<B:=by have:=w.out;have:=H.out;exact oM
 have lC:B<C:=by have:=H.out;have:=L.out;exact oM
 have lD:C<D:=by have:=L.out;have:=O.out;exact oM
 clear t;refine rq (fun V=>Bw U V) bR.drew fun f=>?_;refine tD 0 10 (.agg (wq a)) (fun V i=>?_) f ?_
 .have n:=bk i hA;clear i f;exact OQ bG n rfl
 refine tD 1 11 (.agg (wq b)) (fun V i=>?_) f ?_
 .have n:=bk i hB;clear i f;exact OQ bG n rfl
 refine tD 3 13 (.agg (wq c)) (fun V i=>?_) f ?_
 .have n:=bk i P;clear i f;exact OQ bG n rfl
 refine Nd.start (f:=7) (iA:=8) (iB:=9) (dA:=7) (dB:=8) (oA:=.cells #[vU 0,vU 0,vU 0,vU 0,vU 0,vU 0,vU 0,vU 0] 254) (oB:=.cells wz 41) (L:=fun x y=>#[true,true,false,true,false,false,false,false,x,y,false,false]) e9 rfl ud ud rfl f fun R=>?_;refine Nd.step (c:=2) (d:=12) (φ:=fun v=>∃d,UC 8 d/\v=.agg d) (n:=0) (l:=fun v=>[]) (f':=6) (L':=fun x y=>#[true,true,true,true,false,false,false,false,x,y,false,false]) R rfl rfl sQ7 sQ3 sQ3 (fun _=>rfl) (fun _=>rfl) (fun X Y G K f g=>?_) (fun _ _ _ _ _ _ _ _ h=>h) fun v o=>?_
 .simp only[Act.put,aAA,aAD,aAE] at g⊢;clear R f;go_simp;refine(JY a b _).mono ?_;rintro e Z ⟨⟨d,u,rfl⟩,j⟩;go_wp2_with fail;exact g.out _ _ ⟨d,u,rfl⟩ j
 obtain⟨d,u,rfl⟩:=o;refine Nd.step (c:=4) (d:=14) (φ:=fun v=>∃q x,UC 8 q/\x<M/\v=.tuple #[.agg q,wd x]) (n:=3) (l:=fun v=>[(9,v),(15,ex 0 v),(16,ex 1 v)]) (f':=2) (L':=fun x y=>#[true,true,true,true,true,true,true,true,x,y,false,false]) R rfl rfl sQ7 sQ3 sQ3 (fun _=>rfl) (fun _=>rfl) (fun X Y G K f g=>?_) (fun v o k l X Y G f g=>?_) fun v o=>?_
 .simp only[gB,Act.put,aAA,aAD,aAE] at g⊢;clear R f;go_simp;refine(wX u c _).mono ?_;rintro e Z ⟨⟨q,x,s,I,rfl⟩,j⟩;go_wp2_with fail;exact g.out _ _ ⟨q,x,s,I,rfl⟩ j
 .obtain⟨q,x,s,I,rfl⟩:=o;simp only[gB,ef,eh,Act.put,aAA,aAD,aAE] at g⊢;clear R;refine tD 5 9 (.tuple #[.agg q,.agg (wq x)]) (fun V i=>?_) f ?_ (hr:=(by clear g;cases k<;>cases l<;>kernel_rfl)) (hf:=(by clear g;cases k<;>cases l<;>kernel_rfl))
  .clear i f g;go_simp
  refine tD 6 15 (.agg q) (fun V i=>?_) f ?_ (hr:=(by clear g;cases k<;>cases l<;>kernel_rfl)) (hf:=(by clear g;cases k<;>cases l<;>kernel_rfl))
  .clear i f g;go_simp
  refine tD 7 16 (.agg (wq x)) (fun V i=>?_) f ?_ (hr:=(by clear g;cases k<;>cases l<;>kernel_rfl)) (hf:=(by clear g;cases k<;>cases l<;>kernel_rfl))
  .clear i f g;go_simp
  exact g.out
 obtain⟨q,x,s,I,rfl⟩:=o;refine Nd.last (f:=1) R kR kR kR sQ3 sQ3 (fun _=>rfl) (fun _=>rfl) fun p p2 G f hp T a0 N S R5 R6=>?_;simp only[gB,ptr,ef,eh,Act.put,aAA,aAD,aAE];clear R;refine rA 10 fun K g=>?_;rw[if_pos rI];refine OL jC s R5 rfl fun V2 a1 m=>g.out _ _ (m.below oM f) (fun f=>?_);refine rA 11 fun K g=>?_;rw[if_pos rI];refine OL bG (bH x) (m.blk R6 oM) rfl fun V3 E J=>g.out _ _ (J.below oM f) (fun f=>?_);refine dn ?_;replace z:=bk f z;replace r:=r.trans (f.mono r.size);go_wp2_with (first| (refine pG bG E rfl ?_)| (refine iX bG (bH x) z rfl (fun V t F=>?_)))
 exact eH bG t rfl Tryz.results113 ⟨.of (bH x),F.below (by have:=w.out;exact oM) r⟩
def aDu(n a b:Nat)(hn:n=110\/n=111)(ha:a<M)(hB:b<M)(W:WR):Cq n #[wd a,wd b] W fun e w'=>AO e/\Bw W w':=by
 change Cq n #[.agg (wq a),.agg (wq b)] W _;obtain⟨V0,A,B,C,o,z,S,eC,F,r,g,c⟩:=ON W (.cells (wq a) 41) (.cells (wq b) 41) (.cells wz 41);rcases hn with rfl|rfl;go_enter (qz func110),Tryz.ntmps110;rotate_left;go_enter (qz func111),Tryz.ntmps111;rotate_left
 all_goals
  go_wp2_with fail;change Code.wp _ _ _ _ (((W.alloc (.cells (wq a) 41)).alloc (.cells (wq b) 41)).alloc (.cells wz 41));rw[<-o];try rw[eC.out]
  try rw[S.out]
  rw[z.out];have lB:A<B:=by have:=z.out;have:=S.out;exact oM
  have lC:B<C:=by have:=S.out;have:=eC.out;exact oM
  clear o;refine rq (fun V=>Bw V0 V) bR.drew fun i=>?_;refine tD 0 6 (.agg (wq a)) (fun V u=>?_) i ?_
  .have P:=bk u F;clear u i;exact OQ bG P rfl
  refine tD 2 8 (.agg (wq b)) (fun V u=>?_) i ?_
  .have P:=bk u r;clear u i;exact OQ bG P rfl
  refine JW.start (f:=4) (iA:=5) (dA:=5) (oA:=.cells wz 41) (L:=fun x=>#[true,false,true,false,false,x,false]) WG rfl ud rfl i fun R=>?_;refine JW.step (c:=1) (d:=7) (φ:=fun v=>∃H,H<M/\v=wd H) (n:=0) (l:=fun v=>[]) (f':=3) (L':=fun x=>#[true,true,true,false,false,x,false]) R rfl rfl sQ8 sQ3 rfl (fun X Q K i k=>?_) (fun _ _ _ _ _ _ h=>h) fun v L=>?_
  .simp only[Act.put,aAA,aAD,aAE] at k⊢;clear R i;go_simp;refine(RK a ha _).mono ?_;rintro e U ⟨⟨H,J,rfl⟩,t⟩;go_wp2_with fail;exact k.out _ _ ⟨H,J,rfl⟩ t
  obtain⟨H,J,rfl⟩:=L;refine JW.step (c:=3) (d:=9) (φ:=fun v=>∃G,G<M/\v=wd G) (n:=0) (l:=fun v=>[]) (f':=2) (L':=fun x=>#[true,true,true,true,false,x,false]) R rfl rfl sQ8 sQ3 rfl (fun X Q K i k=>?_) (fun _ _ _ _ _ _ h=>h) fun v L=>?_
  .simp only[gB,Act.put,aAA,aAD,aAE] at k⊢;clear R i;go_simp;refine(RK b hB _).mono ?_;rintro e U ⟨⟨G,I,rfl⟩,t⟩;go_wp2_with fail;exact k.out _ _ ⟨G,I,rfl⟩ t
  obtain⟨G,I,rfl⟩:=L;refine JW.step (c:=4) (d:=10) (φ:=fun v=>∃l,l<M/\v=wd l) (n:=0) (l:=fun v=>[]) (f':=1) (L':=fun x=>#[true,true,true,true,true,x,false]) R rfl rfl sQ8 sQ3 rfl (fun X Q K i k=>?_) (fun _ _ _ _ _ _ h=>h) fun v L=>?_
  .simp only[gB,Act.put,aAA,aAD,aAE] at k⊢;clear R i;go_simp;refine(dmF _ H G (by decide) _).mono ?_;rintro e U ⟨⟨l,q,rfl⟩,t⟩;go_wp2_with fail;exact k.out _ _ ⟨l,q,rfl⟩ t
  obtain⟨l,q,rfl⟩:=L;refine JW.last (f:=1) R kR sQ3 rfl fun p Q i hp a0 R5=>?_;simp only[gB,ptr,Act.put,aAA,aAD,aAE];clear R;refine rA 6 fun K k=>?_;rw[if_pos rI];refine OL bG (bH l) R5 rfl fun V2 f O=>k.out _ _ (O.below oM i) (fun i=>?_);refine dn ?_;replace F:=bk i F;replace r:=bk i r;have lp:C<p:=aAy (aG g) hp;replace g:=bk i g;replace c:=c.trans (i.mono c.size)
 .go_wp2_with fail;refine rq (fun V=>V.heap[A]?=ob (wq a) 41/\V.heap[B]?=ob (wq b) 41) ⟨F,r⟩ fun s=>?_;refine tV 0 (fun _ u=>q4 (u.1)) s ?_;refine tV 2 (fun _ u=>q4 (u.2)) s ?_;refine rA 1 fun K k=>?_;go_simp;refine(gN a _).mono ?_;rintro e V4 ⟨⟨E,rfl⟩,w⟩;go_wp2_with fail;refine k.out _ _ ⟨bk w s.1,bk w s.2⟩ fun s=>?_;refine rA 3 fun K k=>?_;go_simp;refine(gN b _).mono ?_;rintro e Y ⟨⟨N,rfl⟩,m⟩;go_wp2_with fail;refine k.out _ _ ⟨bk m s.1,bk m s.2⟩ fun s=>?_;refine rA 4 fun K k=>?_;go_simp;refine k.out _ _ s fun s=>?_;refine dn ?_;have D:Bw V2 Y:=bR.drew.trans (w.trans (m.mono w.size));replace f:=bk D f;replace g:=bk D g;replace c:=c.trans (D.mono c.size);clear s F r;have hq:E=N\/E≠N:=by cases E<;>cases N<;>simp
  cases E<;>cases N
  .go_wp2_with (first| (refine pG bG f rfl ?_)| (refine iX bG (bH l) g rfl (fun V o d=>?_)))
   exact eH bG o rfl Tryz.results110 ⟨.of (bH l),d.below (by have:=z.out;exact oM) c⟩
  .go_wp2_with (refine pG bG f rfl ?_)
   refine(wY l q _).mono ?_;rintro e T ⟨⟨y,Z,rfl⟩,j⟩;replace g:=bk j g;replace c:=c.trans (j.mono c.size);go_wp2_with (refine iX bG (bH y) g rfl (fun V o d=>?_))
   exact eH bG o rfl Tryz.results110 ⟨.of (bH y),d.below (by have:=z.out;exact oM) c⟩
  .go_wp2_with (refine pG bG f rfl ?_)
   refine(wY l q _).mono ?_;rintro e T ⟨⟨y,Z,rfl⟩,j⟩;replace g:=bk j g;replace c:=c.trans (j.mono c.size);go_wp2_with (refine iX bG (bH y) g rfl (fun V o d=>?_))
   exact eH bG o rfl Tryz.results110 ⟨.of (bH y),d.below (by have:=z.out;exact oM) c⟩
  .go_wp2_with (first| (refine pG bG f rfl ?_)| (refine iX bG (bH l) g rfl (fun V o d=>?_)))
   exact eH bG o rfl Tryz.results110 ⟨.of (bH l),d.below (by have:=z.out;exact oM) c⟩
 .go_wp2_with (refine pG bG F rfl ?_)
  refine(gN a _).mono ?_;rintro e Y ⟨⟨E,rfl⟩,m⟩;replace f:=bk m f;replace g:=bk m g;replace c:=c.trans (m.mono c.size);cases E
  .go_wp2_with (first| (refine pG bG f rfl ?_)| (refine iX bG (bH l) g rfl (fun V o d=>?_)))
   exact eH bG o rfl Tryz.results111 ⟨.of (bH l),d.below (by have:=z.out;exact oM) c⟩
  .go_wp2_with (refine pG bG f rfl ?_)
   refine(wY l q _).mono ?_;rintro e T ⟨⟨y,Z,rfl⟩,j⟩;replace g:=bk j g;replace c:=c.trans (j.mono c.size);go_wp2_with (refine iX bG (bH y) g rfl (fun V o d=>?_))
   exact eH bG o rfl Tryz.results111 ⟨.of (bH y),d.below (by have:=z.out;exact oM) c⟩
def Ha(a b:Nat)(d:a<M)(f:b<M)(W:WR):Cq 110 #[wd a,wd b] W fun e c=>AO e/\Bw W c:=aDu _ a b (.inl rfl) d f W
def Hb(a b:Nat)(d:a<M)(f:b<M)(W:WR):Cq 111 #[wd a,wd b] W fun e c=>AO e/\Bw W c:=aDu _ a b (.inr rfl) d f W
end
end Go.Mark
namespace Go.Mark
open Go.RowKit Go.Proofs Go.Shelf
namespace M64
theorem gk(a:Nat)(ha:a<18446744073709551616):bits .and .u64 (a:Int) 4294967295=((a % 4294967296:Nat):Int):=by
 have h:=bits_and_u64_nat a 4294967295 ha oM;have e:a &&& 4294967295=a % 4294967296:=Nat.and_two_pow_sub_one_eq_mod a 32;rw[e] at h;exact h
theorem M2(a:Nat):(a:Int) / 4294967296=((a / 4294967296:Nat):Int):=oM
theorem M3(a b:Nat):(a:Int)*(b:Int)=((a*b:Nat):Int):=(Int.natCast_mul a b).symm
theorem M4(a b:Nat):(a:Int)+(b:Int)=((a+b:Nat):Int):=(Int.natCast_add a b).symm
theorem vY(a:Nat)(ha:a<18446744073709551616):IntKind.u64.wrap (a:Int)=(a:Int):=by rw[IntKind.wrap_u64];omega
theorem H7(a:Nat):IntKind.u64.wrap (a:Int)=((a % 18446744073709551616:Nat):Int):=by rw[IntKind.wrap_u64];omega
end M64
theorem Ch(x y:Nat)(hx:x<18446744073709551616)(hy:y<18446744073709551616)(w:World):
  Calls zQ.prog 237 #[.int .u64 x,.int .u64 y] w fun e w'=>e=.returned (.tuple #[.int .u64 ((x*y / 18446744073709551616:Nat):Int),.int .u64 ((x*y % 18446744073709551616:Nat):Int)])/\w'=w:=by
 obtain⟨bd,bt,bw,hhi⟩:=Lib.mul64_hi x y hx hy;have ba:=Lib.half_mul_le (a:=x / 4294967296) (b:=y / 4294967296) oM oM;have bb:=Lib.half_mul_le (a:=x / 4294967296) (b:=y % 4294967296) oM oM;have bc:=Lib.half_mul_le (a:=x % 4294967296) (b:=y / 4294967296) oM oM;have ba':x / 4294967296*(y / 4294967296)<18446744073709551616:=oM
 have bb':x / 4294967296*(y % 4294967296)<18446744073709551616:=oM
 have bc':x % 4294967296*(y / 4294967296)<18446744073709551616:=oM
 have bh1:x / 4294967296*(y / 4294967296)+(x / 4294967296*(y % 4294967296)+x % 4294967296*(y % 4294967296) / 4294967296) / 4294967296<18446744073709551616:=oM
 have bh:x / 4294967296*(y / 4294967296)+(x / 4294967296*(y % 4294967296)+x % 4294967296*(y % 4294967296) / 4294967296) / 4294967296+((x / 4294967296*(y % 4294967296)+x % 4294967296*(y % 4294967296) / 4294967296) % 4294967296+x % 4294967296*(y / 4294967296)) / 4294967296<18446744073709551616:=oM
 go_enter (qz Tryz.func237),Tryz.ntmps237;go_wp2;simp only[M64.gk x hx,M64.gk y hy,M64.M2,M64.M3,M64.M4,M64.vY _ bd,M64.vY _ bb',M64.vY _ bt,M64.gk _ bt,M64.vY _ bc',M64.vY _ bw,M64.vY _ ba',M64.vY _ bh1,M64.vY _ bh,M64.H7 (x*y)];rw[hhi]
 go_ret2
 exact⟨rfl,rfl⟩
theorem s7(x y:Nat)(hx:x<18446744073709551616)(hy:y<18446744073709551616)(w:World):
  Calls zQ.prog 237 #[.int .u64 x,.int .u64 y] w fun e w'=>∃hi lo:Nat,e=.returned (.tuple #[.int .u64 hi,.int .u64 lo])/\Shut (hi*18446744073709551616+lo=x*y)/\lo<18446744073709551616/\w'=w:=
 (Ch x y hx hy w).mono fun _ _ ⟨he,hw⟩=>⟨_,_,he,Nat.div_add_mod' _ _,Nat.mod_lt _ dC,hw⟩
theorem VX(p hi lo s t:Nat)(hp:hi*18446744073709551616+lo=p)(_hlo:lo<18446744073709551616)(_hs:s<18446744073709551616)(_ht:t<18446744073709551616)(_hb:p<=340282366920938463426481119284349108225):
  IntKind.u64.wrap (IntKind.u64.wrap ((hi:Int)+((lo:Int)+(s:Int)) / 18446744073709551616)+(((lo:Int)+(s:Int)) % 18446744073709551616+(t:Int)) / 18446744073709551616)=(((p+s+t) / 18446744073709551616:Nat):Int):=by
 rw[IntKind.wrap_u64,IntKind.wrap_u64];omega
theorem VY(p hi lo s t:Nat)(hp:hi*18446744073709551616+lo=p):
  ((lo:Int)+(s:Int)+(t:Int)) % 18446744073709551616=(((p+s+t) % 18446744073709551616:Nat):Int):=by
 omega
theorem s9(x y s t:Nat)(hx:x<18446744073709551616)(hy:y<18446744073709551616)(hs:s<18446744073709551616)(ht:t<18446744073709551616)(w:World):
  Calls zQ.prog 206 #[.int .u64 x,.int .u64 y,.int .u64 s,.int .u64 t] w fun e w'=>e=.returned (.tuple #[.int .u64 (((x*y+s+t) / 18446744073709551616:Nat):Int),.int .u64 (((x*y+s+t) % 18446744073709551616:Nat):Int)])/\w'=w:=by
 have hp:x*y<=340282366920938463426481119284349108225:=Nat.mul_le_mul (Nat.le_of_lt_succ hx) (Nat.le_of_lt_succ hy);go_enter (qz Tryz.func206),Tryz.ntmps206;go_wp2_with fail
 refine(s7 x y hx hy _).mono ?_;rintro e w' ⟨hi,lo,rfl,HE,hlo,rfl⟩;have k2:0<=((lo:Int)+(s:Int)) % 18446744073709551616:=oM
 have k1:∀w,(callFunc 142 #[.int .u64 (lo:Int),.int .u64 (s:Int),.int .u64 0]).run zQ.prog w=.ok (.value (.tuple #[.int .u64 (((lo:Int)+(s:Int)) % 18446744073709551616),.int .u64 (((lo:Int)+(s:Int)) / 18446744073709551616)])) w:=fun w=>by rw[QJ lo s 0 (Int.natCast_nonneg _) (Int.natCast_nonneg _) (Int.le_refl _) dC w,Int.add_zero]
 have k3:∀w,(callFunc 142 #[.int .u64 (((lo:Int)+(s:Int)) % 18446744073709551616),.int .u64 (t:Int),.int .u64 0]).run zQ.prog w=.ok (.value (.tuple #[.int .u64 ((((lo:Int)+(s:Int)) % 18446744073709551616+(t:Int)) % 18446744073709551616),.int .u64 ((((lo:Int)+(s:Int)) % 18446744073709551616+(t:Int)) / 18446744073709551616)])) w:=fun w=>by rw[QJ _ t 0 k2 (Int.natCast_nonneg _) (Int.le_refl _) dC w,Int.add_zero]
 go_wp2;rw[VX (x*y) hi lo s t HE.out hlo hs ht hp,VY (x*y) hi lo s t HE.out]
 go_ret2
 exact⟨rfl,rfl⟩
end Go.Mark
