import Derived.Test.YtbephahokhnccaaGreatDoorJ18
set_option linter.all false
set_option maxRecDepth 100000
set_option maxHeartbeats 16000000
namespace Go.Mark
open Go.RowKit Go.Proofs Go.Proofs.Tryz
variable{ops:DQ}{L:Bool->Bool->Array Bool}{C:Kc}{S R:K4}{X:K3}{f g b n2 n0 c iA gm cap iB:Nat}{Z:Obj}{P:K5}{sv mv:SV}{s:St}{dA dB:Tmp}{T:vZ->vZ->Act}{W V W' w:WR}{F:fC}
section
variable [aB]
attribute [local go_sem] wd
def zI(a:Int)(t:Nat)(tx:Lp):K3:=[.int .i64 a,.int .u64 (aI t 0),.int .u64 (aI t 1),.int .u64 (aI t 2),.int .u64 (aI t 3),.string tx]
def YR.below{y:SV}(h:YR W y)(d:Bw W W'):YR W' y:=
 h.imp id fun⟨g,o,c,b,a,h3⟩=>⟨g,o,c,b,bk d a,h3⟩
def Mi.Mn(h:Mi W C s)(f:LF W' C.l C.m C.d s.cr s.A s.D s.J){lg:SV}{d:K3}(k:W'.heap[C.mc]?=ob (aZ C.l lg s.back s.depth) 165)(g:W'.ownsRow aB.b0 95 6 (.slice lg.a lg.n lg.c) (s.N+1) (s.xs++d))(j:∀u∈d,u.oneCell'=true)(e:Px [165,95] W W'):Mi W' C {s with N:=s.N+1,xs:=s.xs++d,c:=s.c+1}/\Ex 1 s {s with N:=s.N+1,xs:=s.xs++d,c:=s.c+1}:=by have a:=h.Pj (c':=s.c+1) oM;exact⟨⟨f,⟨lg,k,g⟩,h.wT,h.ge.px e,fun i b v m=>(a.av i b v m).px e dC lR,a.sup,a.bj,⟨by have:=h.bn.1;show s.N+1<=s.c+1;omega,fun u l=>(aAL.1 l).elim (h.bn.2 u) (j u)⟩,a.bc,a.bb,h.bd⟩,⟨(mI.refl _ _ _).mono (aBa _),⟨by show s.c<=s.c+1;omega,aAz _⟩,by show s.N<=s.N+1;omega,by show(s.xs++d).take s.xs.length=s.xs;simp,rfl,aBq _⟩⟩
def Hp(h:dT W f F sv mv S X)(P:Mi W C s)(R:F.m=C.mc)(a n t:Nat)(hn:n<M)(hX:X.length<1073741824)(hw:Wi a n X.length)(hc:s.c<100000000):
   Cq 303 #[pq f 0,wd a,wd n,wd t] W fun e w'=>e=rU/\∃s',Mi w' C s'/\Ex 1 s s'/\Px LM W w':=by
 have⟨lg,b0,a1⟩:=P.mc;have al:aB.b0<=W.heap.size:=P.ge.low;have hN:s.N<100000001:=by have:=P.bn.1;omega
 have⟨i,z,hi,hz,hs,a9,ac⟩:=OR;have q:Bw W (((W.alloc (.ce (wq a) 41)).alloc (.ce (wq n) 41)).alloc (.ce (wq t) 41)):=((ba).tr ((ba).mono sI)).tr ((ba).mono sQ0);have a3:=bk q h.fc;have a2:=bk q b0;have Q:(((W.alloc (.ce (wq a) 41)).alloc (.ce (wq n) 41)).alloc (.ce (wq t) 41)).heap[W.heap.size]?=ob (wq a) 41:=aT (aT (aM W _));have T:(((W.alloc (.ce (wq a) 41)).alloc (.ce (wq n) 41)).alloc (.ce (wq t) 41)).heap[W.heap.size+1]?=ob (wq n) 41:=aT (by have:=aM (W.alloc (.ce (wq a) 41)) (.ce (wq n) 41);simpa using this);have Z:(((W.alloc (.ce (wq a) 41)).alloc (.ce (wq n) 41)).alloc (.ce (wq t) 41)).heap[W.heap.size+2]?=ob (wq t) 41:=by have:=aM ((W.alloc (.ce (wq a) 41)).alloc (.ce (wq n) 41)) (.ce (wq t) 41);simpa using this
 go_enter (qz func303),ntmps303;go_wp2_with fail;change Code.wp _ _ _ _ (((W.alloc (.ce (wq a) 41)).alloc (.ce (wq n) 41)).alloc (.ce (wq t) 41));generalize(((W.alloc (.cells (wq a) 41)).alloc (.cells (wq n) 41)).alloc (.cells (wq t) 41))=V1 at q a3 a2 Q T Z⊢;refine sk (S:=fun V=>V.heap[f]?=ob (iE F sv mv) 225/\V.heap[C.mc]?=ob (aZ C.l lg s.back s.depth) 165/\V.heap[W.heap.size]?=ob (wq a) 41/\V.heap[W.heap.size+1]?=ob (wq n) 41/\V.heap[W.heap.size+2]?=ob (wq t) 41) 29 kR ⟨a3,a2,Q,T,Z⟩ fun b=>?_;refine tF 0 b ?_;refine tF 1 b ?_;refine tF 2 b ?_;refine tE 3 11 (pq C.mc 0) (fun V d=>?_) b ?_
 .have H:=bq (d.1) 0;rw[R] at H;clear d b;go_simp
 refine tF 4 b ?_;refine tF 5 b ?_;refine tF 6 b ?_;refine tE 7 15 (pq C.mc 0) (fun V d=>?_) b ?_
 .have H:=bq (d.1) 0;rw[R] at H;clear d b;go_simp
 refine tF 8 b ?_;refine tF 9 b ?_;refine tE 10 18 (.sl lg.a lg.n lg.c) (fun V d=>?_) b ?_
 .have H:=bq (d.2.1) 1;clear d b;go_simp
 refine tF 11 b ?_;refine tF 12 b ?_;refine tF 13 b ?_;refine tE 14 22 (vI F.self) (fun V d=>?_) b ?_
 .have H:=bq (d.1) 6;clear d b;go_simp
 refine tE 15 23 (.agg (wq t)) (fun V d=>?_) b ?_
 .obtain⟨H,k1,k2,k3⟩:=q4 (d.2.2.2.2);clear d b;go_simp
 refine tF 16 b ?_;refine tF 17 b ?_;refine tF 18 b ?_;refine tE 19 27 (.sl mv.a mv.n mv.c) (fun V d=>?_) b ?_
 .have H:=bq (d.1) 15;clear d b;go_simp
 refine tE 20 28 (.agg (wq a)) (fun V d=>?_) b ?_
 .obtain⟨H,k1,k2,k3⟩:=q4 (d.2.2.1);clear d b;go_simp
 refine tE 21 29 (.agg (wq n)) (fun V d=>?_) b ?_
 .obtain⟨H,k1,k2,k3⟩:=q4 (d.2.2.2.1);clear d b;go_simp
 refine rB 22 fun K B=>?_;go_simp;apply(zD (h.below q.drew) a n hn hX hw).mono;rintro e r ⟨⟨y,rfl,hy,b1⟩,o⟩;clear b1;go_wp2_with fail;refine B.out _ _ ⟨bk o b.1,bk o b.2.1,bk o b.2.2.1,bk o b.2.2.2.1,bk o b.2.2.2.2⟩ fun b=>?_;have ar:YR r y:=hy.below o;refine rB 23 fun K B=>?_;have⟨tx,a5,b3⟩:=zC ar;clear a5;go_simp;refine B.out _ _ b fun b=>?_;refine tF 24 b ?_;have p:Bw r (r.alloc (.ce (zI F.self t tx).toArray 95)):=ba;refine rB 25 fun K B=>?_;go_simp;refine B.out _ (r.alloc (.ce (zI F.self t tx).toArray 95)) ⟨bk p b.1,bk p b.2.1,bk p b.2.2.1,bk p b.2.2.2.1,bk p b.2.2.2.2⟩ fun b=>?_;have m:∀(j:Nat) (v:vZ),(zI F.self t tx)[j]?=some v->(r.alloc (.ce (zI F.self t tx).toArray 95)).cA r.heap.size (0+j)=some v:=fun j v hj=>fW r (zI F.self t tx) 95 j v hj;have Y:=q.drew.tr (o.mono q.size);have G:=Y.tr (p.mono Y.size);have l:=dI a1 G;have a7:(r.alloc (.ce (zI F.self t tx).toArray 95)).heap.size=r.heap.size+1:=sI
 have I:aB.b0<=(r.alloc (.ce (zI F.self t tx).toArray 95)).heap.size:=aAw al G.size;obtain⟨zB,a4⟩:∃zB,r.heap.size=zB:=⟨_,rfl⟩;rw[a4] at m⊢;generalize r.alloc (.cells (zI F.self t tx).toArray 95)=W3 at p b m G l a7 I⊢;refine rB 26 fun K B=>?_;rw[if_pos rI];refine gU W3 _ _ 32 rfl aB.b0 95 i z 6 56 ((aC 32).tr underlying32) hi hz hs a9 ac oM (.sl lg.a lg.n lg.c) s.N s.xs rfl l ⟨zB,0,none⟩ 1 1 (zI F.self t tx) rfl rfl (fun j v hj=>by rw[Addr.add_mid];exact m j v hj) (fun v hv=>by simp only[zI,aAx,aAC,or_false] at hv;rcases hv with rfl|rfl|rfl|rfl|rfl|rfl<;>rfl) oM sQ9 oM I _ rfl ?_;intro g cap W4 x A b4 b2 O;have E:∀(k:Nat) (c:Ff) (ty:Fh),W3.heap[k]?=ob c ty->ty≠95->W4.heap[k]?=ob c ty:=fun k c ty N aa=>(A.block k (aG N) (fun e=>by have⟨a8,D⟩:=cL l k e.symm;exact dP D N (fun e=>aa e.symm) rfl)).tr N;refine B.out _ _ ⟨E _ _ _ b.1 dC,E _ _ _ b.2.1 dC,E _ _ _ b.2.2.1 dC,E _ _ _ b.2.2.2.1 dC,E _ _ _ b.2.2.2.2 dC⟩ fun b=>?_;refine rB 27 fun K B=>?_;go_simp;refine B.out _ _ b fun b=>?_;refine tF 28 b ?_;have w:=b.2.1;have c1:=bq w 1;have f1:=aQ w 1;refine rC fun K B=>?_;go_simp;refine B.out _ _ ?_;refine dk kR ?_ _;show bodyPost zQ.prog f303 _ Exit.normal _ _;simp[bodyPost,results,results303,go_sem];have a0:(aB.lo 95)<=aB.b0:=by simp[aB.lo]
 have U:=aO (i:=1) (v:=.sl (some (ad g 0)) (s.N+1) cap) w;have p1:Px [165,95] W W3:=Px.aF G _;have p2:Px [165,95] W3 W4:=(aU.grown A a0 l O).px (fun k N=>by cases N) (fun t ht=>by simp at ht;simp[ht]);have p3:=wZ (T:=[165,95]) w U (aU.setCell W4 C.mc 1 _) (fun t ht=>by cases ht) dC P.wT;have L:=p1.tr (p2.tr p3);have a6:=dM x fun k N=>heap_setCell_other W4 ⟨C.mc,1,none⟩ k (.sl (some (ad g 0)) (s.N+1) cap) (fun e=>by have⟨a8,D⟩:=cL x k N;exact dP D w dC e)
 have J:=P.Mn (P.lf.XV L dC) (lg:=⟨some ⟨g,0,none⟩,s.N+1,cap⟩) U a6 (fun u hu=>by simp only[zI,aAx,aAC,or_false] at hu;rcases hu with rfl|rfl|rfl|rfl|rfl|rfl<;>rfl) L;exact⟨_,J.1,J.2,L.mono dC⟩
def Mo(p:Pd W C s f F sv mv S X g b n2)(q:2<=b)(z:3<=S.length)(u:Wi (tw S 1) (tw S 2) X.length):Cq 263 #[pq f 0,vB 50] W fun e m=>Dn W C s f F X g b e m:=by go_enter (qz func263),ntmps263;go_wp2_with fail;refine rq (fun V=>True) trivial fun c=>?_;refine t6 0 1 2 3 5 6 c ?_;refine t4 7 9 10 11 c ?_;refine rA 4 fun K a=>?_;go_simp;apply(gA p.drew.fr oM).mono;rintro e w1 ⟨rfl,⟨v,k⟩,d⟩;go_wp2_with fail;refine a.out _ _ trivial fun c=>?_;refine rA 8 fun K a=>?_;go_simp;refine(gA k (by rw[aAt];omega)).mono ?_;rintro e w2 ⟨rfl,⟨t,w⟩,i⟩;go_wp2_with fail;refine a.out _ _ trivial fun c=>?_;refine rA 12 fun K a=>?_;go_simp;refine(gA w (by rw[aAt,aAt];omega)).mono ?_;rintro e w3 ⟨rfl,⟨r,l⟩,h⟩;go_wp2_with fail;refine a.out _ _ trivial fun c=>?_;have n:=((p.drew.mi.px d dC).px i dC).px h dC;refine rA 13 fun K a=>?_;go_simp;refine(Hp l n p.fm (tw S 1) (tw S.dropLast 1) (tw S.dropLast.dropLast 1) (eO k 1) p.xl (by rw[cN dC oM];exact u) (by have:=p.cl;omega)).mono ?_;rintro e w4 ⟨rfl,y,x,o,j⟩;go_wp2_with fail;refine a.out _ _ trivial fun c=>?_;refine dn ?_;go_wp2;go_ret;exact .inl ⟨rfl,.Ho p q (l.px j dC) (by simp;have:=p.sl;omega) x o ((Px.aF bR.drew _).tr ((d.mono dC).tr ((i.mono dC).tr ((h.mono dC).tr (j.mono dC)))))⟩
def OS{o n:Nat}(h:32<=c):(Instr.sliceAt 223 (.slice (some ⟨g,o,none⟩) n c) none (some (.int .i64 32)) none).run zQ.prog W=.ok (.slice (some ⟨g,o,none⟩) 32 c) W:=by
 have a:¬c=0:=oM
 have h3:(32:Int)<=(c:Int):=oM
 simp[Instr.sliceAt,Instr.slice,Instr.sliceBounds,Instr.sliceBound,run_underlying VE,asIntOf,a,h3,Addr.add_lit]
def B4(p:Pd W C s f F sv mv S X g b n2)(hS:1<=S.length)(R:tw S 1+32<=X.length):
   Cq 299 #[pq f 0,vB 41] W fun e D=>e=rU/\∃A H,dT D f F A mv H X/\H.length=S.length/\Px [225,41] W D:=by
 have M:=p.xl;obtain⟨gm,cap,Q,rfl,a0,G,m,Y,x⟩:=p.fr.row oM;obtain⟨a,z⟩:∃a,a=tw S 1:=⟨_,rfl⟩;rw[<-z] at R;have B:a<X.length:=oM
 have n:32<=cap - a:=oM
 have O:aI (tw S 1) 0=(a:Int):=by rw[<-z];exact(eL a oM).1
 have L:=fun a b c d w=>CU a b c d w;have U:=aG p.fr.fc;have E:=gA p.fr hS;clear z;go_enter (qz func299),ntmps299;go_wp2_with fail;apply E.mono;rintro e w1 ⟨rfl,⟨Z,q⟩,j⟩;clear E;have v:RB w1.drew ⟨some ⟨gm,a,none⟩,32,cap - a⟩:=.inr ⟨gm,a,rfl,aG (j.row G),fun i hi=>by simp only at hi;have⟨b,P,N⟩:=x (a+i) oM;exact⟨b,P,by rw[aJ (w:=w1.drew) (j.row G)];exact N⟩⟩
 go_wp2_with fail;refine rq (fun V=>∃c:Ff,V.heap[f]?=ob c 225/\c[15]?=some (.sl (some (ad gm 0)) X.length cap)) ⟨_,q.fc,rfl⟩ fun h=>?_;refine t6 0 1 2 3 4 5 h ?_;refine tD 6 20 (.sl (some (ad gm 0)) X.length cap) (fun V l=>?_) h ?_
 .have⟨c,k1,I⟩:=l;have r:=aJ k1 15;rw[I] at r;clear k1 I h;go_simp
 refine t1 7 h ?_;refine tD 8 22 (.sl (some (ad gm a)) (X.length - a) (cap - a)) (fun V l=>?_) h ?_
 .have r:=sP (W:=V) (g:=gm) B m;clear l h;go_simp
 refine tD 9 23 (.sl (some (ad gm a)) 32 (cap - a)) (fun V l=>?_) h ?_
 .have r:=OS (W:=V) (g:=gm) (o:=a) (n:=X.length - a) n;clear l h;go_simp
 refine rA 10 fun K t=>?_;go_simp;apply(qQ (y:=⟨some ⟨gm,a,none⟩,32,cap - a⟩) v lR).mono;rintro e w2 ⟨⟨y,T,rfl⟩,k⟩;go_wp2_with fail;refine t.out _ _ ⟨_,(q.below (bR.drew.tr k)).fc,rfl⟩ fun h=>?_;have f2:=q.below (bR.drew.tr k);refine rA 11 fun K t=>?_;go_simp;refine(yZ f2 y T (by rw[aAt];have:=p.sl;omega)).mono ?_;rintro e w3 ⟨rfl,⟨o,J⟩,u⟩;go_wp2_with fail;refine t.out _ _ ⟨_,J.fc,rfl⟩ fun h=>?_;refine dn ?_;go_wp2;simp[bodyPost,results,results299,go_sem];exact⟨o,_,J,by simp;omega,(j.mono dC).tr ((Px.aF (bR.drew.tr k) _).tr u)⟩
def dT.byte(h:dT W f F sv ⟨some ⟨gm,0,none⟩,X.length,cap⟩ S X)(c:aB.b1<=gm)(a:Nat)(v:Nat)(j:v<256):dT (W.setCell ⟨gm,a,none⟩ (vB (v:Int))) f F sv ⟨some ⟨gm,0,none⟩,X.length,cap⟩ S (X.set a (vB (v:Int)))/\Px [5] W (W.setCell ⟨gm,a,none⟩ (vB (v:Int))):=by
 have l:=h.me.stored a (vB (v:Int));have⟨g,e⟩:=cL h.me gm rfl;have b:Px [5] W (W.sA gm a (vB (v:Int))):=by
  refine(aU.sC W gm a _).px (fun k i _=>?_) (fun t m=>by cases m);obtain rfl:k=gm:=by simpa using i
  rw[aO e,e];exact⟨by show 5∈[5];decide,by show lw 5<=k;simpa[lw,aB.lo] using c,rfl⟩
 refine⟨⟨b.row h.fc,h.lo,yY h.st b dC,h.sm,?_,fun x d=>?_,h.ma.px b dC,h.da.eT b⟩,b⟩
 .rw[aCk];exact l.1
 .rcases aCw d with d|rfl
  .exact h.mb x d
  .exact⟨v,j,rfl⟩
def Mp(p:Pd W C s f F sv mv S X g b n2)(m:1<=b)(l:1<=S.length)(i:tw S 1+32<=X.length):Cq 263 #[pq f 0,vB 41] W fun e k=>Dn W C s f F X g b e k:=by have h:=B4 p l i;go_enter (qz func263),ntmps263;go_wp2_with fail;apply h.mono;rintro e w1 ⟨rfl,n,S1,j,a,c⟩;have d:=US a;clear h a;go_wp2;go_ret;exact .inl ⟨rfl,.plain p m j rfl (by rw[d.out];exact p.sl) (c.mono dC)⟩
def r7(p:Pd W C s f F sv mv S X g b n2)(hS:2<=S.length)(Y:tw S 1+1<=X.length):
   Cq 299 #[pq f 0,vB 43] W fun e A=>e=rU/\∃z I B,dT A f F z mv I B/\I.length<=S.length/\B.length=X.length/\Px [225,5] W A:=by
 have N:=p.xl;obtain⟨gm,cap,r,rfl,v,O,G,a0,t⟩:=p.fr.row oM;obtain⟨a,x⟩:∃a,a=tw S 1:=⟨_,rfl⟩;rw[<-x] at Y;have a3:(a:Int)<(X.length:Int):=oM
 have⟨ov,Q,y⟩:=t a oM;have P:aI (tw S 1) 0=(a:Int):=by rw[<-x];exact(eL a oM).1
 have M:=fun a b c d w=>CU a b c d w;have Z:=aG p.fr.fc;have D:=gA p.fr oM;obtain⟨l,m⟩:∃l:Nat,IntKind.u8.wrap (aI (tw S.dropLast 1) 0)=(l:Int):=⟨(IntKind.u8.wrap (aI (tw S.dropLast 1) 0)).toNat,by rw[IntKind.wrap_u8];omega⟩;have u:l<256:=by rw[IntKind.wrap_u8] at m;omega
 clear x;go_enter (qz func299),ntmps299;go_wp2_with fail;apply D.mono;rintro e w1 ⟨rfl,⟨a1,E⟩,j⟩;clear D;have q:=j.row O;go_wp2_with fail;refine sk (S:=fun V=>(∃c:Ff,V.heap[f]?=ob c 225/\c[15]?=some (.sl (some (ad gm 0)) X.length cap))/\V.heap[gm]?=ob r 5) 12 kR ⟨⟨_,E.fc,rfl⟩,q⟩ fun h=>?_;refine tF 0 h ?_;refine tF 1 h ?_;refine tF 2 h ?_;refine tE 3 46 (.sl (some (ad gm 0)) X.length cap) (fun V R=>?_) h ?_
 .have⟨⟨c,k1,L⟩,_⟩:=R;have U:=aJ k1 15;rw[L] at U;clear k1 L h;go_simp
 refine tF 4 h ?_;refine tF 5 h ?_;refine tF 6 h ?_;refine tF 7 h ?_;refine rB 8 fun K n=>?_;go_simp;refine(gA (E.below bR.drew) (by rw[aAt];omega)).mono ?_;rintro e w2 ⟨rfl,⟨o,J⟩,k⟩;go_wp2_with fail;refine n.out _ _ ⟨⟨_,J.fc,rfl⟩,k.row h.2⟩ fun h=>?_;refine tF 9 h ?_;refine tF 10 h ?_;refine tF 11 h ?_;have i:=h.2;have T:=aJ i a;have f9:=aQ i a;rw[y] at T;have a2:=aG i;refine rC fun K n=>?_;go_simp;refine n.out _ _ ?_;refine dk kR ?_ _;go_wp2;simp[bodyPost,results,results299,go_sem];have H:=J.byte v a l u;exact⟨o,_,_,H.1,by simp;omega,sI,(j.mono dC).tr ((Px.aF bR.drew _).tr ((k.mono dC).tr (H.2.mono dC)))⟩
def Mq(p:Pd W C s f F sv mv S X g b n2)(n:1<=b)(m:2<=S.length)(i:tw S 1+1<=X.length):Cq 263 #[pq f 0,vB 43] W fun e k=>Dn W C s f F X g b e k:=by have h:=r7 p m i;go_enter (qz func263),ntmps263;go_wp2_with fail;apply h.mono;rintro e w1 ⟨rfl,o,S1,q,j,l,a,c⟩;have d:=US a;clear h a;go_wp2;go_ret;exact .inl ⟨rfl,.plain p n j d.out (by have:=p.sl;omega) (c.mono dC)⟩
def tG:Ff:=Array.replicate 32 (.int .u8 0)
def B5(c:Ff):Prop:=c.size=32/\∀j,j<32->∃b:Nat,b<256/\c[j]?=some (.int .u8 (b:Int))
def B5.set{c:Ff}(h:B5 c)(q:Nat){v:Nat}(b:v<256):B5 (c.setIfInBounds q (vB (v:Int))):=by
 refine⟨by simpa using h.1,fun j a=>?_⟩;by_cases e:q=j
 .subst e;exact⟨v,b,by rw[aBm (by rw[h.1];exact a)]⟩
 .rw[aAH e];exact h.2 j a
def B5.qX{c:Ff}(h:B5 c):qC c.toList:=fun v e=>by have⟨j,a⟩:=aCT e;rw[aBp] at a;have⟨d,_⟩:=aAu.1 a;have⟨b,g,f⟩:=h.2 j (by rw[<-h.1];exact d);rw[f] at a;exact⟨b,g,(aAv a).symm⟩
def z32:B5 tG:=⟨rfl,fun j a=>⟨0,dC,by simp[tG,a]⟩⟩
def B7(a:Nat)(W:WR):
   Calls zQ.prog 328 #[wd a] W fun e R=>(∃C:Ff,C.size=32/\qC C.toList/\e=.returned (.agg C))/\Below W.heap.size W R:=by
 have o:Below W.heap.size W (((W.alloc (.cells (wq a) 41)).alloc (.cells tG 394)).alloc (.cells tG 394)):=(ba).trans (((ba).mono sI).trans ((ba).mono (by simp;exact oM)));have f:(((W.alloc (.cells (wq a) 41)).alloc (.cells tG 394)).alloc (.cells tG 394)).heap[W.heap.size]?=ob (wq a) 41:=aT (aT (aM W _));have d:(((W.alloc (.cells (wq a) 41)).alloc (.cells tG 394)).alloc (.cells tG 394)).heap[W.heap.size+1]?=ob tG 394:=aT (by have:=aM (W.alloc (.cells (wq a) 41)) (.cells tG 394);simpa using this);have j:(((W.alloc (.cells (wq a) 41)).alloc (.cells tG 394)).alloc (.cells tG 394)).heap[W.heap.size+1+1]?=ob tG 394:=by have:=aM ((W.alloc (.cells (wq a) 41)).alloc (.cells tG 394)) (.cells tG 394);simpa using this
 go_enter (qz func328),Tryz.ntmps328;go_wp2_with fail
 change Code.wp _ _ _ _ (((W.alloc (.cells (wq a) 41)).alloc (.cells tG 394)).alloc (.cells tG 394));generalize hV:(((W.alloc (.cells (wq a) 41)).alloc (.cells tG 394)).alloc (.cells tG 394))=V0 at o f d j⊢;obtain⟨A,t⟩:∃A,W.heap.size=A:=⟨_,rfl⟩;obtain⟨B,N⟩:∃B,A+1=B:=⟨_,rfl⟩;obtain⟨D,T⟩:∃D,B+1=D:=⟨_,rfl⟩;rw[t,N,T] at j⊢;rw[t,N] at d;rw[t] at f;clear hV;go_loopw [6] (fun i V=>∃(k:Nat) (c:Ff),i=.int .i64 (k:Int)/\k<=32/\V.heap[D]?=ob c 394/\B5 c/\V.heap[B]?=ob tG 394/\V.heap[A]?=ob (wq a) 41/\Below A W V) (fun i _=>32 - (Go.RowKit.intOf i).toNat)
 case atStart=>exact⟨0,_,rfl,Nat.zero_le _,j,z32,d,f,by rw[<-t];exact o⟩
 case round=>
  obtain⟨k,c,rfl,hk,s,b,u,z,J⟩:=hrel;have a0:=aG s;have S:=aG u;have Y:=aG z;by_cases w:k<32
  .obtain⟨g,m⟩:∃g:Nat,31=g+k:=⟨31 - k,oM⟩;obtain⟨q,x⟩:∃q:Nat,q=g / 8:=⟨_,rfl⟩;obtain⟨r,E⟩:∃r:Nat,r=g % 8:=⟨_,rfl⟩;obtain⟨n,G⟩:∃n:Nat,n=r*8:=⟨_,rfl⟩;have Q:=aJ z q;have M:((wq a):Ff)[q]?=some (.int .u64 (aI a q)):=by
    have:q=0\/q=1\/q=2\/q=3:=oM
    rcases this with h|h|h|h<;>rw[h]<;>rfl
   rw[M] at Q;obtain⟨ov,U,H⟩:=b.2 k w;have Z:=aJ s k;have f0:=aQ s k;rw[H] at Z;have a1:IntKind.i64.wrap (31 - (k:Int))=(g:Int):=by rw[IntWalk.i64_in _ ⟨oM,oM⟩];exact oM
   have a3:(g:Int).tdiv 8=(q:Int):=by rw[Int.tdiv_eq_ediv_of_nonneg oM];exact oM
   have a4:IntKind.i64.wrap (q:Int)=(q:Int):=IntWalk.i64_in _ ⟨oM,oM⟩;have a5:(g:Int).tmod 8=(r:Int):=by rw[Int.tmod_eq_emod_of_nonneg oM];exact oM
   have a6:IntKind.i64.wrap (r:Int)=(r:Int):=IntWalk.i64_in _ ⟨oM,oM⟩;have a7:IntKind.i64.wrap ((r:Int)*8)=(n:Int):=by rw[IntWalk.i64_in _ ⟨oM,oM⟩];exact oM
   have a9:IntKind.i64.wrap ((k:Int)+1)=((k+1:Nat):Int):=by rw[IntWalk.i64_in _ ⟨oM,oM⟩];exact oM
   have a2:(q:Int)<4:=oM
   have K:(k:Int)<32:=oM
   have X:=US m;clear m x E G M;go_wp2;obtain⟨O,y⟩:∃O:Nat,aI a q / 2 ^ min n 64 % 256=(O:Int):=⟨(aI a q / 2 ^ min n 64 % 256).toNat,oM⟩;rw[y];refine⟨⟨k+1,_,rfl,oM,aO s,b.set k oM,aD u oM,aD z oM,J.setCell (by show A<=D;exact oM) _⟩,?_⟩;simp[Go.RowKit.intOf];exact oM
  .have P:¬(k:Int)<32:=oM
   have L:zQ.prog.underlying 394=some (.array 32 5):=kR
   have F:(zQ.prog.info? 394).map (·.size)=some c.size:=by rw[b.1];kernel_rfl
   have p:qC c.toList:=b.qX;have ho:c.all (·.oneCell')=true:=Array.all_eq_true_iff_forall_mem.2 fun v hv=>p.one v (Array.mem_toList_iff.2 hv);have hz:tG.size=c.size:=by rw[b.1];rfl
   go_wp2_with (first| (refine wpList_load_row rfl 394 _ rfl D rfl 394 c (0,0) _ s L rfl F ?_)| (refine wpList_store_row rfl 394 _ _ rfl B c rfl rfl 394 tG u F hz ho ?_))
   have I:=GG (cur':=c) u J oM;have h3:=fun l hl=>results_cell_row (P:=zQ.prog) (fn:=Tryz.f328) (p:=2) (ty:=394) Tryz.results328 l (wr.setRow B c) B 394 c (0,0) (.array 32 5) hl I.1 L rfl F;exact⟨rfl,_,h3 _ rfl,⟨c,b.1,p,rfl⟩,I.2⟩
def VM{c:Type}(L b:List c)(a n:Nat)(h:a+b.length<=n)(d:n<=L.length):(L.take a++b++L.drop (a+b.length)).take n=(L.take n).take a++b++(L.take n).drop (a+b.length):=by rw[List.take_append,aBP sQ0,aCY,aCm oM,List.drop_take];congr 2;simp;omega
def dT.laid{b:Ff}(h:dT W f F sv ⟨some ⟨gm,0,none⟩,X.length,cap⟩ S X)(l:W.heap[gm]?=ob b 5)(j:aB.b1<=gm)(a:Nat)(c:K3)(C:qC c)(B:a+c.length<=X.length):(∃o,dT (W.setRow gm (laid b a c)) f F sv ⟨some ⟨gm,0,none⟩,X.length,cap⟩ S o/\o.length=X.length)/\Px [5] W (W.setRow gm (laid b a c)):=by
 have i:Px [5] W (W.setRow gm (Go.Mark.laid b a c)):=by
  have v:aU [gm] [] W (W.setRow gm (Go.Mark.laid b a c)):=⟨rfl,rfl,rfl,sI,fun k _ A=>.inl (setRow_other W gm k _ (fun e=>A (by simp[e])))⟩;refine v.px (fun k y _=>?_) (fun t w=>by cases w);obtain rfl:k=gm:=by simpa using y
  rw[setRow_heap W k b _ 5 (0,0) l,l];exact⟨by show 5∈[5];decide,by show lw 5<=k;simpa[lw,aB.lo] using j,rfl⟩
 have⟨E,D⟩:=h.me;rcases D with⟨n,u⟩| ⟨g,G,r,n,u,h3,h4,p,s,q⟩
 .cases n
 cases n;rw[l] at h3;cases h3;have m:(X.take a++c++X.drop (a+c.length)).length=X.length:=by simp;omega
 refine⟨⟨X.take a++c++X.drop (a+c.length),⟨i.row h.fc,h.lo,yY h.st i dC,h.sm,?_,fun x d=>?_,h.ma.px i dC,h.da.eT i⟩,m⟩,i⟩
 .rw[aCo] at s q;simp only at h4 p s;have z:(Go.Mark.laid b a c).size=cap*1:=by simp;omega
  refine⟨oM,.inr ⟨gm,_,_,by rw[m],j,setRow_heap W gm b _ 5 (0,0) l,by rw[m];exact h4,p,z,?_⟩⟩;rw[aCo];rw[m];show(b.toList.take a++c++b.toList.drop (a+c.length)).take X.length=_;rw[VM _ _ _ _ B sQ0,q]
 .rcases aAL.1 d with d|d
  .rcases aAL.1 d with d|d
   .exact h.mb x (aCu d)
   .exact C x d
  .exact h.mb x (List.mem_of_mem_drop d)
def r8(p:Pd W C s f F sv mv S X g b n2)(hS:2<=S.length)(hw:tw S 1+32<=X.length):
   Cq 299 #[pq f 0,vB 42] W fun e w'=>e=rU/\∃G S' U,dT w' f F G mv S' U/\S'.length<=S.length/\U.length=X.length/\Px [225,5] W w':=by
 have a3:=p.xl;obtain⟨gm,cap,a2,rfl,E,hg,t,a6,a4⟩:=p.fr.row oM;obtain⟨a,J⟩:∃a,a=tw S 1:=⟨_,rfl⟩;rw[<-J] at hw;have H:a<X.length:=oM
 have a1:aI (tw S 1) 0=(a:Int):=by rw[<-J];exact(eL a oM).1
 have a0:=fun a b c d w=>CU a b c d w;have a5:=aG p.fr.fc;have l:=gA p.fr oM;clear J;go_enter (qz func299),ntmps299;go_wp2_with fail;apply l.mono;rintro e w1 ⟨rfl,⟨a7,Y⟩,x⟩;clear l;have R:=aG Y.fc;have l:=gA Y (by rw[aAt];omega);go_wp2_with fail;apply l.mono;rintro e w2 ⟨rfl,⟨B,f2⟩,u⟩;clear l;have l:=B7 (tw S.dropLast 1) w2;go_wp2_with fail;apply l.mono;rintro e w3 ⟨⟨h,n,m,rfl⟩,q⟩;clear l;have I:(zQ.prog.info? 394).map (·.size)=some h.size:=by rw[n];kernel_rfl
 have ho:h.all (·.oneCell')=true:=aBD.2 fun v hv=>m.one v (aCS.2 hv);have hz:tG.size=h.size:=by rw[n];rfl
 have hr:=aM w3 (.ce tG 394);have O:Bw w2 (w3.alloc (.ce tG 394)):=q.tr ((ba).mono q.size);go_wp2_with (refine wpList_store_row rfl 394 _ _ rfl w3.heap.size h rfl rfl 394 tG hr I hz ho ?_)
 have⟨r,k⟩:=GG (cur':=h) hr O q.size;change Code.wp _ _ _ _ ((w3.alloc (.ce tG 394)).setRow w3.heap.size h);generalize(w3.alloc (.cells tG 394)).setRow w3.heap.size h=j at r k⊢;have Q:=f2.below k;have y:=(((x.tr u).tr (Px.aF k _)).tr (Px.aF (Below.refl j.heap.size j).drew _)).row hg;have N:RB j.drew ⟨some ⟨w3.heap.size,0,none⟩,32,32⟩:=.inr ⟨_,0,rfl,aG r,fun i I=>by
  simp only at I;have Z:i<h.size:=oM
  have⟨b,h1,h2⟩:=m (h[i]'Z) sI;exact⟨b,h1,by rw[aJ (w:=j.drew) r,aAM,aAN Z,h2]⟩⟩
 have⟨vv,ds,A,T,z⟩:=RH (W:=j.drew) (g:=gm) (o:=a) (n:=X.length - a) (c:=cap - a) (ty:=3) (sT:=31) N VE y oM;have⟨⟨X5,f5,D⟩,L⟩:=(Q.below (Below.refl j.heap.size j).drew).laid y E a ds z oM;simp only at A;refine rq (fun V=>∃c:Ff,V.heap[f]?=ob c 225/\c[15]?=some (.sl (some (ad gm 0)) X.length cap)) ⟨_,Q.fc,rfl⟩ fun o=>?_;refine t3 0 1 2 o ?_;refine tD 3 36 (.sl (some (ad gm 0)) X.length cap) (fun V M=>?_) o ?_
 .have⟨c,k1,P⟩:=M;have k0:=aJ k1 15;rw[P] at k0;clear k1 P o;go_simp
 refine t1 4 o ?_;refine tD 5 38 (.sl (some (ad gm a)) (X.length - a) (cap - a)) (fun V M=>?_) o ?_
 .have k0:=sP (W:=V) (g:=gm) H t;clear M o;go_simp
 refine t1 6 o ?_;refine rA 7 fun K hK=>?_;go_simp;refine hK.out _ _ ⟨_,f5.fc,rfl⟩ fun o=>?_;refine dn ?_;go_wp2;simp[bodyPost,results,results299,go_sem];exact⟨B,_,X5,f5,by simp;omega,D,(x.mono dC).tr ((u.mono dC).tr ((Px.aF k _).tr ((Px.aF (Below.refl j.heap.size j).drew _).tr (L.mono dC))))⟩
def Mr(p:Pd W C s f F sv mv S X g b n2)(n:1<=b)(m:2<=S.length)(i:tw S 1+32<=X.length):Cq 263 #[pq f 0,vB 42] W fun e k=>Dn W C s f F X g b e k:=by have h:=r8 p m i;go_enter (qz func263),ntmps263;go_wp2_with fail;apply h.mono;rintro e w1 ⟨rfl,o,S1,q,j,l,a,c⟩;have d:=US a;clear h a;go_wp2;go_ret;exact .inl ⟨rfl,.plain p n j d.out (by have:=p.sl;omega) (c.mono dC)⟩
def Nq(P:K5)(ops:DQ)(Q:Fg)(n0:Nat)(Z:Obj)(f:Nat)(L:Bool->Bool->Array Bool)(T:vZ->vZ->Act)(I:K6):Prop:=
 ∀a b x y w,I w->(a=true->Mx n0 Z w x)->(b=true->Mx n0 Z w y)->(a=true->b=true->x≠y)->wpAnyH P .any ops Q (fun _=>True) (fu f a b) (L a b) (T x y) w
def Mx.up{x:vZ}(h:Mx n0 Z w x):Mx n0 Z (w.alloc Z) x/\x≠ptr w.heap.size:=by
 obtain⟨p,rfl,b,a⟩:=h;have c:p<w.heap.size:=(aAu.1 a).1;refine⟨⟨p,rfl,b,?_⟩,fun e=>?_⟩
 .show(w.heap.push Z)[p]?=some Z;rw[aAV,if_neg (by omega)];exact a
 .simp only[ptr,Value.pointer.injEq,aAF,Addr.mk.injEq,and_true] at e;omega
def Q9{Q:Fg}{I:K6}{cs:K4}(RA:Rh P ops Q Z iA dA)(RB:Rh P ops Q Z iB dB)(q:∀j k,j=false\/k=false\/cs≠[]->Region.ready .any ops (L j k)=rd cs iA iB j k)(B:f=g+1)(s:∀x y v,(T x y).put (some dA) v=T v y)(t:∀x y v,(T x y).put (some dB) v=T x v)(u:∀b,(L false b).setIfInBounds iA true=L true b)(z:∀b,(L b false).setIfInBounds iB true=L b true)(o:∀w,I w->n0<=w.heap.size/\I (w.alloc Z))(r:∀c∈cs,∀j k x y w,I w->(j=true->Mx n0 Z w x)->(k=true->Mx n0 Z w y)->(j=true->k=true->x≠y)->wpOp P ops Q c (fun C A=>True/\wpAnyH P .any ops Q (fun _=>True) (fu g j k) ((L j k).setIfInBounds c true) C A) (T x y) w)(p:∀x y w,I w->Mx n0 Z w x->Mx n0 Z w y->x≠y->wpAnyH P .any ops Q (fun _=>True) f (L true true) (T x y) w):Nq P ops Q n0 Z f L T I:=by
 subst B;have nw:∀w,I w->Mx n0 Z (w.aL Z) (ptr w.heap.size):=fun w h=>⟨_,rfl,(o w h).1,gi w Z⟩
 have l:∀x y w,I w->Mx n0 Z w x->wpAnyH P .any ops Q (fun _=>True) (g+2) (L true false) (T x y) w:=by
  intro x y w h a;refine wpAnyH_all (rs:=cs++[iB]) (q true false (.inr (.inl rfl))) sI fun i d=>?_;rcases aAL.1 d with d|d
  .exact r i d true false x y w h (fun _=>a) (fun e=>nomatch e) fun _ e=>nomatch e
  .obtain rfl:=aAB.1 d;refine RB _ _ _ ⟨trivial,?_⟩;rw[z,t];exact p _ _ _ (o w h).2 a.up.1 (nw w h) a.up.2
 have m:∀x y w,I w->Mx n0 Z w y->wpAnyH P .any ops Q (fun _=>True) (g+2) (L false true) (T x y) w:=by
  intro x y w h b;refine wpAnyH_all (rs:=cs++[iA]) (q false true (.inl rfl)) sI fun i d=>?_;rcases aAL.1 d with d|d
  .exact r i d false true x y w h (fun e=>nomatch e) (fun _=>b) fun e=>nomatch e
  .obtain rfl:=aAB.1 d;refine RA _ _ _ ⟨trivial,?_⟩;rw[u,s];exact p _ _ _ (o w h).2 (nw w h) b.up.1 b.up.2.symm
 intro j k x y w h a b n;cases j<;>cases k
 .refine wpAnyH_all (rs:=cs++[iA,iB]) (q false false (.inl rfl)) sI fun i d=>?_;rcases aAL.1 d with d|d
  .exact r i d false false x y w h (fun e=>nomatch e) (fun e=>nomatch e) fun e=>nomatch e
  .simp only[aAx,aAC,or_false] at d;rcases d with rfl|rfl
   .refine RA _ _ _ ⟨trivial,?_⟩;rw[u,s];exact l _ _ _ (o w h).2 (nw w h)
   .refine RB _ _ _ ⟨trivial,?_⟩;rw[z,t];exact m _ _ _ (o w h).2 (nw w h)
 .exact m x y w h (b rfl)
 .exact l x y w h (a rfl)
 .exact p x y w h (a rfl) (b rfl) (n rfl rfl)
def Rb{Q:Fg}{o:Obj}(h:∀a w (K:Fi),K (a.put (some dA) (ptr w.heap.size)) (w.alloc o)->wpOp P ops Q iA K a w:=by intro _ _ _ h;refine wpOp_step rfl fun c b=>?_;go_simp;exact b _ _ h):Rh P ops Q o iA dA:=h
def Nq.step{P:K5}{ops:DQ}{Q:Fg}{n0:Nat}{Z:Obj}{I:K6}{I':K6}{iA:Nat}{iB:Nat}{dA:Tmp}{dB:Tmp}{f:Nat}{L:Bool->Bool->Array Bool}{L':Bool->Bool->Array Bool}{T:vZ->vZ->Act}{c:Nat}{o:Oper}{d:Tmp}{φ:vZ->Prop}(RA:Rh P ops Q Z iA dA)(RB:Rh P ops Q Z iB dB)(D:ops[c]?=some o)(u:∀g j,Region.ready .any ops (L g j)=rd [c] iA iB g j)(z:∀x y v,(T x y).put (some dA) v=T v y)(F:∀x y v,(T x y).put (some dB) v=T x v)(J:∀b,(L false b).setIfInBounds iA true=L true b)(O:∀b,(L b false).setIfInBounds iB true=L b true)(E:∀w,I w->n0<=w.heap.size/\I (w.alloc Z))(C:∀a b,(L a b).setIfInBounds c true=L' a b)(N:∀x y w (K:Fi),I w->Shut (∀v k,φ v->I' k->(∀p:Nat,w.heap[p]?=some Z->k.heap[p]?=some Z)->K ((T x y).put (some d) v) k)->if Region.wanted o (yielded ops (T x y).tmps)=true then Oper.wp P o (T x y) w K Q else K ((T x y).put o.dst ud) w)(G:∀v,φ v->Nq P ops Q n0 Z f L' (fun x y=>(T x y).put (some d) v) I'):Nq P ops Q n0 Z (f+1) L T I:=by
 have H:∀g j x y w,I w->(g=true->Mx n0 Z w x)->(j=true->Mx n0 Z w y)->(g=true->j=true->x≠y)->wpOp P ops Q c (fun A k=>True/\wpAnyH P .any ops Q (fun _=>True) (fu f g j) ((L g j).setIfInBounds c true) A k) (T x y) w:=by intro g j x y w h a b n;refine wpOp_step D fun R B=>N x y w R h (fun v k M q t=>B _ _ ⟨trivial,?_⟩);rw[C];exact G v M g j x y k q (fun e=>let⟨p,s,l,m⟩:=a e;⟨p,s,l,t p m⟩) (fun e=>let⟨p,s,l,m⟩:=b e;⟨p,s,l,t p m⟩) n
 refine Q9 (cs:=[c]) RA RB (fun a b _=>u a b) rfl z F J O E (fun i r=>?_) fun x y w h a b n=>?_
 .obtain rfl:=aAB.1 r;exact H
 .refine wpAnyH_all (rs:=[c]) (u true true) sI fun i r=>?_;obtain rfl:=aAB.1 r;exact H true true x y w h (fun _=>a) (fun _=>b) fun _ _=>n
def Nq.last{Q:Fg}{I:K6}(RA:Rh P ops Q Z iA dA)(RB:Rh P ops Q Z iB dB)(o:∀d g,d=false\/g=false->Region.ready .any ops (L d g)=rd [] iA iB d g)(k:∀x y v,(T x y).put (some dA) v=T v y)(m:∀x y v,(T x y).put (some dB) v=T x v)(s:∀b,(L false b).setIfInBounds iA true=L true b)(z:∀b,(L b false).setIfInBounds iB true=L b true)(l:∀w,I w->n0<=w.heap.size/\I (w.alloc Z))(j:∀p q w,I w->n0<=p->n0<=q->w.heap[p]?=some Z->w.heap[q]?=some Z->p≠q->wpAnyH P .any ops Q (fun _=>True) (f+1) (L true true) (T (ptr p) (ptr q)) w):Nq P ops Q n0 Z (f+1) L T I:=
 Q9 (cs:=[]) RA RB (fun a b h=>o a b (h.imp id fun h=>h.resolve_right (·  rfl))) rfl k m s z l (fun c h=>nomatch h) fun x y w h a b n=>by obtain⟨p,rfl,t,u⟩:=a;obtain⟨q,rfl,i,r⟩:=b;exact j p q w h t i u r fun e=>n (by rw[e])
def Nq.start{Q:Fg}{I:K6}{listed:Array Bool}{a:Act}(c:L false false=listed)(x y:vZ)(d:(a.put (some dA) x).put (some dB) y=a)(h:I w)(b:Nq P ops Q n0 Z f L (fun x y=>(a.put (some dA) x).put (some dB) y) I):wpAnyH P .any ops Q (fun _=>True) (f+2) listed a w:=by
 have this:wpAnyH P .any ops Q (fun _=>True) (f+2) (L false false) ((a.put (some dA) x).put (some dB) y) w:=b false false x y w h (fun e=>nomatch e) (fun e=>nomatch e) fun e=>nomatch e;rw[c,d] at this;exact this
def Si(W:WR)(f:Nat)(F:fC)(sv mv:SV)(X:K3)(R:K4)(V:WR):Prop:=∃a,dT V f F a mv R X/\a.a=sv.a/\Px [225] W V
structure Pm (W V:WR)(f:Nat)(F:fC)(mv:SV)(X:K3)(R:K4)(x y b c:Nat):Prop where
 fr:∃sv,dT V f F sv mv R X
 hb:V.heap[b]?=ob (wq x) 41
 hc:V.heap[c]?=ob (wq y) 41
 px:Px [225] W V
def Si.both(h:Si W f F sv mv X R V)(e:W.heap.size<=b)(u:V.heap[b]?=ob wz 41)(g:W.heap.size<=c)(A:V.heap[c]?=ob wz 41)(n:b≠c)(r:dT W f F sv mv S X)(x y:Nat):Pm W ((((((((V.setCell ⟨b,0,none⟩ (vL x 0)).setCell ⟨b,1,none⟩ (vL x 1)).setCell ⟨b,2,none⟩ (vL x 2)).setCell ⟨b,3,none⟩ (vL x 3)).setCell ⟨c,0,none⟩ (vL y 0)).setCell ⟨c,1,none⟩ (vL y 1)).setCell ⟨c,2,none⟩ (vL y 2)).setCell ⟨c,3,none⟩ (vL y 3)) f F mv X R x y b c:=by
 have⟨j,s,q,a⟩:=h;have o:=dV (vL x 0) (vL x 1) (vL x 2) (vL x 3) u;have i:Below W.heap.size V ((((V.setCell ⟨b,0,none⟩ (vL x 0)).setCell ⟨b,1,none⟩ (vL x 1)).setCell ⟨b,2,none⟩ (vL x 2)).setCell ⟨b,3,none⟩ (vL x 3)):=(((((Below.refl W.heap.size V).setCell (p:=(ad b 0)) e (vL x 0)).setCell (p:=(ad b 1)) e (vL x 1)).setCell (p:=(ad b 2)) e (vL x 2)).setCell (p:=(ad b 3)) e (vL x 3));have p:((((V.setCell ⟨b,0,none⟩ (vL x 0)).setCell ⟨b,1,none⟩ (vL x 1)).setCell ⟨b,2,none⟩ (vL x 2)).setCell ⟨b,3,none⟩ (vL x 3)).heap[c]?=_:=(fX V b (vL x 0) (vL x 1) (vL x 2) (vL x 3)).obj A (by show(41:Nat)∉[];simp) (by simpa using Ne.symm n);generalize((((V.setCell ⟨b,0,none⟩ (.int .u64 (aI x 0))).setCell ⟨b,1,none⟩ (.int .u64 (aI x 1))).setCell ⟨b,2,none⟩ (.int .u64 (aI x 2))).setCell ⟨b,3,none⟩ (.int .u64 (aI x 3)))=v at o i p⊢;have t:=dV (vL y 0) (vL y 1) (vL y 2) (vL y 3) p;have z:Below W.heap.size v ((((v.setCell ⟨c,0,none⟩ (vL y 0)).setCell ⟨c,1,none⟩ (vL y 1)).setCell ⟨c,2,none⟩ (vL y 2)).setCell ⟨c,3,none⟩ (vL y 3)):=(((((Below.refl W.heap.size v).setCell (p:=(ad c 0)) g (vL y 0)).setCell (p:=(ad c 1)) g (vL y 1)).setCell (p:=(ad c 2)) g (vL y 2)).setCell (p:=(ad c 3)) g (vL y 3));have w:((((v.setCell ⟨c,0,none⟩ (vL y 0)).setCell ⟨c,1,none⟩ (vL y 1)).setCell ⟨c,2,none⟩ (vL y 2)).setCell ⟨c,3,none⟩ (vL y 3)).heap[b]?=_:=(fX v c (vL y 0) (vL y 1) (vL y 2) (vL y 3)).obj o (by show(41:Nat)∉[];simp) (by simpa using n);have d:=i.tr z;have m:V.heap.size<=((((v.setCell ⟨c,0,none⟩ (vL y 0)).setCell ⟨c,1,none⟩ (vL y 1)).setCell ⟨c,2,none⟩ (vL y 2)).setCell ⟨c,3,none⟩ (vL y 3)).heap.size:=by have:=i.size;simp;exact this
 exact⟨⟨j,r.over s q d m⟩,w,t,⟨d.os.tr a.os,d.tape.tr a.tape,d.output.tr a.output,aAw a.size m,fun k l=>by rw[d.block k l];exact a.block k l⟩⟩
def Si.alloc(h:Si W f F sv mv X R V):W.heap.size<=V.heap.size/\Si W f F sv mv X R (V.alloc (.cells wz 41)):=
 let⟨a,c,b,h3⟩:=h;⟨h3.size,a,c.below ba,b,h3.tr (Px.aF ba _)⟩
def Si.aL(h:Si W f F sv mv X R V):W.heap.size<=V.heap.size/\Si W f F sv mv X R (V.alloc (.cells wz 41)):=Si.alloc h
def Si.take(h:Si W f F sv mv X R V)(g:1<=R.length):Cq 296 #[pq f 14] V fun e a=>e=.rt (wd (tw R 1))/\Si W f F sv mv X R.dropLast a/\∀p:Nat,V.heap[p]?=some (.ce wz 41)->a.heap[p]?=some (.ce wz 41):=by have⟨j,i,d,h4⟩:=h;apply(zG i g).mono;rintro e a ⟨rfl,h3,b⟩;exact⟨rfl,⟨_,h3,d,h4.tr b⟩,fun p c=>b.row c⟩
def Si.cells(d:V.heap[b]?=ob wz 41)(a:V.heap[c]?=ob wz 41):(∀j,j<4->V.cell? ⟨b,j,none⟩=some (.int .u64 0))/\(∀j,j<4->V.cell? ⟨c,j,none⟩=some (.int .u64 0))/\(∀j,V.frozen? ⟨b,j,none⟩=false)/\∀j,V.frozen? ⟨c,j,none⟩=false:=by
 refine⟨fun j e=>?_,fun j e=>?_,aQ d,aQ a⟩;all_goals
  have:j=0\/j=1\/j=2\/j=3:=oM
  first|rw[aJ d]|rw[aJ a]
  rcases this with rfl|rfl|rfl|rfl<;>rfl
def Ms(p:Pd W C s f F sv mv S X g b n2)(G:2<=S.length)(O:Wi (tw S 1) (tw S 2) X.length):Cq 263 #[pq f 0,vB 63] W fun e Y=>Dn W C s f F X g b e Y:=by
 go_enter (qz func263),ntmps263;go_wp2_with fail;refine rq (fun V=>True) trivial fun d=>?_;refine t6 0 1 2 4 5 6 d ?_;have L:Si W f F sv mv X S W.drew:=⟨sv,p.fr.below bR.drew,rfl,Px.aF bR.drew _⟩
 refine Nq.start (f:=4) (n0:=W.heap.size) (Z:=.ce wz 41) (dA:=5) (dB:=6) (L:=fun x y=>#[true,true,true,false,true,true,true,false,x,y,false,false]) (I:=Si W f F sv mv X S) rfl ud ud rfl L ?_;clear d L
 refine Nq.step (iA:=8) (iB:=9) (dA:=5) (dB:=6) (c:=3) (d:=22) (φ:=fun v=>v=wd (tw S 1)) (I':=Si W f F sv mv X S.dropLast) (L':=fun x y=>#[true,true,true,true,true,true,true,false,x,y,false,false]) Rb Rb rfl sQ7 sQ3 sQ3 sQ8 sQ8 (fun w h=>h.alloc) sQ7 (fun x y V K o i=>?_) fun v E=>?_
 .simp only[Act.put,aAA,aAD,aAE] at i⊢;go_simp;refine(o.take (by first|omega|(simp;omega))).mono ?_;rintro e V1 ⟨rfl,B,z⟩;go_wp2_with fail;exact i.out _ _ rfl B z
 subst E
 refine Nq.step (iA:=8) (iB:=9) (dA:=5) (dB:=6) (c:=7) (d:=26) (φ:=fun v=>v=wd (tw S.dropLast 1)) (I':=Si W f F sv mv X S.dropLast.dropLast) (L':=fun x y=>#[true,true,true,true,true,true,true,true,x,y,false,false]) Rb Rb rfl sQ7 sQ3 sQ3 sQ8 sQ8 (fun w h=>h.alloc) sQ7 (fun x y V K o i=>?_) fun v E=>?_
 .simp only[Act.put,aAA,aAD,aAE] at i⊢;go_simp;refine(o.take (by first|omega|(simp;omega))).mono ?_;rintro e V1 ⟨rfl,B,z⟩;go_wp2_with fail;exact i.out _ _ rfl B z
 subst E
 refine Nq.last (iA:=8) (iB:=9) (dA:=5) (dB:=6) (f:=1) Rb Rb (by intro a b h;cases a<;>cases b<;>first|(rcases h with h|h<;>cases h;done)|kernel_rfl) sQ3 sQ3 sQ8 sQ8 (fun w h=>h.alloc) fun U b6 V0 o l5 l6 Q J l=>?_
 simp only[ptr,Act.put,aAA,aAD,aAE];have⟨A,I,q3,q4⟩:=Si.cells Q J;have T:=Ne.symm l;have R:=o.both l5 Q l6 J l p.fr (tw S 1) (tw S.dropLast 1);refine rA 10 fun K k=>?_;go_simp;refine k.out _ _ trivial fun _=>?_;clear k;refine rA 11 fun K k=>?_;go_simp;refine k.out _ _ trivial fun _=>?_;clear k;refine dn ?_;clear A I q3 q4
 generalize((((((((V0.setCell _ _).setCell _ _).setCell _ _).setCell _ _).setCell _ _).setCell _ _).setCell _ _).setCell _ _)=V at R⊢;have⟨⟨H,r⟩,h5,h6,P⟩:=R
 have u:tw S.dropLast 1<M:=by rw[cN dC G];exact eO p.fr 2
 go_wp2_with fail;refine rq (fun V=>V.heap[f]?=ob (iE F H mv) 225/\V.heap[U]?=ob (wq (tw S 1)) 41/\V.heap[b6]?=ob (wq (tw S.dropLast 1)) 41) ⟨r.fc,h5,h6⟩ fun d=>?_;refine t4 0 1 2 3 d ?_;refine tV 4 (fun _ m=>bq (m.1) 15) d ?_;refine tV 5 (fun _ m=>q4 (m.2.1)) d ?_;refine tV 6 (fun _ m=>q4 (m.2.2)) d ?_;refine rA 7 fun K i=>?_;go_simp;refine(zD (r.below bR.drew) (tw S 1) (tw S.dropLast 1) u p.xl (by rw[cN dC G];exact O)).mono ?_;rintro e w2 ⟨⟨y,rfl,hy,n⟩,c⟩;have q:=US n;clear n;go_wp2_with fail;refine i.out _ _ ⟨bk c d.1,bk c d.2.1,bk c d.2.2⟩ fun d=>?_;refine rA 8 fun K i=>?_;go_simp;apply(JP (r.below (bR.drew.tr c)) (YR.below hy c)).mono;rintro e w3 ⟨⟨t,N,rfl⟩,j⟩;have D:=US N;clear N;go_wp2_with fail;refine i.out _ _ ⟨bk j d.1,bk j d.2.1,bk j d.2.2⟩ fun d=>?_;refine t1 9 d ?_;refine dn ?_;go_wp2;go_ret;have Z:=p.mi.px (P.tr (Px.aF ((Below.refl V.heap.size V).drew.tr c) _)) dC;exact .inr ⟨_,_,rfl,En.JQ Z (r.below (bR.drew.tr c)).fz (.refl s) ((P.mono dC).tr (Px.aF ((Below.refl V.heap.size V).drew.tr c) _)) p.bP oM (y:=y) (by have A:=q.out;have:=p.xl;have I:tw S.dropLast 1=tw S 2:=cN dC G;rw[I] at A;rcases O with h|h<;>omega) j D.out⟩
def Mt(p:Pd W C s f F sv mv S X g b n2)(H:1<=b)(hS:2<=S.length):Cq 263 #[pq f 0,vB 47] W fun e R=>Dn W C s f F X g b e R:=by
 go_enter (qz func263),ntmps263;go_wp2_with fail;refine rq (fun V=>True) trivial fun L=>?_;refine t6 0 1 2 4 5 6 L ?_;have G:Si W f F sv mv X S W.drew:=⟨sv,p.fr.below bR.drew,rfl,Px.aF bR.drew _⟩
 refine Nq.start (f:=4) (n0:=W.heap.size) (Z:=.ce wz 41) (dA:=7) (dB:=8) (L:=fun x y=>#[true,true,true,false,true,true,true,false,x,y,false,false]) (I:=Si W f F sv mv X S) rfl ud ud rfl G ?_;clear L G
 refine Nq.step (iA:=8) (iB:=9) (dA:=7) (dB:=8) (c:=3) (d:=49) (φ:=fun v=>v=wd (tw S 1)) (I':=Si W f F sv mv X S.dropLast) (L':=fun x y=>#[true,true,true,true,true,true,true,false,x,y,false,false]) Rb Rb rfl sQ7 sQ3 sQ3 sQ8 sQ8 (fun w h=>h.alloc) sQ7 (fun x y V K n l=>?_) fun v B=>?_
 .simp only[Act.put,aAA,aAD,aAE] at l⊢;go_simp;refine(n.take (by first|omega|(simp;omega))).mono ?_;rintro e Z ⟨rfl,z,u⟩;go_wp2_with fail;exact l.out _ _ rfl z u
 subst B
 refine Nq.step (iA:=8) (iB:=9) (dA:=7) (dB:=8) (c:=7) (d:=53) (φ:=fun v=>v=wd (tw S.dropLast 1)) (I':=Si W f F sv mv X S.dropLast.dropLast) (L':=fun x y=>#[true,true,true,true,true,true,true,true,x,y,false,false]) Rb Rb rfl sQ7 sQ3 sQ3 sQ8 sQ8 (fun w h=>h.alloc) sQ7 (fun x y V K n l=>?_) fun v B=>?_
 .simp only[Act.put,aAA,aAD,aAE] at l⊢;go_simp;refine(n.take (by first|omega|(simp;omega))).mono ?_;rintro e Z ⟨rfl,z,u⟩;go_wp2_with fail;exact l.out _ _ rfl z u
 subst B
 refine Nq.last (iA:=8) (iB:=9) (dA:=7) (dB:=8) (f:=1) Rb Rb (by intro a b h;cases a<;>cases b<;>first|(rcases h with h|h<;>cases h;done)|kernel_rfl) sQ3 sQ3 sQ8 sQ8 (fun w h=>h.alloc) fun b5 b6 Y n l5 l6 N E j=>?_
 simp only[ptr,Act.put,aAA,aAD,aAE];have⟨q1,q2,q3,q4⟩:=Si.cells N E;have Q:=Ne.symm j;have P:=n.both l5 N l6 E j p.fr (tw S 1) (tw S.dropLast 1);refine rA 10 fun K k=>?_;go_simp;refine k.out _ _ trivial fun _=>?_;clear k;refine rA 11 fun K k=>?_;go_simp;refine k.out _ _ trivial fun _=>?_;clear k;refine dn ?_;clear q1 q2 q3 q4
 generalize((((((((Y.setCell _ _).setCell _ _).setCell _ _).setCell _ _).setCell _ _).setCell _ _).setCell _ _).setCell _ _)=V at P⊢;have⟨⟨D,J⟩,m,i,A⟩:=P
 obtain⟨y,o⟩:∃y,tw S.dropLast 1=y:=⟨_,rfl⟩;have r:y<M:=by rw[<-o,cN dC hS];exact eO p.fr 2
 have U:=p.sl;rw[o] at i⊢;have I:=wP y r;have a1:=aG m;have a2:=aG i;have p2:Pd V C s f F D mv S.dropLast.dropLast X g b n2:=⟨J,p.mi.px A dC,p.fm,p.bP,p.nx,p.nb,by simp;omega,p.xl,p.gl,p.cl,p.ml,p.dl,p.vl⟩;have O:=xp p2 H (tw S 1) (eO p.fr 1);have c0:=bq m 0;have e0:=bq i 0;have c1:=bq m 1;have e1:=bq i 1;have c2:=bq m 2;have e2:=bq i 2;have c3:=bq m 3;have e3:=bq i 3;have a0:=US o;clear o;by_cases c:y=0
 .have d:decide (y=0)=true:=by simp[c]
  rw[d] at I;clear c d;go_wp2_with fail;go_ret;exact .inl ⟨rfl,.plain p H J rfl sQ0 (A.mono dC)⟩
 .have d:decide (y=0)=false:=by simp[c]
  rw[d] at I;clear c d;go_wp2_with fail;apply O.mono;rintro e w2 d;have q:=d.from (A.mono dC);clear O d;rcases q with⟨rfl,T⟩| ⟨t,v,rfl,hn⟩
  .go_wp2;go_ret;exact .inl ⟨rfl,T⟩
  .go_wp2;go_ret;exact .inr ⟨t,v,rfl,hn⟩
def H4(W:WR)(f:Nat)(F:fC)(sv:SV)(S:K4)(X:K3)(g x:Nat)(e:WR):Prop:=
 ∃k l c ex size b:Nat,∃d a,BM x=some (k,l,c)/\k<=S.length/\S.length+l<=1024+k/\Tz x S size/\size<=a.length/\Xt x S g ex/\b+c+ex<=g/\dT e f {F with bP:=(b:Int)} sv d S a/\3*fL a.length+b+c+ex<=3*fL X.length+g/\Px [225,5] W e
def My(h:dT W f F sv mv S X)(hm:Mi W C s)(al:F.m=C.mc)(g:Nat)(hg:F.bP=(g:Int))(br:g<10000000)(hX:3*fL X.length+g<30000000)(x:Nat)(hx:x<256):
   Cq 262 #[pq f 0,vB (x:Int)] W fun e w'=>(e=.returned .nilIface/\H4 W f F sv S X g x w')\/(∃er,e=.returned (.iface 407 (.pointer (some er)))/\Eo W C.dp C.li er/\Bw W w'):=by
 have I:=US h.st.n;have bw:S.length<100000:=h.st.num;have bs:=aG h.fc;have b2:X.length<1073741824:=by unfold fL at hX;exact oM
 obtain⟨e1,c1,Y,H⟩:=hm.ge.err 1 dC;obtain⟨e5,c5,bg,bf⟩:=hm.ge.err 5 dC;obtain⟨e6,c6,b6,bb⟩:=hm.ge.err 6 dC;obtain⟨e7,c7,b3,bc⟩:=hm.ge.err 7 dC;go_enter (qz func262),Tryz.ntmps262;go_wp2_with fail;refine(df x hx W).mono ?_;rintro e Q ⟨rfl,u⟩;rcases hsx:BM x with _| ⟨k,l,c⟩
 .have i:Bw W (Q.alloc (.cells #[vI 0,vI 0,vI 0] 369)):=u.trans ((ba).mono u.size);unfold RD;clear hsx;have d5:=(i.cell (p:=⟨5,0,none⟩) bf).trans c5;go_wp2;go_ret;exact .inr ⟨e5,rfl,bg,i⟩
 .have⟨bl,bh,bm⟩:=Bg hx hsx;have L:=US hsx;clear hsx;have i:Bw W (Q.alloc (.cells #[vI (k:Int),vI (l:Int),vI (c:Int)] 369)):=u.trans ((ba).mono u.size);have hB:=aM Q (.cells #[vI (k:Int),vI (l:Int),vI (c:Int)] 369);have O:=(h.below i).fc;unfold RD;go_wp2_with fail;change Code.wp _ _ _ _ (Q.alloc (.cells #[vI (k:Int),vI (l:Int),vI (c:Int)] 369));generalize(Q.alloc (.cells #[.int .i64 (k:Int),.int .i64 (l:Int),.int .i64 (c:Int)] 369))=w1 at i hB O⊢;generalize Q.heap.size=B at hB⊢;by_cases bt:(sv.n:Int)<(k:Int)
  · skip
    refine rq (fun V=>V.heap[f]?=ob (iE F sv mv) 225/\V.heap[B]?=ob #[vI (k:Int),vI (l:Int),vI (c:Int)] 369) ⟨O,hB⟩ fun b=>?_;refine t3 0 1 2 b ?_;refine tV 3 (fun _ d=>bq (d.1) 14) b ?_;refine t2 4 5 b ?_;refine tV 6 (fun _ d=>bq (d.2) 0) b ?_;refine t1 7 b ?_;refine dn ?_;have d6:=(i.drew.cell (p:=⟨6,0,none⟩) bb).trans c6;go_wp2;go_ret;exact .inr ⟨e6,rfl,b6,i.drew⟩
  · skip
    refine rq (fun V=>V.heap[f]?=ob (iE F sv mv) 225/\V.heap[B]?=ob #[vI (k:Int),vI (l:Int),vI (c:Int)] 369) ⟨O,hB⟩ fun b=>?_;refine t3 0 1 2 b ?_;refine tV 3 (fun _ d=>bq (d.1) 14) b ?_;refine t2 4 5 b ?_;refine tV 6 (fun _ d=>bq (d.2) 0) b ?_;refine t1 7 b ?_;refine dn ?_;have o:=i.drew;have M:=(h.below o).fc;have v:w1.drew.heap[B]?=_:=hB;generalize w1.drew=w2 at o M v b⊢;have i1:IntKind.i64.wrap ((sv.n:Int) - k)=(sv.n:Int) - k:=by have:=I.out;exact iW
    have i2:IntKind.i64.wrap ((sv.n:Int) - k+l)=(sv.n:Int) - k+l:=by have:=I.out;exact iW
    go_wp2_with fail;by_cases bn:(1024:Int)<(sv.n:Int) - k+l
    .skip
     refine rq (fun V=>V.heap[f]?=ob (iE F sv mv) 225/\V.heap[B]?=ob #[vI (k:Int),vI (l:Int),vI (c:Int)] 369) ⟨M,v⟩ fun b=>?_;refine t3 0 1 2 b ?_;refine tV 3 (fun _ d=>bq (d.1) 14) b ?_;refine t2 4 5 b ?_;refine tV 6 (fun _ d=>bq (d.2) 0) b ?_;refine t2 7 8 b ?_;refine tV 9 (fun _ d=>bq (d.2) 1) b ?_;refine t2 10 11 b ?_;refine dn ?_;have d7:=(o.drew.cell (p:=⟨7,0,none⟩) bc).trans c7;go_wp2;go_ret;exact .inr ⟨e7,rfl,b3,o.drew⟩
    .skip
     refine rq (fun V=>V.heap[f]?=ob (iE F sv mv) 225/\V.heap[B]?=ob #[vI (k:Int),vI (l:Int),vI (c:Int)] 369) ⟨M,v⟩ fun b=>?_;refine t3 0 1 2 b ?_;refine tV 3 (fun _ d=>bq (d.1) 14) b ?_;refine t2 4 5 b ?_;refine tV 6 (fun _ d=>bq (d.2) 0) b ?_;refine t2 7 8 b ?_;refine tV 9 (fun _ d=>bq (d.2) 1) b ?_;refine t2 10 11 b ?_;refine dn ?_;have m:=o.drew;have Z:w2.drew.heap[B]?=_:=v;generalize w2.drew=w3 at m Z b⊢;have z:k<=S.length/\S.length+l<=1024+k:=by have:=I.out;exact⟨oM,oM⟩
     have T:=dg (h.below m) ((m.cell (p:=⟨1,0,none⟩) H).trans c1) (aAy H m.size) L.out z.1;clear i1 i2;go_wp2_with fail;refine T.mono ?_;rintro e w4 ⟨ad,a,ev,rfl,hc⟩;clear T;have a7:=m.trans (ad.mono m.size);have b9:=bk ad Z;rcases hc with⟨rfl,size,rfl,bo,G⟩|rfl
     .have A:=a7;have b5:=(h.below A).fc;have ac:∀w,Bw W w->Cq 292 #[pq f 0,vB (x:Int)] w fun e w'=>(∃n:Nat,Xt x S g n/\e=.returned (vI (n:Int)))/\Bw w w':=fun w hb=>Bf (h.below hb) (hm.below hb) al g hg oM L.out z.1 (fun b8=>by rcases G.2.2.1 (.inl b8) with e|e<;>exact oM)
      have a2:=US h.mn;have a3:=fun w=>Ga mv.a mv.c mv.n size (by have:=a2.out;exact oM) oM w;have bd:Shut (xn mv.n size<9000000000000000):=by
       show xn mv.n size<9000000000000000;have b1:fL size<1073741824:=by unfold fL;exact oM
       have:=aBJ b1 b1;unfold xn;split
       .decide
       .unfold JJ;exact oM
      have a6:=US G;clear G;go_wp2_with fail;refine rq (fun V=>V.heap[f]?=ob (iE F sv mv) 225/\V.heap[B]?=ob #[vI (k:Int),vI (l:Int),vI (c:Int)] 369) ⟨b5,b9⟩ fun b=>?_;refine t1 0 b ?_;refine tV 1 (fun _ d=>bq (d.2) 2) b ?_;refine t5 2 3 6 7 8 b ?_;refine tV 9 (fun _ d=>bq (d.1) 15) b ?_;refine t1 10 b ?_;refine rA 4 fun K hK=>?_;go_simp;refine(ac _ A.drew).mono ?_;rintro e w6 ⟨⟨ex,y,rfl⟩,N⟩;go_wp2_with fail;refine hK.out _ _ ⟨bk N b.1,bk N b.2⟩ fun b=>?_;obtain⟨ce,q⟩:∃ce:Nat,Shut (ce=c+ex):=⟨_,rfl⟩;have b0:IntKind.i64.wrap ((c:Int)+(ex:Int))=(ce:Int):=by have:=y.1;have:=q.out;rw[iW];exact oM
      refine t1 5 b ?_;refine rA 11 fun K hK=>?_;go_simp;refine(a3 _).mono ?_;rintro e w7 ⟨rfl,rfl⟩;go_wp2_with fail;refine hK.out _ _ b fun b=>?_;obtain⟨J,j⟩:∃J:Nat,Shut (J=ce+xn mv.n size):=⟨_,rfl⟩;have b4:IntKind.i64.wrap ((ce:Int)+(xn mv.n size:Int))=(J:Int):=by have:=y.1;have:=q.out;have:=bd.out;have:=j.out;rw[iW];exact oM
      refine t2 12 13 b ?_;refine dn ?_;have r:=A.drew.trans (N.mono A.size);have R:=h.below r;have mr:=bq R.fc 13;have bx:=aQ R.fc 13;have bi:=aG R.fc;have U:=US y;clear ac a3 b0 b4 y;by_cases a5:(g:Int)<(J:Int)
      .skip
       have d1:=(r.cell (p:=⟨1,0,none⟩) H).trans c1;go_wp2;go_ret;exact .inr ⟨e1,rfl,Y,r⟩
      .obtain⟨P,bv⟩:∃P,g=P+J:=⟨g - J,oM⟩;have bj:IntKind.i64.wrap ((g:Int) - (J:Int))=(P:Int):=by rw[IntWalk.i64_in _ ⟨oM,oM⟩];exact oM
       have a0:=aO (i:=13) (v:=vI (P:Int)) R.fc;have a8:=fU (T:=[225]) R.fc a0 (aU.setCell w7 f 13 _) (fun t ht=>by cases ht) dC h.lo;have h8:=R.cells (F':={F with bP:=(P:Int)}) a0 a8 rfl rfl;have D:fL X.length<=fL size->JJ (fL size)+3*fL X.length≥JJ (fL X.length)+3*fL size:=fun hh=>by have:=JK hh;exact oM
       have p:X.length<size->fL X.length<=fL size:=fun hh=>by unfold fL;exact oM
       have E:Shut (3*fL (max X.length (fL size*32))<=3*fL X.length+xn mv.n size):=by
        show 3*fL (max X.length (fL size*32))<=3*fL X.length+xn mv.n size;rw[a2.out];unfold xn;by_cases a4:size<=X.length
        .rw[if_pos a4];have:fL size<=fL X.length:=by unfold fL;exact oM
         have e2:fL (max X.length (fL size*32))<=fL X.length:=by unfold fL at this⊢;exact oM
         exact oM
        .rw[if_neg a4];have h1:=p oM;have h2:=D h1;have e2:fL (max X.length (fL size*32))<=fL size:=by unfold fL at h1⊢;exact oM
         exact oM
       have a1:fL size*32<1073741824:=by
        have:=E.out;have:=q.out;have:=j.out;have e3:fL size<=fL (max X.length (fL size*32)):=by unfold fL;exact oM
        exact oM
       have a9:=Gd h8 size oM b2 a1;clear a5 D p;go_wp2_with fail;refine a9.mono ?_;rintro e w9 ⟨rfl,ar,X',h9,aa,b7⟩;clear a9;go_wp2;go_ret;refine .inl ⟨rfl,k,l,c,ex,size,P,ar,X',L.out,z.1,z.2,a6.out,?_,U.out,by have:=q.out;have:=j.out;exact oM,h9,?_,(Px.aF r _).trans ((a8.mono (fun t ht=>by simp at ht;simp[ht])).trans b7)⟩
       .rw[aa];unfold fL;exact oM
       .rw[aa];have:=E.out;have:=q.out;have:=j.out;exact oM
     .go_wp2;go_ret;exact .inr ⟨e1,rfl,Y,a7⟩
end
end Go.Mark
