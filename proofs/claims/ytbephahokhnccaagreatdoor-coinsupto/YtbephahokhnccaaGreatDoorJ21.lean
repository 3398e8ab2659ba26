import Derived.Test.YtbephahokhnccaaGreatDoorJ19
import Derived.Test.YtbephahokhnccaaGreatDoorJ20
set_option linter.all false
set_option maxRecDepth 100000
set_option maxHeartbeats 8000000
namespace Go.Mark
open Go.RowKit Go.Proofs Go.Proofs.Tryz
variable{c:Ff}{cr:Int}{C:Kc}{S T:K4}{X xs J:K3}{f g b b2 n b0 b1 l k e t n2 m n':Nat}{sv mv y:SV}{s s0 s1:St}{v:vZ}{W W' W1 W2 W0:WR}{F:fC}
section
open Go.Shelf
variable [aB]
attribute [local go_sem] wd
def pH{V c:WR}(h:Px T W V)(a:Below W.heap.size V c):Px T W c:=
 ⟨a.os.tr h.os,a.tape.tr h.tape,a.output.tr h.output,aAw h.size a.size,fun k b=>by rw[a.block k b];exact h.block k b⟩
def eo:∀x,x<=22->1<=x->∃t l g,BM x=some (t,l,g)/\1<=t/\t<=3:=by
 intro x h a;have:x=1\/x=2\/x=3\/x=4\/x=5\/x=6\/x=7\/x=8\/x=9\/x=10\/x=11\/x=12\/x=13\/x=14\/x=15\/x=16\/x=17\/x=18\/x=19\/x=20\/x=21\/x=22:=oM
 rcases this with rfl|rfl|rfl|rfl|rfl|rfl|rfl|rfl|rfl|rfl|rfl|rfl|rfl|rfl|rfl|rfl|rfl|rfl|rfl|rfl|rfl|rfl<;>exact⟨_,_,_,rfl,dC,dC⟩
def Ml{N:Nat}(h:UC N c)(i:Nat)(n:i+4<=N):∃x,x<M/\Shut (c[i]?=some (.int .u64 (aI x 0))/\c[i+1]?=some (.int .u64 (aI x 1))/\c[i+2]?=some (.int .u64 (aI x 2))/\c[i+3]?=some (.int .u64 (aI x 3))):=by have⟨v0,e,b⟩:=h.2 i oM;have⟨v1,l,d⟩:=h.2 (i+1) oM;have⟨j,g,a⟩:=h.2 (i+2) oM;have⟨f,m,u3⟩:=h.2 (i+3) oM;obtain⟨x,k,rfl,rfl,rfl,rfl⟩:=IS v0 v1 j f b.1 d.1 a.1 u3.1 b.2 d.2 a.2 u3.2;exact⟨x,k,e,l,g,m⟩
def Hi(h:dT W f F sv mv S X)(x:Nat)(hx:1<=x/\x<=22)(a0:BM x=some (t,l,g))(ht:t<=3)(hS:t<=S.length):
   Cq 335 #[pq f 0,vB (x:Int)] W fun e w'=>Tl W f F mv S X t e w':=by
 have hs:=df x oM;rw[a0] at hs;simp only[RD] at hs;have a3:=US hx;clear hx a0;have⟨V0,A,B,hV,eA,eB,p,d,C⟩:=G2 W (.ce wz 41) (.ce #[vU 0,vU 0,vU 0,vU 0,vU 0,vU 0,vU 0,vU 0,vU 0,vU 0,vU 0,vU 0] 319);go_enter (qz func335),ntmps335;go_wp2_with fail;change Calls _ _ _ ((W.alloc (.ce wz 41)).alloc (.ce #[vU 0,vU 0,vU 0,vU 0,vU 0,vU 0,vU 0,vU 0,vU 0,vU 0,vU 0,vU 0] 319)) _;rw[<-hV];try rw[eB.out]
 rw[eA.out];have lB:A<B:=by have:=eA.out;have:=eB.out;omega
 clear hV;apply(hs _).mono;rintro e V1 ⟨rfl,z⟩;clear hs;replace p:=bk z p;replace d:=bk z d;replace C:=C.tr (z.mono C.size);clear z;have⟨V2,E,T,eE,hE,w⟩:=G5 V1 (.ce #[vI (t:Int),vI (l:Int),vI (g:Int)] 369);go_wp2_with fail;change Code.wp _ _ _ _ (V1.alloc (.ce #[vI (t:Int),vI (l:Int),vI (g:Int)] 369));rw[<-T];try rw[eE.out]
 clear T;replace p:=bk w p;replace d:=bk w d;replace C:=C.tr (w.mono C.size);clear w;have lW:W.heap.size<=A:=by have:=eA.out;omega
 have uz:UC 12 #[vU 0,vU 0,vU 0,vU 0,vU 0,vU 0,vU 0,vU 0,vU 0,vU 0,vU 0,vU 0]:=gV 12;go_loopw [16] (fun i V=>∃(k:Nat) (O:SV) (S':K4) (c:Ff),i=vI (k:Int)/\k<=t/\dT V f F O mv S' X/\O.a=sv.a/\S'.length+k=S.length/\V.heap[B]?=ob c 319/\UC 12 c/\V.heap[A]?=ob wz 41/\Px [225] W V) (fun i _=>t - (Go.RowKit.intOf i).toNat)
 case atStart=>exact⟨0,sv,S,_,rfl,aBa _,h.below C,rfl,rfl,d,uz,p,Px.aF C _⟩
 case round=>
  clear p d hE;obtain⟨k,aa,S1,c,rfl,hk,U,Q,G,d,j,p,J⟩:=hrel;have m:=US G;have s:=US Q;clear G Q;by_cases a8:k<t
  .have Y:=zG U (by have:=m.out;omega);have a5:(k:Int)<(t:Int):=oM
   have a9:IntKind.i64.wrap ((k:Int)+1)=((k+1:Nat):Int):=by rw[IntWalk.i64_in _ ⟨oM,oM⟩];omega
   go_wp2_with fail;apply Y.mono;rintro e w1 ⟨rfl,L,I⟩;clear Y;generalize tw S1 1=v;have G:=m.out;have n:=s.out;have a:=I.row d dC;have H:=I.row p dC;have hp:=J.tr I;have a2:k=0\/k=1\/k=2:=oM
   clear m s;rcases a2 with rfl|rfl|rfl
   .have R:=aG a;have u:=aJ a 0;have Z:=aQ a 0;rw[(j.pv (show 0<12 by decide)).1] at u;have q:=aJ a 1;have P:=aQ a 1;rw[(j.pv (show 1<12 by decide)).1] at q;have c2:=aJ a 2;have N:=aQ a 2;rw[(j.pv (show 2<12 by decide)).1] at c2;have c3:=aJ a 3;have f3:=aQ a 3;rw[(j.pv (show 3<12 by decide)).1] at c3;have r:((((w1.setCell ⟨B,0,none⟩ (vL v 0)).setCell ⟨B,1,none⟩ (vL v 1)).setCell ⟨B,2,none⟩ (vL v 2)).setCell ⟨B,3,none⟩ (vL v 3)).heap[B]?=_:=(aO (aO (aO (aO a))));have b:Bt B w1 ((((w1.setCell ⟨B,0,none⟩ (vL v 0)).setCell ⟨B,1,none⟩ (vL v 1)).setCell ⟨B,2,none⟩ (vL v 2)).setCell ⟨B,3,none⟩ (vL v 3)):=((((Bt.refl B w1).set 0 (vL v 0)).set 1 (vL v 1)).set 2 (vL v 2)).set 3 (vL v 3);have o:=((((j.set 0 (v:=aI v 0) ⟨bJ v _,bN v _⟩).set 1 (v:=aI v 1) ⟨bJ v _,bN v _⟩).set 2 (v:=aI v 2) ⟨bJ v _,bN v _⟩).set 3 (v:=aI v 3) ⟨bJ v _,bN v _⟩);go_wp2;clear u q c2 c3 Z P N f3;go_roundw
    case rel=>exact⟨1,_,_,_,rfl,oM,h.over L n (b.low.mono oM) b.low.size,n,by rw[aAt];omega,r,o,b.blk H oM,pH hp (b.low.mono oM)⟩
    case measure=>simp[Go.RowKit.intOf];omega
   .have R:=aG a;have u:=aJ a 4;have Z:=aQ a 4;rw[(j.pv (show 4<12 by decide)).1] at u;have q:=aJ a 5;have P:=aQ a 5;rw[(j.pv (show 5<12 by decide)).1] at q;have c2:=aJ a 6;have N:=aQ a 6;rw[(j.pv (show 6<12 by decide)).1] at c2;have c3:=aJ a 7;have f3:=aQ a 7;rw[(j.pv (show 7<12 by decide)).1] at c3;have r:((((w1.setCell ⟨B,4,none⟩ (vL v 0)).setCell ⟨B,5,none⟩ (vL v 1)).setCell ⟨B,6,none⟩ (vL v 2)).setCell ⟨B,7,none⟩ (vL v 3)).heap[B]?=_:=(aO (aO (aO (aO a))));have b:Bt B w1 ((((w1.setCell ⟨B,4,none⟩ (vL v 0)).setCell ⟨B,5,none⟩ (vL v 1)).setCell ⟨B,6,none⟩ (vL v 2)).setCell ⟨B,7,none⟩ (vL v 3)):=((((Bt.refl B w1).set 4 (vL v 0)).set 5 (vL v 1)).set 6 (vL v 2)).set 7 (vL v 3);have o:=((((j.set 4 (v:=aI v 0) ⟨bJ v _,bN v _⟩).set 5 (v:=aI v 1) ⟨bJ v _,bN v _⟩).set 6 (v:=aI v 2) ⟨bJ v _,bN v _⟩).set 7 (v:=aI v 3) ⟨bJ v _,bN v _⟩);go_wp2;clear u q c2 c3 Z P N f3;go_roundw
    case rel=>exact⟨2,_,_,_,rfl,oM,h.over L n (b.low.mono oM) b.low.size,n,by rw[aAt];omega,r,o,b.blk H oM,pH hp (b.low.mono oM)⟩
    case measure=>simp[Go.RowKit.intOf];omega
   .have R:=aG a;have u:=aJ a 8;have Z:=aQ a 8;rw[(j.pv (show 8<12 by decide)).1] at u;have q:=aJ a 9;have P:=aQ a 9;rw[(j.pv (show 9<12 by decide)).1] at q;have c2:=aJ a 10;have N:=aQ a 10;rw[(j.pv (show 10<12 by decide)).1] at c2;have c3:=aJ a 11;have f3:=aQ a 11;rw[(j.pv (show 11<12 by decide)).1] at c3;have r:((((w1.setCell ⟨B,8,none⟩ (vL v 0)).setCell ⟨B,9,none⟩ (vL v 1)).setCell ⟨B,10,none⟩ (vL v 2)).setCell ⟨B,11,none⟩ (vL v 3)).heap[B]?=_:=(aO (aO (aO (aO a))));have b:Bt B w1 ((((w1.setCell ⟨B,8,none⟩ (vL v 0)).setCell ⟨B,9,none⟩ (vL v 1)).setCell ⟨B,10,none⟩ (vL v 2)).setCell ⟨B,11,none⟩ (vL v 3)):=((((Bt.refl B w1).set 8 (vL v 0)).set 9 (vL v 1)).set 10 (vL v 2)).set 11 (vL v 3);have o:=((((j.set 8 (v:=aI v 0) ⟨bJ v _,bN v _⟩).set 9 (v:=aI v 1) ⟨bJ v _,bN v _⟩).set 10 (v:=aI v 2) ⟨bJ v _,bN v _⟩).set 11 (v:=aI v 3) ⟨bJ v _,bN v _⟩);go_wp2;clear u q c2 c3 Z P N f3;go_roundw
    case rel=>exact⟨3,_,_,_,rfl,oM,h.over L n (b.low.mono oM) b.low.size,n,by rw[aAt];omega,r,o,b.blk H oM,pH hp (b.low.mono oM)⟩
    case measure=>simp[Go.RowKit.intOf];omega
  .obtain rfl:k=t:=oM
   have ac:¬(k:Int)<(k:Int):=oM
   have⟨x0,a1,q0⟩:=Ml j 0 dC;have⟨x1,a4,q1⟩:=Ml j 4 dC;have⟨x2,a6,q2⟩:=Ml j 8 dC;have u:=aJ d 0;rw[q0.out.1] at u;have q:=aJ d 1;rw[q0.out.2.1] at q;have c2:=aJ d 2;rw[q0.out.2.2.1] at c2;have c3:=aJ d 3;rw[q0.out.2.2.2] at c3;have c4:=aJ d 4;rw[q1.out.1] at c4;have c5:=aJ d 5;rw[q1.out.2.1] at c5;have c6:=aJ d 6;rw[q1.out.2.2.1] at c6;have c7:=aJ d 7;rw[q1.out.2.2.2] at c7;have c8:=aJ d 8;rw[q2.out.1] at c8;have c9:=aJ d 9;rw[q2.out.2.1] at c9;have XU:=aJ d 10;rw[q2.out.2.2.1] at XU;have Lt:=aJ d 11;rw[q2.out.2.2.2] at Lt;have a7:=aG d;have M:=Hh x0 x1 x2 a1 a4 (x:Int) (by have:=a3.out;omega);go_wp2_with fail;apply(M _).mono;rintro e V5 ⟨⟨y,hy,rfl⟩,K⟩;clear M u q c2 c3 c4 c5 c6 c7 c8 c9 XU Lt;replace p:=bk K p;go_wp2_with (refine iX bG (bH y) p rfl (fun V hV D=>?_))
   refine eH bG hV rfl results335 ⟨⟨y,hy,rfl⟩,_,_,h.over (U.below K) s.out (D.low.mono lW) D.low.size,m.out,pH (pH J (K.mono J.size)) (D.low.mono lW)⟩
def r5(p:Pd W C s f F sv mv S X g b n2)(k:1<=b)(x:Nat)(d:1<=x/\x<=22){c:Nat}(a:BM x=some (t,l,c))(i:t<=S.length):
  Cq 263 #[pq f 0,vB (x:Int)] W fun e h=>Dn W C s f F X g b e h:=by
 have⟨o,m,n,e,j,h3⟩:=eo x d.2 d.1;rw[a] at e;cases e;exact Bq p k x t d j fun _ _ p=>Hi p.fr x d a h3 i
end
section
variable [aB]
attribute [local go_sem] wd
theorem zH:∀(dl:List Int) (i:Nat) (k:Int),(k∈dl->∃j,cZ k (IW dl) i=some (j,.agg #[]))/\(k∉dl->cZ k (IW dl) i=none)
 | [],_,_=>⟨fun h=>(by cases h),fun _=>rfl⟩
 |r::dl,i,k=>by
  have a:=zH dl (i+1) k;show(_->∃j,cZ k ((r,Value.agg #[])::IW dl) i=_)/\(_->cZ k ((r,Value.agg #[])::IW dl) i=_);unfold cZ;by_cases e:k=r
  .simp[e]
  .simp only[aAx,e,false_or,if_false];exact a
def Hk{d:Nat}{A:AM}{D:K7}(h:LF W l m d cr A D J)(k:Int)(L:J.length<400000000000):
   Cq 334 #[pq l 0,vI k] W fun e s=>(D k/\e=.rt (.bool false)/\Bw W s)\/(¬D k/\e=.rt (.bool true)/\LF s l m d cr A (fun j=>D j\/j=k) (J++[QU k])/\Px LT W s):=by
 have f:Bw W (W.nc #[] 179):=ba;have⟨c,i,p,_,_⟩:=h.br;have G:=h.lt.1;have N:=h.maps.2.2.2;have q:=oD pg OC (z:=.agg #[]) i.FL (k:=k) trivial (fun _ _=>trivial) fun w=>(aK 179 w).tr (zeroValue179 w);by_cases g:k∈c
 .have⟨j,F⟩:=(zH c 0 k).1 g;rw[F] at q;have b:=(p k).1 g;clear g F;go_enter (qz func334),ntmps334;go_wp2;go_ret;exact .inl ⟨b,rfl,f⟩
 .rw[(zH c 0 k).2 g] at q;have b:¬D k:=fun x=>g ((p k).2 x);have B:=h.below f;have⟨dl,t,z,lY,r⟩:=B.br;have n:k∉dl:=fun x=>b ((z k).1 x);have⟨K,I,o,y⟩:=oC pg OC (k:=k) (v:=.agg #[]) t trivial fun _ _=>trivial;rw[nZ k _ _ (by simpa[IW] using n),show IW dl++[(k,Value.agg #[])]=IW (dl++[k]) by simp[IW]] at y;have⟨H,v⟩:=r (.map K I) (dl++[k]) (fun j=>D j\/j=k) y (by rw[aBv];exact⟨lY,sI,by simp;intro a M e;exact n (e▸M)⟩) (fun j=>by simp[z j]);have C:=ay H 404 (.agg #[vI k]) L;have E:=B.maps.2.2.2;clear g;go_enter (qz func334),ntmps334;go_wp2_with fail;apply C.mono;rintro e w3 ⟨rfl,h3,u,_⟩;clear C o;go_wp2;go_ret;exact .inr ⟨b,rfl,h3,(Px.aF f _).tr (v.tr u)⟩
def Mi.cn(h:Mi W C s){i:Int}{v:Av}{J1:K3}(a:Tc s.A i b v s.J J1):v.cn<M:=by
 rcases a with⟨c,_⟩| ⟨_,⟨ms,rfl⟩,_⟩
 .have⟨L,dl,f,e,_⟩:=h.lf;rw[<-e] at c;obtain⟨q,d,rfl,rfl,rfl⟩:=fR c;exact f.cn q d
 .show 0<M;decide
def Hl(h:Mi W C s)(i:Int)(o:Ir i)(x:Nat)(p:x<M)(g:x<=(gt s.A i).cn)(r:s.c<399999999990):
  Cq 49 #[pq C.l 0,vI i,wd x] W fun e j=>e=rU/\To W {C with T:=C.T - x} s 2 j:=by
 refine(xj h.lf i x p (by have:=h.bj;omega)).mono ?_;rintro e j ⟨rfl,⟨b,v,q,a,m⟩,k⟩;have l:=H6 a;have f:=vw h.tq.CL i;have n:=h.tq.lt;rw[l.1] at g f;have d:(v.cn+M - x) % M+C.T=v.cn+(C.T - x):=by rw[show v.cn+M - x=v.cn - x+M by omega,Nat.add_mod_right,aBS (by omega)];omega
 exact⟨rfl,Mi.to (h.up o a m k (fun c=>⟨⟨c.nonce.1,by have:=c.nonce.2;show v.nonce<=4611686018427387904+((s.c+2:Nat):Int);omega⟩,c.sup.mono oM,c.row,c.code,c.mark⟩) (QV a (h.cn a) _) (T':=C.T - x) d (by omega) (fun _=>rfl)) k lR⟩
def Hm(h:Mi W C s)(i:Int)(l:Ir i)(x:Nat)(m:C.T+x<M)(o:s.c<399999999990):
  Cq 94 #[pq C.l 0,vI i,wd x] W fun e f=>e=rU/\To W {C with T:=C.T+x} s 2 f:=by
 refine(an h.lf i x (by omega) (by have:=h.bj;omega)).mono ?_;rintro e f ⟨rfl,⟨b,v,n,a,k⟩,g⟩;have j:=H6 a;have d:=vw h.tq.CL i;rw[j.1] at d;exact⟨rfl,Mi.to (h.up l a k g (fun c=>⟨⟨c.nonce.1,by have:=c.nonce.2;show v.nonce<=4611686018427387904+((s.c+2:Nat):Int);omega⟩,c.sup.mono oM,c.row,c.code,c.mark⟩) (QV a (h.cn a) _) (T':=C.T+x) (by show(v.cn+x) % M+C.T=v.cn+(C.T+x);rw[aBS (by omega)];omega) m (fun _=>rfl)) g lR⟩
def To.trans(g:Ex n s s1/\Px LT W W1/\s1.N=s.N/\s1.xs=s.xs/\s1.back=s.back)(i:To W1 C s1 n' W2):To W C s (n+n') W2:=
 let⟨h,a,b,c,d,e,f⟩:=i
 ⟨h,a,g.1.tr b,g.2.1.tr c,d.tr g.2.2.1,e.tr g.2.2.2.1,f.tr g.2.2.2.2⟩
def To.tr(a:Ex n s s1/\Px LT W W1/\s1.N=s.N/\s1.xs=s.xs/\s1.back=s.back)(b:To W1 C s1 n' W2):To W C s (n+n') W2:=To.trans a b
def eu(h:Mi W C s)(i j:Int)(r:Ir i)(v:Ir j)(x:Nat)(t:x<M)(g:x<=(gt s.A i).cn)(A:s.c<399999999980):
  Cq 136 #[pq C.l 0,vI i,vI j,wd x] W fun e n=>e=rU/\To W C s 4 n:=by
 have b:Bw W (W.nc (wq x) 41):=ba;have u:=aM W (.ce (wq x) 41);have k:=Hl (h.below b) i r x t g oM;go_enter (qz func136),ntmps136;go_wp2_with fail;apply k.mono;rintro e w1 ⟨rfl,s1,q,l,a,o,z,p⟩;clear k;have c:=a.row u;have y:=l.c.2;have m:=h.tq.lt;have w:=vw h.tq.CL i;have f:C.T - x+x=C.T:=by omega
 have d:=Hm q j v x (by show C.T - x+x<M;omega) oM;simp only[f] at d;go_wp2_with (refine pG bG c rfl ?_)
 apply d.mono;rintro e w2 ⟨rfl,t2⟩;clear d;go_wp2;refine bodyPost_end (results_none rfl _ _ _) rfl ?_;exact⟨rfl,To.tr ⟨l,(Px.aF b _).tr a,o,z,p⟩ t2⟩
def ew(h:Mi W C s)(i:Int)(o:Ir i)(t:Lp)(k:t.size<2147483648)(d:¬C.cm)(q:s.c<399999999980):
  Cq 179 #[pq C.l 0,vI i,.string t] W fun e j=>e=rU/\To W C s 2 j:=by
 refine(bp h.lf i t k (by have:=h.bj;omega)).mono ?_;rintro e j ⟨rfl,⟨b,v,p,mk,a,m,f,n⟩,l⟩;exact⟨rfl,Mi.to (h.up o a m l (fun g=>⟨⟨g.nonce.1,by have:=g.nonce.2;show v.nonce<=4611686018427387904+((s.c+2:Nat):Int);omega⟩,g.sup.mono oM,f,k,by show mk.n<_;omega⟩) (au a _ _) (by show _+C.T=_+C.T;rfl) h.tq.lt (fun c=>absurd c d)) l lR⟩
def Hn(h:Mi W C s)(k:Int)(b:¬C.cm)(n:s.c<399999999980):
  Cq 334 #[pq C.l 0,vI k] W fun e d=>(∃q,e=.rt (.bool q))/\To W C s 1 d:=by
 refine(Hk h.lf k (by have:=h.bj;omega)).mono ?_;rintro e d (⟨_,rfl,f⟩| ⟨g,rfl,i,a⟩)
 .exact⟨⟨_,rfl⟩,s,h.below f,(Ex.refl s).mono oM,Px.aF f _,rfl,rfl,rfl⟩
 .refine⟨⟨_,rfl⟩,{s with D:=fun j=>s.D j\/j=k,J:=s.J++[QU k],c:=s.c+1},?_,⟨ax g,⟨by show s.c<=s.c+1;omega,aAz _⟩,aAz _,sI,rfl,aBq _⟩,a,rfl,rfl,rfl⟩;exact h.qy i a (fun j m u l=>(h.av j m u l).px a dC oM) (h.sup.mono oM) (by have:=h.bj;simp;omega) ⟨h.bc.1,by have:=h.bc.2;show s.cr*30000<=((s.c+1:Nat):Int);omega⟩ oM ⟨h.tq.CL,h.tq.lt,fun c=>absurd c b⟩
def Mi.Mu(h:Mi W C s)(i:Int):(gt s.A i).cn<M:=by
 unfold gt;cases b:s.A i with
 |none=>show 0<M;decide
 |some a=>exact h.cn (i:=i) (b:=a.1) (v:=a.2) (J1:=s.J) (.inl ⟨b,rfl⟩)
def ff(h:dT W f F sv mv S X)(A:Mi W C s)(l:F.m=C.mc)(J:Ir F.self)(U:F.bP=(g:Int))(I:Int)(P:Ir I)(D:¬C.cm)(hc:s.c<399999999900):
   Cq 305 #[pq f 0,vI I] W fun e w'=>∃t v,e=.rt (.iface t v)/\En W C s f F g b (.iface t v) w':=by
 have Y:=bq h.fc 0;rw[l] at Y;have a4:=aG h.fc;have⟨a6,cm⟩:=A.fE;have B:(gt s.A F.self).cn<M:=A.Mu F.self;have x:=US U;clear U;go_enter (qz func305),ntmps305;go_wp2_with fail;refine rq (fun V=>V.heap[f]?=ob (iE F sv mv) 225) h.fc fun a=>?_;refine t4 0 1 2 3 a ?_;refine tV 4 (fun _ E=>bq E 6) a ?_;refine t5 5 6 7 8 9 a ?_;refine tV 10 (fun _ E=>bq E 6) a ?_;refine rA 11 fun K G=>?_;go_simp;apply(qm (A.below bR.drew).lf F.self).mono;rintro e w1 ⟨rfl,i⟩;have m1:=(A.below bR.drew).below i;go_wp2_with fail;refine G.out _ _ (bk i a) fun a=>?_;refine rA 12 fun K G=>?_;go_simp;apply(eu m1 F.self I J P _ B lR oM).mono;rintro e w2 ⟨rfl,s2,m2,Z,p, -⟩;go_wp2_with fail;refine G.out _ _ (p.row a) fun a=>?_;refine dn ?_;have z:Px LT W w2:=((Px.aF bR.drew _).tr (Px.aF i _)).tr p;have L:=h.px z dC;have a2:=aG L.fc;have k6:=bq L.fc 6;have a5:=Z.c.2;have n:=Hn m2 F.self D oM;clear Y cm;go_wp2_with fail;apply n.mono;rintro e w3 ⟨⟨q,rfl⟩,N,k,R,o, -⟩;clear n k6;have y:=L.px o dC;have w:=z.tr o;have j:=Z.tr R;cases q
 .have r:=JP y (y:=⟨none,0,0⟩) (.inl ⟨rfl,rfl,rfl⟩);go_wp2_with fail;apply r.mono;rintro e w4 ⟨⟨t,m,rfl⟩,O⟩;have c:=US m;clear r m;go_wp2;go_ret;exact⟨_,_,rfl,En.JQ k y.fz j (w.mono dC) x.out oM (y:=⟨none,0,0⟩) dC O c.out⟩
 .have⟨m4,u⟩:=k.back 24000 ⟨dC,dC⟩;have f4:=y.px u dC;have r:=JP f4 (y:=⟨none,0,0⟩) (.inl ⟨rfl,rfl,rfl⟩);have⟨lg,d,_⟩:=k.mc;have Q:=bq y.fc 0;have q2:=bq d 2;have a3:=aQ d 2;have a0:=aG y.fc;have T:=aG d;rw[l] at Q;have a1:iw (N.back+24000)=N.back+24000:=IntWalk.i64_in _ ⟨by have:=k.bb.1;omega,by have:=k.bb.2;have:=R.c.2;omega⟩;go_wp2_with fail;apply r.mono;rintro e w5 ⟨⟨t,m,rfl⟩,H⟩;have c:=US m;clear r m Q q2;go_wp2;go_ret;exact⟨_,_,rfl,En.JQ m4 f4.fz (j.tr (Ex.back N 24000)) ((w.mono dC).tr (u.mono dC)) x.out oM (y:=⟨none,0,0⟩) dC H c.out⟩
def Mv(p:Pd W C s f F sv mv S X g b n2)(A:1<=S.length)(d:¬C.cm):Cq 263 #[pq f 0,vB 64] W fun e q=>Dn W C s f F X g b e q:=by have l:=gA p.fr A;go_enter (qz func263),ntmps263;go_wp2_with fail;apply l.mono;rintro e w1 ⟨rfl,⟨z,x⟩,c⟩;clear l;go_wp2_with fail;apply(E7 (tw S 1) _).mono;rintro e w2 ⟨i,j,m,rfl,a⟩;have r:=(p.mi.px c dC).below a;have k:=ff (b:=b) (x.below a) r p.fm p.vl.2 p.bP i ⟨j,oM⟩ d (by have:=p.cl;omega);go_wp2_with fail;apply k.mono;rintro e w3 ⟨t,v,rfl,o,n,u,w,h,y⟩;clear k;go_wp2;go_ret;exact .inr ⟨t,v,rfl,o,n,u,w,((c.tr (Px.aF a _)).mono dC).tr h,y⟩
end
section
def Qc.base{h1:b0<=b1}{j:b0<=b2}{k:Dm}{L:List (Int×Nat×Ac)}(h: @LG ⟨b0,b1,h1⟩ W l m k cr L J): @LG ⟨b0,b2,j⟩ W l m k cr L J:=by
 obtain⟨⟨v,r⟩,o,n,s,u,p,t,q,e,a,c,d,g,b,f,i⟩:=h
 letI:aB:=⟨b0,b2,j⟩
 exact⟨⟨v,r⟩,o,n,s,u,p,t,q,e,a,c,d,g,b,f,i⟩
def Ge.base{h1:b0<=b1}{b:b0<=b2}{c a:Addr}(h: @Ge ⟨b0,b1,h1⟩ W c a): @Ge ⟨b0,b2,b⟩ W c a:=by
 obtain⟨g,l,i,d,m,f,k,e,j⟩:=h
 letI:aB:=⟨b0,b2,b⟩
 exact⟨g,l,i,d,m,f,k,e,j⟩
def Mi.base{h1:b0<=b1}{a:b0<=b2}(h: @Mi ⟨b0,b1,h1⟩ W C s): @Mi ⟨b0,b2,a⟩ W C s:=by
 obtain⟨⟨L,dl,k,q⟩,m,i,g,n,p,j,o,l,d,b,c⟩:=h;have e: @LG ⟨b0,b2,a⟩ W C.l C.m ⟨C.d,dl⟩ s.cr L s.J:=Qc.base k;have f: @Ge ⟨b0,b2,a⟩ W C.dp C.li:=Ge.base g
 letI:aB:=⟨b0,b2,a⟩
 exact⟨⟨L,dl,e,q⟩,m,i,f,n,p,j,o,l,d,b,c⟩
def r9{a:b0<=b1}{b:b0<=b2}(c:b1<=b2)(t:Nat): @lw ⟨b0,b1,a⟩ t<= @lw ⟨b0,b2,b⟩ t:=by
 unfold lw aB.lo;repeat' split
 all_goals first|exact c|exact aAz _
def Px.base{h1:b0<=b1}{e:b0<=b2}(i:b1<=b2)(h: @Px ⟨b0,b2,e⟩ T W W'): @Px ⟨b0,b1,h1⟩ T W W':=by
 obtain⟨g,l,j,f,m⟩:=h;refine @Px.mk ⟨b0,b1,h1⟩ _ _ _ g l j f fun k d=>(m k d).imp id fun⟨a,b,c⟩=>⟨a,Nat.le_trans (r9 i _) b,c⟩
def Px.wait{f:b0<=b2}(h: @Px ⟨b0,b2,f⟩ T W W')(l:W.heap.size<=b2){t:Fh}{i:Nat×Nat}(d:W.heap[k]?=some (.cells c t i))(g:t=225\/t=41\/t=5\/t∉T):W'.heap[k]?=some (.cells c t i):=by
 have j:k<W.heap.size:=(aAu.1 d).1;rcases @Px.block ⟨b0,b2,f⟩ _ _ _ h k j with e| ⟨a,b,_⟩
 .exact e.tr d
 .rw[d] at a b;change t∈T at a;change @lw ⟨b0,b2,f⟩ t<=k at b;exfalso;rcases g with rfl|rfl|rfl|g
  .simp[lw] at b;omega
  .simp[lw,aB.lo] at b;omega
  .simp[lw,aB.lo] at b;omega
  .exact g a
variable [aB]
def JZ{f:aB.b0<=b2}{s:Nat}(h:W.ownsRow b e s v n xs)(d: @Px ⟨aB.b0,b2,f⟩ T W W')(j:W.heap.size<=b2)(i:e=225\/e=41\/e=5\/e∉T):W'.ownsRow b e s v n xs:=
 dM h fun g k=>by have⟨c,a⟩:=cL h g k;exact(d.wait j a i).tr a.symm
def dT.wait{k:aB.b0<=b2}(h:dT W f F sv mv S X)(a: @Px ⟨aB.b0,b2,k⟩ T W W')(b:W.heap.size<=b2)(h4:4∉T):dT W' f F sv mv S X:=by
 refine⟨a.wait b h.fc (.inl rfl),h.lo,⟨JZ h.st.own a b (.inr (.inl rfl)),h.st.num,aAw h.st.low (@Px.size ⟨aB.b0,b2,k⟩ _ _ _ a)⟩,h.sm,JZ h.me a b (.inr (.inr (.inl rfl))),h.mb,?_,?_⟩
 .rcases h.ma with d| ⟨g,o,c,e,j,i⟩
  .exact .inl d
  .exact .inr ⟨g,o,c,e,a.wait b j (.inr (.inr (.inr h4))),i⟩
 .rcases h.da with d| ⟨g,o,c,l,e,j,i,m⟩
  .exact .inl d
  .exact .inr ⟨g,o,c,l,e,j,a.wait b i (.inr (.inr (.inl rfl))),m⟩
def se{s:Nat}(h:W.ownsRow b e s (.slice y.a y.n y.c) n xs)(c:k<=n):W.ownsRow b e s (.slice y.a k y.c) k (xs.take (k*s)):=by
 have⟨x,y,z⟩:=y;refine⟨by rw[List.length_take,h.1,aCm (aCe s c)],?_⟩;rcases h.2 with⟨d,f⟩| ⟨g,cap,a,d,f,h3,h4,j,i,l⟩
 .cases d;obtain rfl:k=0:=oM
  exact .inl ⟨rfl,rfl⟩
 .cases d;refine .inr ⟨g,_,a,rfl,f,h3,aAw c h4,j,i,?_⟩;rw[<-l,aCY,aCm (aCe s c)]
def zJ{s:Nat}(h:W.ownsRow b e s (.slice y.a y.n y.c) n xs):y.n=n/\y.n<=y.c/\xs.length=n*s:=by
 have⟨x,y,z⟩:=y;refine⟨?_,?_,h.1⟩
 .rcases h.2 with⟨a,d⟩| ⟨g,cap,c,a,_⟩
  .cases a;exact d.symm
  .cases a;rfl
 .rcases h.2 with⟨a,d⟩| ⟨g,cap,c,a,_,_,h4,_⟩
  .cases a;exact aAz _
  .cases a;exact h4
end
section
variable [aB]
attribute [local go_sem] wd
def Cb(t:Mi W C s)(i:Int)(x:Nat)(y:x<M):Cq 133 #[pq C.mc 0,vI i,wd x] W fun e u=>((e=.rt .nilIface/\s.depth<64/\x<=(gt s.A i).cn)\/∃k,e=.rt (.iface 407 (.pointer (some k)))/\(k=C.dp\/k=C.li)/\Shut (¬(s.depth<64/\x<=(gt s.A i).cn)))/\Bw W u:=by
 have a:Bw W (W.alloc (.ce (wq x) 41)):=ba;have f:=t.below a;have n:=aM W (.ce (wq x) 41);have⟨lg,d,_⟩:=f.mc;have q:=bq d 3;have m:=aG d;have w:=f.ge.de;have r:=f.ge.le;have h3:3<(W.alloc (.ce (wq x) 41)).heap.size:=by have:=f.ge.lo.1;have:=f.ge.low;omega
 have v:0<(W.alloc (.ce (wq x) 41)).heap.size:=oM
 by_cases o:s.depth=64
 .rw[o] at q;go_enter (qz func133),ntmps133;go_wp2;go_ret;exact⟨.inr ⟨_,rfl,.inl rfl,fun h=>by have:=h.1;omega⟩,a⟩
 .have j:=US o;go_enter (qz func133),ntmps133;go_wp2_with fail;change Code.wp _ _ _ _ (W.alloc (.ce (wq x) 41));generalize(W.alloc (.cells (wq x) 41))=A at a f n d q m w r h3 v⊢;generalize W.heap.size=B at n⊢;refine rq (fun V=>V.heap[C.mc]?=ob (aZ C.l lg s.back s.depth) 165/\V.heap[B]?=ob (wq x) 41) ⟨d,n⟩ fun c=>?_;refine t3 0 1 2 c ?_;refine tV 3 (fun _ l=>bq (l.1) 0) c ?_;refine t1 4 c ?_;refine tV 5 (fun _ l=>q4 (l.2)) c ?_;refine rA 6 fun K p=>?_;go_simp;apply(qo (f.below bR.drew).lf i x y h3 r).mono;rintro e w2 ⟨z,b⟩;rcases z with⟨rfl,g⟩| ⟨rfl,g⟩
  .go_wp2_with fail;refine p.out _ _ ⟨bk b c.1,bk b c.2⟩ fun c=>?_;refine t1 7 c ?_;refine dn ?_;go_wp2;go_ret;have:=t.bd;have:=j.out;exact⟨.inl ⟨rfl,oM,g⟩,a.drew.tr (b.mono a.size)⟩
  .go_wp2_with fail;refine p.out _ _ ⟨bk b c.1,bk b c.2⟩ fun c=>?_;refine t1 7 c ?_;refine dn ?_;go_wp2;go_ret;exact⟨.inr ⟨_,rfl,.inr rfl,fun h=>by have:=h.2;omega⟩,a.drew.tr (b.mono a.size)⟩
def Cc(d:Nat)(s:St)(b a:Int)(val:Nat)(data:SV)(c:Int):fC:=⟨d,(s.J.length:Int),(s.N:Int),s.back,⟨#[]⟩,⟨none,0,0⟩,b,a,val,data,c,0,0⟩
def OW(i:Mi W C s)(b a:Int)(val:Nat)(data:SV)(f:Int):
  Cq 134 #[pq C.mc 0,.agg (sq b a val data f)] W fun e d=>e=.rt (pq W.heap.size 0)/\d.heap[W.heap.size]?=ob (iE (Cc C.mc s b a val data f) ⟨none,0,0⟩ ⟨none,0,0⟩) 225/\Bw W d:=by
 have⟨L,dl,k,_⟩:=i.lf;have⟨lg,g,c⟩:=i.mc;have l:=(zJ c).1;apply(KB k g b a val data f).mono;rintro e d ⟨rfl,h,j⟩;rw[l] at h;exact⟨rfl,h,j⟩
def St.un(s s0:St):St:={s with A:=s0.A,D:=s0.D,J:=s0.J,N:=s0.N,xs:=s0.xs,back:=s0.back}
def DG{E:Nat}{f N gg:Int}{m:vZ}(J:Mi W C s)(F:Ex n s0 s)(a:Mi W0 C s0)(O:Px TT W0 W)(hc:s.c<399999999900)(T:W.heap[E]?=ob #[vI f,vI N,m,vI (s0.J.length:Int),vI (s0.N:Int),vI s0.back] 303):
  Cq 137 #[pq C.mc 0,.iface 217 (.agg #[vI gg,.iface 299 (pq E 0)])] W fun e d=>e=.rt (.iface 217 (.agg #[vI gg,.iface 299 (pq E 0)]))/\Mi d C (s.un s0)/\Px TT W d/\d.heap[E]?=ob #[vI f,vI N,m,vI (s0.J.length:Int),vI (s0.N:Int),vI s0.back] 303:=by
 refine GH (Φ:=fun d=>Mi d C (s.un s0)/\Px TT W d/\d.heap[E]?=ob #[vI f,vI N,m,vI (s0.J.length:Int),vI (s0.N:Int),vI s0.back] 303) fun w L=>?_;have o:=J.below L;have⟨lg,G,l⟩:=o.mc;have⟨Y,r,R⟩:=zJ l;have p:s0.xs.length=s0.N*6:=by have⟨a0,_,U⟩:=a.mc;exact U.1
 have y:=bk L T;have⟨rs,Q,V,z⟩:=F.st;refine Calls.mono (so (Φ:=fun u=>LF u C.l C.m C.d s.cr s0.A s0.D s0.J/\Px LT w u) G y o.ge.et (by rw[Y];exact F.N) r (fun x B=>?_)) ?_
 .have I:=(o.lf.below B);rw[Q] at I;refine(F7 I (by rw[<-Q];have:=J.bj;omega) z).mono ?_;rintro e w4 ⟨rfl,Z,P⟩;refine⟨rfl,⟨Z,(Px.aF B _).tr P⟩,fun k c t K S=>P.row S ?_⟩;rcases K with rfl|rfl|rfl<;>decide
 .rintro e d ⟨rfl,w1,⟨I,g⟩,A,M⟩;have q:=g.row G;have j:Px [165] w1 d:=wZ q A M (fun t K=>by cases K) dC J.wT;have H:Px TT w d:=(g.mono dC).tr (j.mono dC);have D:Px TT W d:=(Px.aF L _).tr H;have h:=F.c.1;refine⟨rfl,⟨I.XV j dC,⟨_,A,?_⟩,J.wT,o.ge.px H,fun i b v X=>(a.av i b v X).px (O.tr D) dC h,a.sup.mono h,aAw a.bj h,⟨aAw a.bn.1 h,a.bn.2⟩,o.bc,⟨a.bb.1,by have:=a.bb.2;show s0.back<=24000*(s.c:Int);omega⟩,o.bd,a.tq⟩,D,?_⟩
  .have h3:=se (jX (jX l g dC) j dC) (k:=s0.N) F.N;rw[<-p,F.xs] at h3;exact h3
  .exact j.row (g.row y dC) dC
def Mi.Mw(h:Mi W C s)(a:Int)(f:0<=a/\a<=64):Mi (W.setCell ⟨C.mc,3,none⟩ (vI a)) C {s with depth:=a}/\Px [165] W (W.setCell ⟨C.mc,3,none⟩ (vI a)):=by have⟨lg,d,k⟩:=h.mc;have e:=aO (i:=3) (v:=vI a) d;have c:Px [165] W (W.sA C.mc 3 (vI a)):=wZ d e (aU.sC W C.mc 3 _) (fun t j=>by cases j) dC h.wT;exact⟨⟨h.lf.XV c dC,⟨lg,e,jX k c dC⟩,h.wT,h.ge.px c,fun i b v g=>(h.av i b v g).px c dC lR,h.sup,h.bj,h.bn,h.bc,h.bb,f,h.tq⟩,c⟩
def En.px{d:Int}(h:En W C s f F g b v W')(l:s.depth=d)(e:Px [165] W' W1)(x:∀c,Mi W' C c->c.depth=d->Mi W1 C {c with depth:=s0.depth})(u:s={s0 with depth:=d})(j:Px [165] W2 W):En W2 C s0 f F g b v W1:=by
 have⟨c,n,k,a,y,p,q⟩:=h;subst u;refine⟨_,n,x c k (a.dp.tr l),⟨a.st,a.c,a.N,a.xs,rfl,a.cr⟩,((j.mono dC).tr y).tr (e.mono dC),p.px e dC,?_⟩;rcases q with i| ⟨r,t,w,o,i,m,h3,h4⟩
 .exact .inl i
 .exact .inr ⟨r,t,w,o,i,e.row m dC,h3.px e k.ge.low,h4⟩
def Ht(k:Mi W C s)(I:s.depth<64)(fr:dT W f F sv mv S X)(H:∀w,Mi w C {s with depth:=s.depth+1}->dT w f F sv mv S X->Px [165] W w->Cq 180 #[pq f 0] w fun e i=>∃t v,e=.rt (.iface t v)/\En w C {s with depth:=s.depth+1} f F g b (.iface t v) i):
  Cq 139 #[pq C.mc 0,pq f 0] W fun e i=>∃t v,e=.rt (.iface t v)/\En W C s f F g b (.iface t v) i:=by
 have⟨lg,c,_⟩:=k.mc;have z:=bq c 3;have m:=aQ c 3;have D:=aG c;have G:=k.bd.1;have J:iw (s.depth+1)=s.depth+1:=iW;have K:IntKind.i64.wrap (s.depth+1 - 1)=s.depth:=by rw[IntWalk.i64_in _ ⟨oM,oM⟩];omega
 have⟨E,j⟩:=k.Mw (s.depth+1) ⟨oM,oM⟩;have p:=H _ E (fr.px j dC) j;clear H;go_enter (qz func139),ntmps139;go_wp2_with fail;apply p.mono;rintro e w2 ⟨t,v,rfl,q⟩;clear p z m;have l:=q;have⟨o,n,h,A,_,_⟩:=q;have⟨x,a,_⟩:=h.mc;have u:=bq a 3;have B:=aQ a 3;have d:o.depth=s.depth+1:=A.dp;rw[d] at u;have r:=aG a;have⟨_,p3⟩:=h.Mw s.depth ⟨oM,oM⟩;clear d a c;go_wp2;go_ret;exact⟨t,v,rfl,l.px rfl p3 (fun o h y=>(h.Mw s.depth ⟨oM,oM⟩).1) rfl j⟩
end
section
def Rp(g:Nat):Prop:=∀(_:aB) (W:WR) (C:Kc) (s:St) (f:Nat) (F:fC),dT W f F ⟨none,0,0⟩ ⟨none,0,0⟩ [] []->Mi W C s->F.m=C.mc->F.bP=(g:Int)->F.place=0->F.mark.n<2147483648/\F.text.size<2147483648/\(C.cm->Wo F.text)->F.data.n<=F.data.c/\F.data.n<2147483648->F.val<M/\Ir F.self->g<9000000->s.c+g<388000000000->
 Calls zQ.prog 180 #[pq f 0] W fun e a=>∃t v,e=.returned (.iface t v)/\En W C s f F g 0 (.iface t v) a
variable [aB]
attribute [local go_sem] wd
def Ce(q:Nat)(Z:Prop)(W:WR)(C:Kc)(s s0:St)(g:Nat)(v:vZ)(d:WR):Prop:=
 ∃c n,Mi d C c/\Ex n s c/\Px TT W d/\((∃(a:Nat) (t:Lp),v=.iface 174 (.agg #[.int .i64 (a:Int),.string t])/\a<=g/\n+a<=g+12/\t.size<1073741824)\/
  (∃(a:Nat) (id:Int),v=.iface 177 (.agg #[.int .i64 (a:Int),.int .i64 id])/\a<=g/\n+a<=g+q)\/
  (∃(h:Int) (f:Nat) (b:Addr),v=.iface 217 (.agg #[.int .i64 h,.iface 299 (pq f 0)])/\(∃e,d.heap[f]?=ob e 303/\e[2]?=some (.iface 407 (.pointer (some b))))/\Eo d C.dp C.li b/\n<=g+q/\c=c.un s0)\/
  (∃b:Addr,v=.iface 217 (.agg #[.int .i64 (g:Int),.iface 407 (.pointer (some b))])/\(b=C.dp\/b=C.li)/\Z/\c=s))
def dT.fresh(c:W.heap[f]?=ob (iE F ⟨none,0,0⟩ ⟨none,0,0⟩) 225)(d:aB.b1<=f)(b:FW W F.mark)(a:JI W F.data):dT W f F ⟨none,0,0⟩ ⟨none,0,0⟩ [] []:=
 ⟨c,d,⟨⟨by simp[fw],.inl ⟨rfl,rfl⟩⟩,sI,aAw d (aBQ (aG c))⟩,fun _ h=>(by cases h),⟨rfl,.inl ⟨rfl,rfl⟩⟩,fun _ h=>(by cases h),b,a⟩
def Mi.mark(h:Mi W C s)(i:Int):FW W (gt s.A i).mark/\(gt s.A i).mark.n<2147483648/\(gt s.A i).code.size<2147483648/\(C.cm->Wo (gt s.A i).code):=by
 have d:=fun c=>h.tq.code c i;unfold gt at d⊢;cases b:s.A i with
 |none=>exact⟨.inl rfl,by show 0<_;decide,by show 0<_;decide,fun _=>Wo.nil⟩
 |some a=>exact⟨(h.av i a.1 a.2 b).row,(h.av i a.1 a.2 b).mark,(h.av i a.1 a.2 b).code,fun c=>(h.tq.cd c).2 i a.1 a.2 b⟩
def xu(O:Mi W C s1)(N:Ex k s0 s1)(r:Mi W0 C s0)(s:Px TT W0 W)(A:s1.depth<64)(K:dT W f F ⟨none,0,0⟩ ⟨none,0,0⟩ [] [])(d:F.m=C.mc/\F.bP=(g:Int)/\F.place=0/\(F.mark.n<2147483648/\F.text.size<2147483648/\(C.cm->Wo F.text))/\(F.data.n<=F.data.c/\F.data.n<2147483648)/\F.val<M/\Ir F.self)(a:F.bl=(s0.J.length:Int)/\F.bg=(s0.N:Int)/\F.bb=s0.back)(D:g<9000000)(P:s1.c+g<388000000000)(Q:k<=4)(H:Rp g):
  Cq 139 #[pq C.mc 0,pq f 0] W fun e c=>∃t v,e=.rt (.iface t v)/\Cq 137 #[pq C.mc 0,.iface t v] c fun e c=>∃t v,e=.rt (.iface t v)/\∃b n,Mi c C b/\Ex n s0 b/\Px TT W c/\((∃(h:Nat) (m:Lp),(.iface t v:vZ)=.iface 174 (.agg #[vI (h:Int),.string m])/\h<=g/\n+h<=g+12/\m.size<1073741824)\/
  (∃(i:Int) (p:Nat) (o:Addr),(.iface t v:vZ)=.iface 217 (.agg #[vI i,.iface 299 (pq p 0)])/\(∃y,c.heap[p]?=ob y 303/\y[2]?=some (.iface 407 (.pointer (some o))))/\Eo c C.dp C.li o/\n<=g+20/\b=b.un s0)):=by
 apply(Ht (g:=g) (b:=0) O A K fun w L G S=>H _ w C _ f F G L d.1 d.2.1 d.2.2.1 d.2.2.2.1 d.2.2.2.2.1 d.2.2.2.2.2 D P).mono;rintro e w1 ⟨t,v,rfl,b,n,u,z,x,R,J⟩;refine⟨t,v,rfl,?_⟩;have j:=N.tr z;rcases J with⟨h,m,q,l,h3,h4⟩| ⟨i,T,p,o,q,l,h3,h4⟩
 .cases q;apply(qE C.mc _ w1).mono;rintro e w2 ⟨rfl,rfl⟩;exact⟨_,_,rfl,b,_,u,j,x,.inl ⟨h,m,rfl,l,oM,h4⟩⟩
 .cases q;rw[a.1,a.2.1,a.2.2] at l;have E:=z.c.2;apply(DG (gg:=i) u j r (s.tr x) oM l).mono;rintro e w2 ⟨rfl,B,p2,I⟩;refine⟨_,_,rfl,_,k+n,B,⟨(mI.refl _ _ _).mono oM,j.c,aAz _,by show s0.xs.take _=_;simp,j.dp,j.cr⟩,x.tr p2,.inr ⟨i,p,o,rfl,⟨_,I,rfl⟩,h3.px p2 u.ge.low,oM,rfl⟩⟩
def KC{W:WR}{C:Kc}{s:St}{g:Nat}{data:SV}(F:Mi W C s)(ac:aB.b1<=W.heap.size)(a4:JI W data)(a0:data.n<=data.c/\data.n<2147483648)(i a:Int)(a6:Ir i)(P:Ir a)(x:Nat)(T:x<M)(hg:g<9000000)(hc:s.c+g+4<388000000000)(H:Rp g):
   Cq 92 #[pq C.mc 0,.agg #[vI i,vI a,vL x 0,vL x 1,vL x 2,vL x 3,vI (g:Int),.sl data.a data.n data.c]] W fun e w'=>∃t v,e=.rt (.iface t v)/\Ce 20 (¬(s.depth<64/\x<=(gt s.A i).cn)) W C s s g (.iface t v) w':=by
 have r:Bw W (W.alloc (.ce #[vI i,vI a,vL x 0,vL x 1,vL x 2,vL x 3,vI (g:Int),.sl data.a data.n data.c] 172)):=ba;have O:=aM W (.ce #[vI i,vI a,vL x 0,vL x 1,vL x 2,vL x 3,vI (g:Int),.sl data.a data.n data.c] 172);have m0:=F.below r;have u:=Cb m0 i x T;go_enter (qz func92),ntmps92;go_wp2_with fail;apply u.mono;rintro e w1 ⟨he,l⟩;change Below (W.alloc (.ce #[vI i,vI a,vL x 0,vL x 1,vL x 2,vL x 3,vI (g:Int),.sl data.a data.n data.c] 172)).heap.size (W.alloc (.ce #[vI i,vI a,vL x 0,vL x 1,vL x 2,vL x 3,vI (g:Int),.sl data.a data.n data.c] 172)) w1 at l;clear u;have b:=bk l O;have o:=r.tr (l.mono r.size);have m1:=F.below o;have lB:=aG b;have U:W.heap.size<w1.heap.size:=lB;obtain⟨B,hB⟩:∃B,W.heap.size=B:=⟨_,rfl⟩;have a8:=US hB;rw[hB] at b lB⊢;clear O r l hB m0;have c0:=bq b 0;have c1:=bq b 1;have c2:=bq b 2;have c3:=bq b 3;have c4:=bq b 4;have S:=bq b 5;have c6:=bq b 6;have c7:=bq b 7;rcases he with⟨rfl,a7,a1⟩| ⟨er,rfl,a2,a5⟩
 .have A:=OW m1 a i x data (g:Int);unfold sq at A;go_wp2_with fail;apply A.mono;rintro e w2 ⟨rfl,z,y⟩;clear A c0 c1 c2 c3 c4 S c6 c7;have m2:=m1.below y;have Z:=bk y b;have⟨lg,Q,_⟩:=m2.mc;have I:=o.tr (y.mono o.size);have w:W.heap.size<w1.heap.size:=U;have X:B<w1.heap.size:=lB;generalize w1.heap.size=f at z w X⊢;have aa:f≠C.mc:=fun e=>by have:=F.fE.1;omega
  clear b;go_wp2_with fail;refine rq (fun V=>V.heap[C.mc]?=ob (aZ C.l lg s.back s.depth) 165/\V.heap[B]?=ob #[vI i,vI a,vL x 0,vL x 1,vL x 2,vL x 3,vI (g:Int),.sl data.a data.n data.c] 172) ⟨Q,Z⟩ fun c=>?_;refine t5 0 1 2 3 4 c ?_;refine tV 5 (fun _ d=>bq (d.1) 0) c ?_;refine t1 6 c ?_;refine tV 7 (fun _ d=>bq (d.2) 1) c ?_;refine rA 8 fun K D=>?_;go_simp;apply(xk (m2.below bR.drew).lf a).mono;rintro e w3 ⟨rfl,q⟩;go_wp2_with fail;refine D.out _ _ ⟨bk q c.1,bk q c.2⟩ fun c=>?_;refine t5 9 10 11 12 13 c ?_;have k:=(q.block _ (aG (w:=w2.drew) z)).tr z;have N:=aG k;have c4:=bq k 4;have f4:=aQ k 4;refine rA 14 fun K D=>?_;go_simp;refine D.out _ _ ⟨aD c.1 oM,aD c.2 oM⟩ fun c=>?_;refine t2 15 16 c ?_;have p:=aO (i:=4) (v:=.string (gt s.A a).code) k;have S:=aJ p 5;have f5:=aQ p 5;simp only[iE,Cc,aAY,aAP,aBb,aAH (show(4:Nat)≠5 by decide)] at S;refine rA 17 fun K D=>?_;go_simp;refine D.out _ _ ⟨aD c.1 oM,aD c.2 oM⟩ fun c=>?_;refine dn ?_;have J:((w3.setCell ⟨f,4,none⟩ (.string (gt s.A a).code)).setCell ⟨f,5,none⟩ (.sl (gt s.A a).mark.a (gt s.A a).mark.n (gt s.A a).mark.c)).heap[f]?=ob (iE {Cc C.mc s a i x data (g:Int) with text:=(gt s.A a).code,mark:=(gt s.A a).mark} ⟨none,0,0⟩ ⟨none,0,0⟩) 225:=aO (i:=5) p;have E:Bw W ((w3.setCell ⟨f,4,none⟩ (.string (gt s.A a).code)).setCell ⟨f,5,none⟩ (.sl (gt s.A a).mark.a (gt s.A a).mark.n (gt s.A a).mark.c)):=((I.drew.tr (q.mono I.size)).setCell (p:=(ad f 4)) (aBQ w) _).setCell (p:=(ad f 5)) (aBQ w) _;clear c4 f4 S f5 p k N;generalize((w3.setCell ⟨f,4,none⟩ (.string (gt s.A a).code)).setCell ⟨f,5,none⟩ (.slice (gt s.A a).mark.a (gt s.A a).mark.n (gt s.A a).mark.c))=V5 at J E c⊢;have m5:=F.below E;go_wp2_with fail;refine rq (fun V=>V.heap[C.mc]?=ob (aZ C.l lg s.back s.depth) 165/\V.heap[B]?=ob #[vI i,vI a,vL x 0,vL x 1,vL x 2,vL x 3,vI (g:Int),.sl data.a data.n data.c] 172) ⟨c.1,c.2⟩ fun j=>?_;refine t3 0 1 2 j ?_;refine tV 3 (fun _ d=>bq (d.1) 0) j ?_;refine t1 4 j ?_;refine tV 5 (fun _ d=>bq (d.2) 0) j ?_;refine t1 6 j ?_;refine tV 7 (fun _ d=>bq (d.2) 1) j ?_;refine t1 8 j ?_;refine tV 9 (fun _ d=>aq (bq (d.2) 2) (aq (bq (d.2) 3) (aq (bq (d.2) 4) (bq (d.2) 5)))) j ?_;refine rA 10 fun K D=>?_;go_simp;apply(eu (m5.below bR.drew) i a a6 P x T a1 oM).mono;rintro e w6 ⟨rfl,s6,m6,x6,R, -, -, -⟩;go_wp2_with fail;refine D.out _ _ ⟨R.row j.1,R.row j.2⟩ fun j=>?_;refine dn ?_;have a3:=R.row (w:=V5.drew) J;have m:Px LT W w6:=(Px.aF E.drew _).tr R;have L:=F.mark a;have Y:=dT.fresh a3 oM (L.1.px m dC) (a4.eT m);have uM:s6.depth=s.depth:=x6.dp;have a9:=x6.c.2;have tl:=xu m6 x6 F (m.mono dC) oM Y ⟨rfl,rfl,rfl,L.2,a0,T,P⟩ ⟨rfl,rfl,rfl⟩ hg oM lR H;clear j c;go_wp2_with fail;apply tl.mono;rintro e w7 ⟨t,v,rfl,G⟩;clear tl;go_wp2_with fail;apply G.mono;rintro e w8 ⟨t',v',rfl,s',n,m',x',p',hE⟩;clear G;go_wp2;go_ret;exact⟨t',v',rfl,s',n,m',x',(m.mono dC).tr p',hE.elim .inl fun h=>.inr (.inr (.inl h))⟩
 .go_wp2;go_ret;exact⟨_,_,rfl,s,0,m1,.refl s,Px.aF o _,.inr (.inr (.inr ⟨er,rfl,a2,a5.out,rfl⟩))⟩
end
section
variable [aB]
attribute [local go_sem] wd
def Hu{W:WR}{sv:SV}{mv:SV}{C:Kc}{s:St}{g:Nat}{I:Nat}{F0:fC}{data:SV}(u:Mi W C s)(a2:aB.b1<=W.heap.size)(r:W.heap[I]?=ob (iE F0 sv mv) 225)(hv:F0.val<M/\Ir F0.self)(J:JI W data)(E:data.n<=data.c/\data.n<2147483648)(le:Int)(Z:g<9000000)(hc:s.c+g+4<388000000000)(H:Rp g):
   Cq 344 #[pq C.mc 0,vI le,pq I 0,vI (g:Int),.sl data.a data.n data.c] W fun e w'=>∃t v,e=.rt (.iface t v)/\Ce 20 True W C s s g (.iface t v) w':=by
 have d:=Cb u F0.self 0 dC;rw[G7] at d;have k6:=bq r 6;have S:=aG r;go_enter (qz func344),ntmps344;go_wp2_with fail;apply d.mono;rintro e w1 ⟨he,a⟩;clear d k6;have P:=u.below a;have L:=bk a r;rcases he with⟨rfl,B,a0⟩| ⟨X,rfl,G, -⟩
 .have q:=OW (P.below bR.drew) F0.self F0.caller F0.val data (g:Int);unfold sq at q;go_wp2_with fail;refine rq (fun V=>V.heap[I]?=ob (iE F0 sv mv) 225) L fun c=>?_;refine t4 0 1 2 3 c ?_;refine tV 4 (fun _ i=>bq i 6) c ?_;refine t3 5 6 7 c ?_;refine tV 8 (fun _ i=>bq i 7) c ?_;refine t3 9 10 11 c ?_;refine tV 12 (fun _ i=>aq (bq i 8) (aq (bq i 9) (aq (bq i 10) (bq i 11)))) c ?_;refine t3 13 14 15 c ?_;refine rA 16 fun K hK=>?_;go_simp;apply(q).mono;rintro e w2 ⟨rfl,p,o⟩;go_wp2_with fail;refine hK.out _ _ (bk o c) fun c=>?_;refine t1 17 c ?_;refine dn ?_;clear q;change Bw w1.drew w2 at o;change w2.heap[w1.heap.size]?=_ at p;have l:Bw W w2:=a.drew.tr (o.mono a.size);have R:=u.below l;have⟨lg,j,_⟩:=R.mc;have m:W.heap.size<=w1.heap.size:=a.size;generalize w1.heap.size=f at p m⊢;have a1:f≠C.mc:=fun e=>by have:=u.fE.1;omega
  have q0:=bq j 0;have T:=aG j;have z:=xk R.lf le;clear c;go_wp2_with fail;apply z.mono;rintro e w3 ⟨rfl,y⟩;clear z q0;have b:=bk y p;have O:=aG b;have c4:=bq b 4;have Y:=aQ b 4;have c5:=bq b 5;have f5:=aQ b 5;have D:((w3.setCell ⟨f,4,none⟩ (.string (gt s.A le).code)).setCell ⟨f,5,none⟩ (.sl (gt s.A le).mark.a (gt s.A le).mark.n (gt s.A le).mark.c)).heap[f]?=ob (iE {Cc C.mc s F0.self F0.caller F0.val data (g:Int) with text:=(gt s.A le).code,mark:=(gt s.A le).mark} ⟨none,0,0⟩ ⟨none,0,0⟩) 225:=aO (i:=5) (aO (i:=4) b);have A:Bw W ((w3.setCell ⟨f,4,none⟩ (.string (gt s.A le).code)).setCell ⟨f,5,none⟩ (.sl (gt s.A le).mark.a (gt s.A le).mark.n (gt s.A le).mark.c)):=((l.tr (y.mono l.size)).setCell (p:=(ad f 4)) m _).setCell (p:=(ad f 5)) m _;have N:=u.below A;have x:=N.mark le;have k:Px TT W _:=Px.aF A TT;have F:=dT.fresh D oM x.1 (J.eT k);have Q:=xu N (Ex.refl s) u k B F ⟨rfl,rfl,rfl,x.2,E,hv⟩ ⟨rfl,rfl,rfl⟩ Z oM oM H;go_wp2_with fail;apply Q.mono;rintro e w7 ⟨t,v,rfl,w⟩;clear Q c4 Y c5 f5;go_wp2_with fail;apply w.mono;rintro e w8 ⟨U,v',rfl,s',n,m',x',p',hE⟩;clear w;go_wp2;go_ret;exact⟨U,v',rfl,s',n,m',x',k.tr p',hE.elim .inl fun h=>.inr (.inr (.inl h))⟩
 .go_wp2;go_ret;exact⟨_,_,rfl,s,0,P,.refl s,Px.aF a _,.inr (.inr (.inr ⟨X,rfl,G,trivial,rfl⟩))⟩
def uN(v:vZ)(w:WR):(Instr.typeAssert (.iface 217 v) 116 174 true).run zQ.prog w=.ok (.tuple #[.agg #[.int .i64 0,.string ⟨#[]⟩],.bool false]) w:=kR
def DH(v:vZ)(w:WR):(Instr.typeAssert (.iface 174 v) 116 174 true).run zQ.prog w=.ok (.tuple #[v,.bool true]) w:=kR
def keepW{b:Nat}{t:Lp}(hz:Fz W f F)(w:F.m=C.mc)(a0:Ir F.self)(hm:Mi W C s)(Y:¬C.cm)(P:Ex n s0 s)(hc:s.c<399999999900)(a3:n+b<=g+12)(h2:b<=g)(hg:g<9000000)(ht:t.size<1073741824):
   Cq 138 #[pq f 0,.iface 174 (.agg #[vI (b:Int),.string t])] W fun e Q=>∃t v,e=.rt (.iface t v)/\∃s' n,Mi Q C s'/\Ex n s0 s'/\Px TT W Q/\
     ((∃(x:Nat),(.iface t v:vZ)=.iface 177 (.agg #[vI (x:Int),vI F.self])/\x<=g/\n+x<=g+16)\/
     (∃(gg pl:Int) (fb:Nat) (er:Addr),(.iface t v:vZ)=.iface 217 (.agg #[vI gg,.iface 299 (pq fb 0)])/\Q.heap[fb]?=ob #[vI F.self,vI pl,.iface 407 (.pointer (some er)),vI F.bl,vI F.bg,vI F.bb] 303/\Eo Q C.dp C.li er/\n<=g+16)):=by
 have⟨z,M,H,hf,D,N,h1,J,h3⟩:=hz;rw[w] at D;have h:Shut (z.self=F.self/\z.bl=F.bl/\z.bg=F.bg/\z.bb=F.bb):=⟨N,h1,J,h3⟩;clear N h1 J h3 w;have u:Bw W (W.alloc (.ce #[vI (b:Int),.string t] 174)):=ba;have A:=aM W (.ce #[vI (b:Int),.string t] 174);have a5:=DH;have p:=hm.below u;have r:=bk u hf;have a6:=P.c.2;have⟨e1,T,E,S⟩:=p.ge.err 1 dC;have⟨e2,c2,O,Z⟩:=p.ge.err 2 dC;have a1:iw (200*(t.size:Int))=200*(t.size:Int):=iW;by_cases d:b<200*t.size
 .have m:(b:Int)<200*(t.size:Int):=oM
  have k:=zE r 407 (.pointer (some e1));clear d;go_enter (qz func138),ntmps138;go_wp2_with fail;apply k.mono;rintro e w3 ⟨rfl,j,c⟩;clear k T c2;have q:=h.out;rw[q.1,q.2.1,q.2.2.1,q.2.2.2,show(W.alloc (.ce #[vI (b:Int),.string t] 174)).heap.size=W.heap.size+1 by simp] at j;go_wp2;go_ret;exact⟨_,_,rfl,s,n,p.below c,P,Px.aF (u.tr (c.mono u.size)) _,.inr ⟨_,_,_,e1,rfl,j,E.px (Px.aF c []) p.ge.low,oM⟩⟩
 .have m:¬(b:Int)<200*(t.size:Int):=oM
  by_cases l:2000<t.size
  · have o:2000<(t.size:Int):=oM
    have k:=zE r 407 (.pointer (some e2));clear d l;go_enter (qz func138),ntmps138;go_wp2_with fail;apply k.mono;rintro e w3 ⟨rfl,j,c⟩;clear k T c2;have q:=h.out;rw[q.1,q.2.1,q.2.2.1,q.2.2.2,show(W.alloc (.ce #[vI (b:Int),.string t] 174)).heap.size=W.heap.size+1 by simp] at j;go_wp2;go_ret;exact⟨_,_,rfl,s,n,p.below c,P,Px.aF (u.tr (c.mono u.size)) _,.inr ⟨_,_,_,e2,rfl,j,O.px (Px.aF c []) p.ge.low,oM⟩⟩
  · have o:¬2000<(t.size:Int):=oM
    have L:=p.fE.2;obtain⟨x,G⟩:∃x:Nat,b=x+200*t.size:=⟨b - 200*t.size,oM⟩;have a2:IntKind.i64.wrap ((b:Int) - 200*(t.size:Int))=(x:Int):=by rw[IntWalk.i64_in _ ⟨oM,oM⟩];omega
    have I:=US G;clear d l G;go_enter (qz func138),ntmps138;go_wp2_with fail;change Code.wp _ _ _ _ (W.alloc (.ce #[vI (b:Int),.string t] 174));generalize hV:(W.alloc (.cells #[.int .i64 (b:Int),.string t] 174))=V1 at u A p r T E S c2 O Z L⊢;obtain⟨B,y⟩:∃B,W.heap.size=B:=⟨_,rfl⟩;have a4:=US y;rw[y] at A⊢;clear hV y;have X:=r;have U:=A;have R:=L;have m2:=p;refine rq (fun V=>V.heap[f]?=ob (iE z M H) 225/\V.heap[B]?=ob #[vI (b:Int),.string t] 174/\V.cA C.mc 0=some (pq C.l 0)) ⟨X,U,R⟩ fun a=>?_;refine t3 0 1 2 a ?_;refine tD 3 34 (pq C.mc 0) (fun V i=>?_) a ?_
    .have k0:=bq i.1 0;rw[D] at k0;clear i a;go_simp
    refine t2 4 5 a ?_;refine tV 6 (fun _ i=>i.2.2) a ?_;refine t3 7 8 9 a ?_;refine tV 10 (fun _ i=>bq (i.1) 6) a ?_;refine t1 11 a ?_;refine tV 12 (fun _ i=>bq (i.2.1) 1) a ?_;refine rA 13 fun K hK=>?_;go_simp;refine(ew (m2.below bR.drew) z.self (by rw[h.out.1];exact a0) t oM Y oM).mono ?_;rintro e w3 ⟨rfl,s3,m3,x3,p3, -, -, -⟩;go_wp2_with fail;refine hK.out _ _ ⟨p3.row a.1,p3.row a.2.1,m3.fE.2⟩ fun a=>?_;refine dn ?_;go_wp2_with fail;refine rq (fun V=>V.heap[f]?=ob (iE z M H) 225/\V.heap[B]?=ob #[vI (b:Int),.string t] 174/\V.cA C.mc 0=some (pq C.l 0)) ⟨a.1,a.2.1,a.2.2⟩ fun a=>?_;refine t1 0 a ?_;refine tV 1 (fun _ i=>bq (i.2.1) 0) a ?_;refine t5 2 3 4 5 6 a ?_;refine tV 7 (fun _ i=>bq (i.1) 6) a ?_;refine t3 8 9 10 a ?_;refine dn ?_;go_wp2;go_ret;have q:=h.out;have q3:=I.out;rw[q.1];exact⟨_,_,rfl,s3,n+2,m3.below bR.drew,P.tr x3,(((Px.aF u.drew _).tr p3).tr (Px.aF bR.drew _)).mono dC,.inl ⟨x,rfl,oM,oM⟩⟩
def VU(v:vZ)(w:WR):(Instr.typeAssert (.iface 177 v) 116 217 true).run zQ.prog w=.ok (.tuple #[.agg #[.int .i64 0,.nilIface],.bool false]) w:=kR
def BN(b:Nat)(v:vZ)(W:WR):
  Cq 137 #[pq b 0,.iface 177 v] W fun e a=>e=.rt (.iface 177 v)/\a=W:=by
 have c:=VU;go_enter (qz func137),ntmps137;go_wp2;go_ret;exact⟨rfl,rfl⟩
def Hv(v:vZ):Cq 138 #[pq f 0,.iface 217 v] W fun e a=>e=.rt (.iface 217 v)/\a=W:=by have b:=uN;go_enter (qz func138),ntmps138;go_wp2;go_ret;exact⟨rfl,rfl⟩
def Hw(X:Mi W C s1)(y:¬C.cm)(L:Ex k s0 s1)(D:Mi W0 C s0)(E:Px TT W0 W)(N:s1.depth<64)(T:dT W f F ⟨none,0,0⟩ ⟨none,0,0⟩ [] [])(j:F.m=C.mc/\F.bP=(g:Int)/\F.place=0/\(F.mark.n<2147483648/\F.text.size<2147483648/\(C.cm->Wo F.text))/\(F.data.n<=F.data.c/\F.data.n<2147483648)/\F.val<M/\Ir F.self)(m:F.bl=(s0.J.length:Int)/\F.bg=(s0.N:Int)/\F.bb=s0.back)(I:g<9000000)(Y:s1.c+g<388000000000)(hk:k<=4)(H:Rp g):
  Cq 139 #[pq C.mc 0,pq f 0] W fun e b=>∃t v,e=.rt (.iface t v)/\Cq 138 #[pq f 0,.iface t v] b fun e b=>∃t v,e=.rt (.iface t v)/\Cq 137 #[pq C.mc 0,.iface t v] b fun e b=>∃t v,e=.rt (.iface t v)/\∃a n,Mi b C a/\Ex n s0 a/\Px TT W b/\((∃(i:Nat) (id:Int),(.iface t v:vZ)=.iface 177 (.agg #[vI (i:Int),vI id])/\i<=g/\n+i<=g+16)\/
  (∃(h:Int) (d:Nat) (c:Addr),(.iface t v:vZ)=.iface 217 (.agg #[vI h,.iface 299 (pq d 0)])/\(∃q,b.heap[d]?=ob q 303/\q[2]?=some (.iface 407 (.pointer (some c))))/\Eo b C.dp C.li c/\n<=g+16/\a=a.un s0)):=by
 have key:∀{w:WR} {a:St} {n d:Nat} {h x:Int} {c:Addr},Mi w C a->Ex n s0 a->Px TT W w->w.heap[d]?=ob #[vI F.self,vI x,.iface 407 (.pointer (some c)),vI F.bl,vI F.bg,vI F.bb] 303->Eo w C.dp C.li c->n<=g+16->Cq 137 #[pq C.mc 0,.iface 217 (.agg #[vI h,.iface 299 (pq d 0)])] w fun e b=>∃t v,e=.rt (.iface t v)/\∃a n,Mi b C a/\Ex n s0 a/\Px TT W b/\((∃(i:Nat) (id:Int),(.iface t v:vZ)=.iface 177 (.agg #[vI (i:Int),vI id])/\i<=g/\n+i<=g+16)\/
  (∃(h:Int) (d:Nat) (c:Addr),(.iface t v:vZ)=.iface 217 (.agg #[vI h,.iface 299 (pq d 0)])/\(∃q,b.heap[d]?=ob q 303/\q[2]?=some (.iface 407 (.pointer (some c))))/\Eo b C.dp C.li c/\n<=g+16/\a=a.un s0)):=by
  intro w a n d h x c s l p o h3 h4;rw[m.1,m.2.1,m.2.2] at o;have z:=l.c.2;have O:=L.c.1;apply(DG (gg:=h) s l D (E.tr p) oM o).mono;rintro e w2 ⟨rfl,u,p2,r⟩;refine⟨_,_,rfl,_,n,u,⟨(mI.refl _ _ _).mono oM,l.c,aAz _,by show s0.xs.take _=_;simp,l.dp,l.cr⟩,p.tr p2,.inr ⟨h,d,c,rfl,⟨_,r,rfl⟩,h3.px p2 s.ge.low,oM,rfl⟩⟩
 apply(Ht (g:=g) (b:=0) X N T fun w V P p1=>H _ w C _ f F P V j.1 j.2.1 j.2.2.1 j.2.2.2.1 j.2.2.2.2.1 j.2.2.2.2.2 I Y).mono;rintro e w1 ⟨t,v,rfl,a,n,s,J,p,R,S⟩;refine⟨t,v,rfl,?_⟩;have l:=L.tr J;rcases S with⟨i,t',A,o,h3,h4⟩| ⟨h,x,d,c,A,o,h3,h4⟩
 .cases A;have z:=J.c.2;apply(keepW (g:=g) R j.1 j.2.2.2.2.2.2 s y l oM oM o I h4).mono;rintro e w2 ⟨t,v,rfl,Q,n2,u,K,p2,⟨Z,r,G,B⟩| ⟨h,x,d,c,r,G,B,U⟩⟩
  .cases r;refine⟨_,_,rfl,(BN C.mc _ w2).mono ?_⟩;rintro e w3 ⟨rfl,rfl⟩;exact⟨_,_,rfl,Q,n2,u,K,p.tr p2,.inl ⟨Z,_,rfl,G,B⟩⟩
  .cases r;exact⟨_,_,rfl,key u K (p.tr p2) G B U⟩
 .cases A;apply(Hv _).mono;rintro e w2 ⟨rfl,rfl⟩;exact⟨_,_,rfl,key s l p o h3 oM⟩
end
end Go.Mark
