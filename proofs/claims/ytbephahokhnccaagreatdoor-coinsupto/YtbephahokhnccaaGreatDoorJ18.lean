import Derived.Test.YtbephahokhnccaaGreatDoorJ17
set_option linter.all false
set_option maxRecDepth 100000
set_option maxHeartbeats 8000000
namespace Go.Mark
open Go.RowKit Go.Proofs Go.Proofs.Tryz
variable{C:Kc}{S:K4}{X:K3}{f g b n2 n k c:Nat}{sv mv sv':SV}{s:St}{W V V' W':WR}{F:fC}
section
variable [aB]
attribute [local go_sem] wd
def xq:qC (List.replicate 32 (vB 0)):=fun v a=>⟨0,dC,aCA a⟩
def GG{a cur':Ff}{t:Fh}{c:Nat}{d:WR}(h:W.heap[g]?=ob a t)(b:Below c d W)(f:c<=g):(W.setRow g cur').heap[g]?=ob cur' t/\Below c d (W.setRow g cur'):=
 ⟨setRow_heap W g a cur' t (0,0) h,⟨b.os,b.tape,b.output,by simpa using b.size,fun k e=>(setRow_other W g k cur' oM).tr (b.block k e)⟩⟩
def Bi(t:Lp)(n:Nat)(A:n<=32):
   Cq 346 #[.string t,vI (n:Int)] W fun e E=>(∃x,x<M/\e=.rt (wd x))/\Bw W E:=by
 have r:Bw W ((W.alloc (.ce wz 41)).alloc (.ce zq32 394)):=(ba).tr ((ba).mono sI);have I:((W.alloc (.ce wz 41)).alloc (.ce zq32 394)).heap[W.heap.size]?=ob wz 41:=aT (aM W _);have D:((W.alloc (.ce wz 41)).alloc (.ce zq32 394)).heap[W.heap.size+1]?=ob zq32 394:=by have:=aM (W.alloc (.ce wz 41)) (.ce zq32 394);simpa using this
 have o:qC ((zq32:Ff).toList):=xq;have J:(n:Int)<=32:=oM
 go_enter (qz func346),ntmps346;have c:∃(v:vZ) (a:Ff),(Builtin.copy_ #[31,9] 3 #[.sl (some (ad (W.heap.size+1) 0)) n 32,.string t]).run zQ.prog ((W.alloc (.ce wz 41)).alloc (.ce zq32 394))=.ok v (((W.alloc (.ce wz 41)).alloc (.ce zq32 394)).setRow (W.heap.size+1) a)/\a.size=32/\qC a.toList:=VI (ty:=3) (W:=((W.alloc (.ce wz 41)).alloc (.ce zq32 394))) (g:=W.heap.size+1) (o:=0) (n:=n) (c:=32) t D o (by simpa using A);obtain⟨Q,a,c,L,s⟩:=c;have⟨d,f⟩:=GG (cur':=a) D r (by exact oM:W.heap.size<=W.heap.size+1);have j:(((W.alloc (.ce wz 41)).alloc (.ce zq32 394)).setRow (W.heap.size+1) a).heap[W.heap.size]?=_:=(setRow_other _ _ _ _ oM).tr I;generalize((W.alloc (.cells wz 41)).alloc (.cells #[.int .u8 0,.int .u8 0,.int .u8 0,.int .u8 0,.int .u8 0,.int .u8 0,.int .u8 0,.int .u8 0,.int .u8 0,.int .u8 0,.int .u8 0,.int .u8 0,.int .u8 0,.int .u8 0,.int .u8 0,.int .u8 0,.int .u8 0,.int .u8 0,.int .u8 0,.int .u8 0,.int .u8 0,.int .u8 0,.int .u8 0,.int .u8 0,.int .u8 0,.int .u8 0,.int .u8 0,.int .u8 0,.int .u8 0,.int .u8 0,.int .u8 0,.int .u8 0] 394)).setRow (W.heap.size+1) a=H at c d f j;have p:RB H ⟨some ⟨W.heap.size+1,0,none⟩,n,32⟩:=.inr ⟨_,0,rfl,aG d,fun i N=>by
  simp only at N;have z:i<a.size:=oM
  obtain⟨b,G,F⟩:=s (a[i]'z) sI;exact⟨b,G,by rw[aJ d,aAM,aAN z,F]⟩⟩
 have h:=qQ p A;go_wp2_with fail;refine h.mono ?_;rintro e T ⟨⟨x,O,rfl⟩,k⟩;clear h;have g:=bk k j;have K:=aG g;have m:=f.tr (k.mono f.size);obtain⟨B,y,w,C,U,P,V,R⟩:=q8 g;go_wp2;obtain⟨S,u,l,q⟩:=mx x g m oM;rw[u];clear u;obtain⟨B,y,w,C⟩:=q4 l;simp[bodyPost,results,results346,go_sem,B,y,w,C];exact⟨⟨x,O,rfl,rfl,rfl,rfl⟩,q⟩
def Bj{y:SV}(Q:RB W y)(n:Nat)(G:n<=32):
   Cq 347 #[.sl y.a y.n y.c,vI (n:Int)] W fun e K=>(∃x,x<M/\e=.rt (wd x))/\Bw W K:=by
 have d:Bw W ((W.alloc (.ce wz 41)).alloc (.ce zq32 394)):=(ba).tr ((ba).mono sI);have O:((W.alloc (.ce wz 41)).alloc (.ce zq32 394)).heap[W.heap.size]?=ob wz 41:=aT (aM W _);have J:((W.alloc (.ce wz 41)).alloc (.ce zq32 394)).heap[W.heap.size+1]?=ob zq32 394:=by have:=aM (W.alloc (.ce wz 41)) (.ce zq32 394);simpa using this
 have s:qC ((zq32:Ff).toList):=xq;have P:(n:Int)<=32:=oM
 have B:RB ((W.alloc (.ce wz 41)).alloc (.ce zq32 394)) y:=Q.imp id fun⟨g,o,t,p,h3⟩=>⟨g,o,t,aAy p d.size,fun i A=>let⟨b,h4,L⟩:=h3 i A;⟨b,h4,(d.cell (p:=(ad g (o+i))) p).tr L⟩⟩;go_enter (qz func347),ntmps347;have c:∃(v:vZ) (a:Ff),(Builtin.copy_ #[31,31] 3 #[.sl (some (ad (W.heap.size+1) 0)) n 32,.sl y.a y.n y.c]).run zQ.prog ((W.alloc (.ce wz 41)).alloc (.ce zq32 394))=.ok v (((W.alloc (.ce wz 41)).alloc (.ce zq32 394)).setRow (W.heap.size+1) a)/\a.size=32/\qC a.toList:=VJ (ty:=3) (sT:=31) (u:=31) (W:=((W.alloc (.ce wz 41)).alloc (.ce zq32 394))) (g:=W.heap.size+1) (o:=0) (n:=n) (c:=32) B Bh J s (by simpa using G);obtain⟨V,a,c,S,z⟩:=c;have⟨f,h⟩:=GG (cur':=a) J d (by exact oM:W.heap.size<=W.heap.size+1);have l:(((W.alloc (.ce wz 41)).alloc (.ce zq32 394)).setRow (W.heap.size+1) a).heap[W.heap.size]?=_:=(setRow_other _ _ _ _ oM).tr O;generalize((W.alloc (.cells wz 41)).alloc (.cells #[.int .u8 0,.int .u8 0,.int .u8 0,.int .u8 0,.int .u8 0,.int .u8 0,.int .u8 0,.int .u8 0,.int .u8 0,.int .u8 0,.int .u8 0,.int .u8 0,.int .u8 0,.int .u8 0,.int .u8 0,.int .u8 0,.int .u8 0,.int .u8 0,.int .u8 0,.int .u8 0,.int .u8 0,.int .u8 0,.int .u8 0,.int .u8 0,.int .u8 0,.int .u8 0,.int .u8 0,.int .u8 0,.int .u8 0,.int .u8 0,.int .u8 0,.int .u8 0] 394)).setRow (W.heap.size+1) a=N at c f h l;have u:RB N ⟨some ⟨W.heap.size+1,0,none⟩,n,32⟩:=.inr ⟨_,0,rfl,aG f,fun i A=>by
  simp only at A;have F:i<a.size:=oM
  obtain⟨b,t,p⟩:=z (a[i]'F) sI;exact⟨b,t,by rw[aJ f,aAM,aAN F,p]⟩⟩
 have k:=qQ u G;go_wp2_with fail;refine k.mono ?_;rintro e Z ⟨⟨x,T,rfl⟩,m⟩;clear k;have j:=bk m l;have R:=aG j;have r:=h.tr (m.mono h.size);obtain⟨H,E,D,I,y0,U,y2,X⟩:=q8 j;go_wp2;obtain⟨Y,C,q,w⟩:=mx x j r oM;rw[C];clear C;obtain⟨H,E,D,I⟩:=q4 q;simp[bodyPost,results,results347,go_sem,H,E,D,I];exact⟨⟨x,T,rfl,rfl,rfl,rfl⟩,w⟩
def JS{t:Lp}(h:k<=t.size):(Instr.sliceAt 9 (.string t) (some (.int .i64 (k:Int))) none none).run zQ.prog W=.ok (.string (t.extract k t.size)) W:=by simp[Instr.sliceAt,Instr.slice,Instr.sliceBounds,Instr.sliceBound,run_underlying u9,asIntOf];intro a;omega
def re(p:Pd W C s f F sv mv S X g b n2)(m:Nat)(r:F.place=(m:Int))(T:m<F.text.size)(L:F.text.size<2147483648)(U:n2<=m+33)(I:m+1<=n2):
   Cq 337 #[pq f 0] W fun e O=>(∃x,x<M/\e=.returned (wd x))/\Bw W O:=by
 have h:Bw W (W.alloc (.cells wz 41)):=ba;have n:=p.fr.below h;have J:=aM W (.cells wz 41);have Q:=aG p.fr.fc;have l:=aG n.fc;obtain⟨c,E⟩:∃c:Nat,c=m+1:=⟨_,rfl⟩;obtain⟨d,o⟩:∃d:Nat,n2=c+d:=⟨n2 - c,oM⟩;have B:c<=F.text.size:=oM
 have N:d<=32:=oM
 have e1:IntKind.i64.wrap (F.place+1)=(c:Int):=by rw[IntWalk.i64_in _ ⟨oM,oM⟩];exact oM
 have e2:IntKind.i64.wrap (F.next - (c:Int))=(d:Int):=by have:=p.nx;rw[iW];exact oM
 have D:=bq n.fc 16;clear E o r;go_enter (qz func337),Tryz.ntmps337;go_wp2_with fail;change Code.wp _ _ _ _ (W.alloc (.cells wz 41));generalize(W.alloc (.cells wz 41))=V1 at h n J l D⊢;refine sk (S:=fun V=>V.heap[f]?=ob (iE F sv mv) 225/\V.heap[W.heap.size]?=ob wz 41) 13 kR ⟨n.fc,J⟩ fun a=>?_;refine tF 0 a ?_;refine tF 1 a ?_;refine tF 2 a ?_;refine tE 3 12 (.string F.text) (fun V i=>?_) a ?_
 .have H:=bq (i.1) 4;clear i a;go_simp
 refine tF 4 a ?_;refine tE 5 14 (.string (F.text.extract c F.text.size)) (fun V i=>?_) a ?_
 .have H:=JS (W:=V) (t:=F.text) (k:=c) B;clear i a;go_simp
 refine tF 6 a ?_;refine tF 7 a ?_;refine tF 8 a ?_;refine tE 9 18 (vI F.next) (fun V i=>?_) a ?_
 .have H:=bq (i.1) 17;clear i a;go_simp
 refine tF 10 a ?_;refine tF 11 a ?_;refine rB 12 fun K w=>?_;go_simp;refine(Bi (F.text.extract c F.text.size) d N).mono ?_;rintro e W2 ⟨⟨x,R,rfl⟩,j⟩;go_wp2_with fail;refine w.out _ _ ⟨bk j a.1,bk j a.2⟩ fun a=>?_;have k:=a.2;have P:=aG k;obtain⟨A,v,u,z,y0,Y,y2,Z⟩:=q8 k;refine rC fun K w=>?_;go_simp;refine w.out _ _ ?_;refine dk kR ?_ _;have t:=h.drew.trans (j.mono h.size);clear A v u z;go_wp2;obtain⟨V5,G,q,y⟩:=mx x k t oM;rw[G];clear G;obtain⟨A,v,u,z⟩:=q4 q;simp[bodyPost,results,Tryz.results337,go_sem,A,v,u,z];exact⟨⟨x,R,rfl,rfl,rfl,rfl⟩,y⟩
def Pd.drew(p:Pd W C s f F sv mv S X g b n2):Pd W.drew C s f F sv mv S X g b n2:=
 ⟨p.fr.below bR.drew,p.mi.below bR.drew,p.fm,p.bP,p.nx,p.nb,p.sl,p.xl,p.gl,p.cl,p.ml,p.dl,p.vl⟩
def dj(p:Pd W C s f F sv mv S X g b n2)(x:Nat)(A:96<=x/\x<=127)(c:Nat)(i:F.place=(c:Int))(n:c<F.text.size)(h:F.text.size<2147483648)(o:n2<=c+33)(a:c+1<=n2):
  Cq 307 #[pq f 0,vB (x:Int)] W fun e q=>e=rU/\∃sv' y,dT q f F sv' mv (S++[y]) X/\Px [225,41] W q:=by
 have w:¬(x:Int)<=22:=oM
 have u:¬(x:Int)<=32:=oM
 have r:(x:Int)<=127:=oM
 clear A;go_enter (qz func307),ntmps307;go_wp2_with fail;refine rq (fun V=>True) trivial fun m=>?_;refine t4 0 1 2 3 m ?_;refine rA 4 fun K j=>?_;go_simp;apply(re p.drew c i n h o a).mono;rintro e w1 ⟨⟨y,z,rfl⟩,d⟩;go_wp2_with fail;refine j.out _ _ trivial fun m=>?_;have v:=p.drew.fr.below d;refine rA 5 fun K j=>?_;go_simp;refine(yZ v y z (by have:=p.sl;omega)).mono ?_;rintro e w2 ⟨rfl,⟨k,t⟩,l⟩;go_wp2_with fail;refine j.out _ _ trivial fun m=>?_;refine dn ?_;go_wp2;simp[bodyPost,results,results307,go_sem];exact⟨⟨k,y,t⟩,(Px.aF bR.drew _).tr ((Px.aF d _).tr l)⟩
def rh(p:Pd W C s f F sv mv S X g b n2)(x:Nat)(A:128<=x/\x<=143)(i:Nat)(h:x=i+127)(z:i<=S.length):
  Cq 307 #[pq f 0,vB (x:Int)] W fun e m=>e=rU/\∃sv' y,dT m f F sv' mv (S++[y]) X/\Px [225,41] W m:=by
 have u:¬(x:Int)<=22:=oM
 have r:¬(x:Int)<=32:=oM
 have o:¬(x:Int)<=127:=oM
 have n:(x:Int)<=143:=oM
 have E:IntKind.u8.wrap ((x:Int) - 128)=(x:Int) - 128:=by rw[IntKind.wrap_u8];omega
 have D:iw ((x:Int) - 128)=(x:Int) - 128:=iW;have G:IntKind.i64.wrap ((x:Int) - 128+1)=(i:Int):=by rw[IntWalk.i64_in _ ⟨oM,oM⟩];omega
 have t:=US h;have B:0<i:=oM
 have w:=bq p.fr.fc 14;have v:=aG p.fr.fc;clear A h;go_enter (qz func307),ntmps307;go_wp2_with fail;refine rq (fun V=>True) trivial fun d=>?_;refine t6 0 1 2 3 4 5 d ?_;refine t4 7 8 9 10 d ?_;refine rA 6 fun K c=>?_;go_simp;refine c.out _ _ trivial fun d=>?_;clear w;refine rA 11 fun K c=>?_;go_simp;apply(AK (p.fr.below bR.drew) i oM z).mono;rintro e w1 ⟨rfl,l⟩;go_wp2_with fail;refine c.out _ _ trivial fun d=>?_;have a:Bw W w1:=bR.drew.tr l;refine rA 12 fun K c=>?_;go_simp;refine(yZ (p.fr.below a) (tw S i) (eO p.fr i) (by have:=p.sl;omega)).mono ?_;rintro e w2 ⟨rfl,⟨j,q⟩,k⟩;go_wp2_with fail;refine c.out _ _ trivial fun d=>?_;refine dn ?_;go_wp2;simp[bodyPost,results,results307,go_sem];exact⟨⟨j,tw S i,q⟩,(Px.aF a _).tr k⟩
def dq(b:2<=k)(h:k<=S.length):∃T y U z,S=T++y::(U++[z])/\U.length+2=k:=by
 have c:=pop (S:=S) oM;refine⟨S.take (S.length - k),S[S.length - k]'oM,(S.drop (S.length - k+1)).dropLast,tw S 1,?_,by simp;omega⟩
 conv=>lhs;rw[<-aBA (S.length - k) S]
 congr 1;rw[List.drop_eq_getElem_cons oM];congr 1;have a:1<=(S.drop (S.length - k+1)).length:=by simp;omega
 have h3:=pop a;rw[show tw (S.drop (S.length - k+1)) 1=tw S 1 from ?_] at h3
 .exact h3
 .unfold tw;rw[List.getElem?_drop,List.length_drop];congr 2;omega
def dt(p:Pd W C s f F sv mv S X g b n2)(x:Nat)(A:144<=x/\x<=159)(r:x<=S.length+142):
   Cq 307 #[pq f 0,vB (x:Int)] W fun e l=>e=rU/\∃o,dT l f F sv mv o X/\o.length=S.length/\Px [225,41] W l:=by
 obtain⟨T,y,U,z,rfl,t⟩:=dq (S:=S) (k:=x - 142) oM oM;have u:¬(x:Int)<=22:=oM
 have q:¬(x:Int)<=32:=oM
 have n:¬(x:Int)<=127:=oM
 have m:¬(x:Int)<=143:=oM
 have E:IntKind.u8.wrap ((x:Int) - 144)=(x:Int) - 144:=by rw[IntKind.wrap_u8];omega
 have D:iw ((x:Int) - 144)=(x:Int) - 144:=iW;have B:IntKind.i64.wrap ((x:Int) - 144+2)=((U.length+2:Nat):Int):=by rw[IntWalk.i64_in _ ⟨oM,oM⟩];omega
 have h:=Gh p.fr.st;have w:=bq p.fr.fc 14;have v:=aG p.fr.fc;have j:=p.fr.sm;clear A r t;generalize U.length+2=k at h B;go_enter (qz func307),ntmps307;go_wp2_with fail;apply h.mono;rintro e w1 ⟨rfl,i,d⟩;clear h w;go_wp2;simp[bodyPost,results,results307,go_sem];refine⟨_,p.fr.Lf (d.row p.fr.fc) i (d.mono dC) (fun a c=>j a ?_),sI,d.mono dC⟩;simp only[aAL,aAx,aAC,or_false] at c⊢;rcases c with c|c|c|c
 .exact .inl c
 .exact .inr (.inr (.inr c))
 .exact .inr (.inr (.inl c))
 .exact .inr (.inl c)
def zF(x:Nat)(p:x≠0/\x≠63/\x≠46/\x≠47/\x≠40/\x≠41/\x≠42/\x≠43/\x≠44/\x≠45/\x≠50/\x≠60/\x≠61/\x≠62/\x≠64/\x≠48){R:K6}(b:Cq 307 #[pq f 0,vB (x:Int)] W fun e a=>e=rU/\R a):
  Cq 263 #[pq f 0,vB (x:Int)] W fun e a=>e=.rt .nilIface/\R a:=by
 have v:¬(x:Int)=0:=oM
 have c:¬(x:Int)=63:=oM
 have t:¬(x:Int)=46:=oM
 have i:¬(x:Int)=47:=oM
 have k:¬(x:Int)=40:=oM
 have u:¬(x:Int)=41:=oM
 have l:¬(x:Int)=42:=oM
 have q:¬(x:Int)=43:=oM
 have n:¬(x:Int)=44:=oM
 have m:¬(x:Int)=45:=oM
 have o:¬(x:Int)=50:=oM
 have g:¬(x:Int)=60:=oM
 have d:¬(x:Int)=61:=oM
 have j:¬(x:Int)=62:=oM
 have h:¬(x:Int)=64:=oM
 have s:¬(x:Int)=48:=oM
 clear p;go_enter (qz func263),ntmps263;go_wp2_with fail;apply b.mono;rintro e w1 ⟨rfl,r⟩;clear b;go_wp2;go_ret;exact⟨rfl,r⟩
def Bl(p:Pd W C s f F sv mv S X g b n2)(n:1<=b)(x:Nat)(o:96<=x/\x<=127)(q:S.length+1<=1024)(a:Nat)(i:F.place=(a:Int))(j:a<F.text.size)(c:F.text.size<2147483648)(h:n2<=a+33)(d:a+1<=n2):
  Cq 263 #[pq f 0,vB (x:Int)] W fun e k=>Dn W C s f F X g b e k:=by
 apply(zF x oM (dj p x o a i j c h d)).mono;rintro e k ⟨rfl,sv',y,m,l⟩;exact .inl ⟨rfl,.plain p n m rfl sQ0 (l.mono dC)⟩
def Gi(p:Pd W C s f F sv mv S X g b n2)(h:1<=b)(x:Nat)(i:128<=x/\x<=143)(k:S.length+1<=1024)(j:x<=S.length+127):
  Cq 263 #[pq f 0,vB (x:Int)] W fun e a=>Dn W C s f F X g b e a:=by
 apply(zF x oM (rh p x i (x - 127) oM oM)).mono;rintro e a ⟨rfl,sv',y,d,c⟩;exact .inl ⟨rfl,.plain p h d rfl sQ0 (c.mono dC)⟩
def Bp(p:Pd W C s f F sv mv S X g b n2)(j:1<=b)(x:Nat)(k:144<=x/\x<=159)(d:x<=S.length+142):
  Cq 263 #[pq f 0,vB (x:Int)] W fun e a=>Dn W C s f F X g b e a:=by
 apply(zF x oM (dt p x k d)).mono;rintro e a ⟨rfl,l,h,i,c⟩;exact .inl ⟨rfl,.plain p j h rfl (by rw[i];exact p.sl) (c.mono dC)⟩
def Ma(p:Pd W C s f F sv mv S X g b n2)(l:1<=b)(n:1<=S.length):Cq 263 #[pq f 0,vB 44] W fun e k=>Dn W C s f F X g b e k:=by go_enter (qz func263),ntmps263;go_wp2_with fail;refine rq (fun V=>True) trivial fun d=>?_;refine t6 0 1 2 3 4 5 d ?_;refine t1 6 d ?_;refine rA 7 fun K c=>?_;go_simp;apply(gA p.drew.fr n).mono;rintro e w1 ⟨rfl,⟨q,j⟩,a⟩;go_wp2_with fail;refine c.out _ _ trivial fun d=>?_;have o:=p.drew.mi.px a dC;refine rA 8 fun K c=>?_;go_simp;apply(di j o p.fm (tw S 1) (eO p.fr 1)).mono;rintro e w2 ⟨rfl,h⟩;go_wp2_with fail;refine c.out _ _ trivial fun d=>?_;refine rA 9 fun K c=>?_;go_simp;refine(yZ (j.below h) ((gt s.A F.self).sl (tw S 1)) (p.mi.lf.L1 _ _) (by rw[aAt];have:=p.sl;omega)).mono ?_;rintro e w3 ⟨rfl,⟨m,r⟩,i⟩;go_wp2_with fail;refine c.out _ _ trivial fun d=>?_;refine dn ?_;go_wp2;go_ret;exact .inl ⟨rfl,.plain p l r rfl (by simp;have:=p.sl;omega) ((Px.aF bR.drew _).tr ((a.mono dC).tr ((Px.aF h _).tr (i.mono dC))))⟩
def dx(n:Int)(W:WR):Cq 341 #[vI n] W fun e d=>(∃x,x<M/\e=.rt (wd x))/\Bw W d:=by obtain⟨u,g⟩:∃u,IntKind.u64.wrap n=u:=⟨_,rfl⟩;have a:U u:=g▸bT n;have⟨x,i,b,c,h,f⟩:=IS u 0 0 0 a.1 dC dC dC a.2 dC dC dC;go_enter (qz func341),ntmps341;go_wp2;simp[bodyPost,results,results341,go_sem];exact⟨⟨x,i,b.symm,c.symm,h.symm,f.symm⟩,ba⟩
def Tl(W:WR)(f:Nat)(F:fC)(mv:SV)(S:K4)(X:K3)(k:Nat)(e:Ending)(b:WR):Prop:=(∃y,y<M/\e=.returned (wd y))/\∃sv' a,dT b f F sv' mv a X/\a.length+k=S.length/\Px [225] W b
def Gj(p:Pd W C s f F sv mv S X g b n2):Calls zQ.prog 336 #[pq f 0,.int .u8 24] W fun e r=>Tl W f F mv S X 0 e r:=by
 have c:Below W.heap.size W (W.alloc (.cells wz 41)):=ba;have q:=p.fr.below c;have y:=aM W (.cells wz 41);have v:=aG q.fc;have t:=bq q.fc 6;go_enter (qz func336),Tryz.ntmps336;go_wp2_with fail
 refine(dx F.self _).mono ?_;rintro e D ⟨⟨x,w,rfl⟩,h⟩;clear t;have a:=bk h y;have u:=aG a;have j:=c.trans (h.mono c.size);obtain⟨n,l,k,m,E,z,G,A⟩:=q8 a;go_wp2;clear n l k m;obtain⟨B,o,i,d⟩:=mx x a j oM;rw[o];clear o;obtain⟨n,l,k,m⟩:=q4 i;simp[bodyPost,results,Tryz.results336,go_sem,n,l,k,m];exact⟨⟨x,w,rfl⟩,sv,S,p.fr.below d,rfl,Px.aF d _⟩
def Gk(p:Pd W C s f F sv mv S X g b n2):Calls zQ.prog 336 #[pq f 0,.int .u8 26] W fun e r=>Tl W f F mv S X 0 e r:=by
 have c:Below W.heap.size W (W.alloc (.cells wz 41)):=ba;have q:=p.fr.below c;have y:=aM W (.cells wz 41);have v:=aG q.fc;have t:=bq q.fc 7;go_enter (qz func336),Tryz.ntmps336;go_wp2_with fail
 refine(dx F.caller _).mono ?_;rintro e D ⟨⟨x,w,rfl⟩,h⟩;clear t;have a:=bk h y;have u:=aG a;have j:=c.trans (h.mono c.size);obtain⟨n,l,k,m,E,z,G,A⟩:=q8 a;go_wp2;clear n l k m;obtain⟨B,o,i,d⟩:=mx x a j oM;rw[o];clear o;obtain⟨n,l,k,m⟩:=q4 i;simp[bodyPost,results,Tryz.results336,go_sem,n,l,k,m];exact⟨⟨x,w,rfl⟩,sv,S,p.fr.below d,rfl,Px.aF d _⟩
def Gl(p:Pd W C s f F sv mv S X g b n2):Calls zQ.prog 336 #[pq f 0,.int .u8 30] W fun e r=>Tl W f F mv S X 0 e r:=by
 have c:Below W.heap.size W (W.alloc (.cells wz 41)):=ba;have q:=p.fr.below c;have y:=aM W (.cells wz 41);have v:=aG q.fc;have t:=bq q.fc 13;go_enter (qz func336),Tryz.ntmps336;go_wp2_with fail
 refine(dx F.bP _).mono ?_;rintro e D ⟨⟨x,w,rfl⟩,h⟩;clear t;have a:=bk h y;have u:=aG a;have j:=c.trans (h.mono c.size);obtain⟨n,l,k,m,E,z,G,A⟩:=q8 a;go_wp2;clear n l k m;obtain⟨B,o,i,d⟩:=mx x a j oM;rw[o];clear o;obtain⟨n,l,k,m⟩:=q4 i;simp[bodyPost,results,Tryz.results336,go_sem,n,l,k,m];exact⟨⟨x,w,rfl⟩,sv,S,p.fr.below d,rfl,Px.aF d _⟩
def Gm(p:Pd W C s f F sv mv S X g b n2):Calls zQ.prog 336 #[pq f 0,.int .u8 31] W fun e r=>Tl W f F mv S X 0 e r:=by
 have c:Below W.heap.size W (W.alloc (.cells wz 41)):=ba;have q:=p.fr.below c;have y:=aM W (.cells wz 41);have v:=aG q.fc;have t:=bq q.fc 16;go_enter (qz func336),Tryz.ntmps336;go_wp2_with fail
 refine(dx F.place _).mono ?_;rintro e D ⟨⟨x,w,rfl⟩,h⟩;clear t;have a:=bk h y;have u:=aG a;have j:=c.trans (h.mono c.size);obtain⟨n,l,k,m,E,z,G,A⟩:=q8 a;go_wp2;clear n l k m;obtain⟨B,o,i,d⟩:=mx x a j oM;rw[o];clear o;obtain⟨n,l,k,m⟩:=q4 i;simp[bodyPost,results,Tryz.results336,go_sem,n,l,k,m];exact⟨⟨x,w,rfl⟩,sv,S,p.fr.below d,rfl,Px.aF d _⟩
def Gp(p:Pd W C s f F sv mv S X g b n2):Calls zQ.prog 336 #[pq f 0,.int .u8 28] W fun e r=>Tl W f F mv S X 0 e r:=by
 have c:Below W.heap.size W (W.alloc (.cells wz 41)):=ba;have q:=p.fr.below c;have y:=aM W (.cells wz 41);have v:=aG q.fc;have t:=bq q.fc 12;go_enter (qz func336),Tryz.ntmps336;go_wp2_with fail
 refine(dx (F.data.n:Int) _).mono ?_;rintro e D ⟨⟨x,w,rfl⟩,h⟩;clear t;have a:=bk h y;have u:=aG a;have j:=c.trans (h.mono c.size);obtain⟨n,l,k,m,E,z,G,A⟩:=q8 a;go_wp2;clear n l k m;obtain⟨B,o,i,d⟩:=mx x a j oM;rw[o];clear o;obtain⟨n,l,k,m⟩:=q4 i;simp[bodyPost,results,Tryz.results336,go_sem,n,l,k,m];exact⟨⟨x,w,rfl⟩,sv,S,p.fr.below d,rfl,Px.aF d _⟩
def Gq(p:Pd W C s f F sv mv S X g b n2):Calls zQ.prog 336 #[pq f 0,.int .u8 32] W fun e r=>Tl W f F mv S X 0 e r:=by
 have c:Below W.heap.size W (W.alloc (.cells wz 41)):=ba;have q:=p.fr.below c;have y:=aM W (.cells wz 41);have v:=aG q.fc;have t:=bq q.fc 15;go_enter (qz func336),Tryz.ntmps336;go_wp2_with fail
 refine(dx (mv.n:Int) _).mono ?_;rintro e D ⟨⟨x,w,rfl⟩,h⟩;clear t;have a:=bk h y;have u:=aG a;have j:=c.trans (h.mono c.size);obtain⟨n,l,k,m,E,z,G,A⟩:=q8 a;go_wp2;clear n l k m;obtain⟨B,o,i,d⟩:=mx x a j oM;rw[o];clear o;obtain⟨n,l,k,m⟩:=q4 i;simp[bodyPost,results,Tryz.results336,go_sem,n,l,k,m];exact⟨⟨x,w,rfl⟩,sv,S,p.fr.below d,rfl,Px.aF d _⟩
def Gs(p:Pd W C s f F sv mv S X g b n2):Cq 336 #[pq f 0,vB 27] W fun e d=>Tl W f F mv S X 0 e d:=by have a:Bw W (W.nc wz 41):=ba;have c:=p.fr.below a;have i:=aM W (.ce wz 41);have h:=aG c.fc;have j:=bq c.fc 8;have d1:=bq c.fc 9;have d2:=bq c.fc 10;have d3:=bq c.fc 11;clear i a;go_enter (qz func336),ntmps336;go_wp2;simp[bodyPost,results,results336,go_sem];exact⟨⟨F.val,p.vl.1,rfl⟩,sv,S,p.fr.below ba,rfl,Px.aF ba _⟩
def zG(h:dT W f F sv mv S X)(i:1<=S.length):
  Cq 296 #[pq f 14] W fun e b=>e=.rt (wd (tw S 1))/\dT b f F ⟨sv.a,S.dropLast.length,sv.c⟩ mv S.dropLast X/\Px [225] W b:=by
 have a:=h;rw[pop i] at a;apply(QO a.st a.fc (o:=14) rfl dC).mono;rintro e b ⟨rfl,d,g,h3⟩;have c:Px [225] W b:=fU a.fc d h3 (fun t k=>by cases k) dC h.lo;exact⟨rfl,a.Lf (sv':=⟨sv.a,S.dropLast.length,sv.c⟩) d g (c.mono dC) (fun y j=>a.sm y (List.mem_append_left _ j)),c⟩
def JU{e s:Nat}{v:vZ}{a:K3}(h:V.ownsRow b e s v n a)(c:∀g,v.ownBlock=some g->g<W.heap.size)(f:Below W.heap.size V V'):V'.ownsRow b e s v n a:=dM h fun g d=>f.block g (c g d)
def dT.over{u:K4}(j:dT W f F sv mv u X)(h:dT V f F sv' mv S X)(E:sv'.a=sv.a)(k:Below W.heap.size V V')(B:V.heap.size<=V'.heap.size):dT V' f F sv' mv S X:=by
 have y:=aG j.fc;have d:∀{b e s n:Nat} {v:vZ} {A:K3},W.ownsRow b e s v n A->∀g,v.ownBlock=some g->g<W.heap.size:=fun h g i=>by have⟨x,G⟩:=cL h g i;exact aG G
 have q:∀g,(Value.slice sv'.a sv'.n sv'.c).ownBlock=some g->g<W.heap.size:=fun g i=>by
  refine d j.st.own g ?_;rw[E] at i;cases l:sv.a with
  |none=>rw[l] at i;cases i
  |some a=>rw[l] at i;exact i
 refine⟨(k.block f y).tr h.fc,h.lo,⟨JU h.st.own q k,h.st.num,aAw h.st.low B⟩,h.sm,JU h.me (d j.me) k,h.mb,?_,?_⟩
 .rcases j.ma with e| ⟨g,o,c,m,r,D⟩
  .exact .inl e
  .rcases h.ma with e| ⟨w,C,p,d1,d2,d3⟩
   .exact .inl e
   .rw[m] at d1;cases d1;exact .inr ⟨g,o,p,m,(k.block g (aG r)).tr d2,d3⟩
 .rcases j.da with e| ⟨g,o,c,I,m,H,r,D⟩
  .exact .inl e
  .rcases h.da with e| ⟨w,C,p,t,d1,z,d2,d3⟩
   .exact .inl e
   .rw[m] at d1;cases d1;exact .inr ⟨g,o,p,t,m,z,(k.block g (aG r)).tr d2,d3⟩
def Gt(p:Pd W C s f F sv mv S X g b n2)(hS:1<=S.length):Cq 336 #[pq f 0,vB 25] W fun e Z=>Tl W f F mv S X 1 e Z:=by
 have j:Bw W (W.alloc (.cells wz 41)):=ba;have J:=p.fr.below j;have U:=aM W (.cells wz 41);have a1:=aG p.fr.fc;have a2:=p.mi.fE.1;go_enter (qz func336),Tryz.ntmps336;go_wp2_with fail;change Code.wp _ _ _ _ (W.alloc (.cells wz 41));have x:=J.below bR.drew;have N:=(p.mi.below j).below bR.drew;generalize(W.alloc (.cells wz 41))=V1 at j J U x N⊢;refine sk (S:=fun V=>(∃c:Ff,V.heap[f]?=ob c 225/\c[0]?=some (pq C.mc 0))/\V.cell? ⟨C.mc,0,none⟩=some (pq C.l 0)/\V.heap[W.heap.size]?=ob wz 41) 13 kR ⟨⟨_,J.fc,by rw[<-p.fm];rfl⟩,(p.mi.below j).fE.2,U⟩ fun a=>?_;refine tF 0 a ?_;refine tF 1 a ?_;refine tF 2 a ?_;refine tE 3 18 (pq C.mc 0) (fun V B=>?_) a ?_
 .obtain⟨⟨c,k1,Y⟩,_⟩:=B;have T:=aJ k1 0;rw[Y] at T;clear k1 Y a;go_simp
 refine tF 4 a ?_;refine tF 5 a ?_;refine tE 6 21 (pq C.l 0) (fun V B=>?_) a ?_
 .have T:=B.2.1;clear B a;go_simp
 refine tF 7 a ?_;refine tF 8 a ?_;refine tF 9 a ?_;refine rB 10 fun K q=>?_;go_simp;refine(zG x oM).mono ?_;rintro e w1 ⟨rfl,D,m⟩;go_wp2_with fail;refine q.out _ _ ⟨⟨_,D.fc,by rw[<-p.fm];rfl⟩,(N.px m dC).fE.2,m.row a.2.2⟩ fun a=>?_;have E:=N.px m dC;refine rB 11 fun K q=>?_;go_simp;refine(E7 (tw S 1) w1).mono ?_;rintro e w2 ⟨i,_,_,rfl,d⟩;go_wp2_with fail;refine q.out _ _ ⟨⟨_,(D.below d).fc,by rw[<-p.fm];rfl⟩,(E.below d).fE.2,bk d a.2.2⟩ fun a=>?_;refine rB 12 fun K q=>?_;go_simp;refine(qm (E.below d).lf i).mono ?_;rintro e l ⟨rfl,z⟩;have n:=d.trans (z.mono d.size);go_wp2_with fail;refine q.out _ _ ⟨⟨_,(D.below n).fc,by rw[<-p.fm];rfl⟩,(E.below n).fE.2,bk z a.2.2⟩ fun a=>?_;have u:=a.2.2;have a0:=aG u;obtain⟨P,I,H,O,y0,y1,y2,y3⟩:=q8 u;refine rC fun K q=>?_;go_simp;refine q.out _ _ ?_;refine dk kR ?_ _;have G:Below W.heap.size l l:=Below.refl _ _;have Q:(gt s.A i).cn<M:=p.mi.lf.Lz i;go_wp2;clear P I H O;have w:=dV (vU (aI (gt s.A i).cn 0)) (vU (aI (gt s.A i).cn 1)) (vU (aI (gt s.A i).cn 2)) (vU (aI (gt s.A i).cn 3)) u;have r:Below W.heap.size l ((((l.setCell ⟨W.heap.size,0,none⟩ (vU (aI (gt s.A i).cn 0))).setCell ⟨W.heap.size,1,none⟩ (vU (aI (gt s.A i).cn 1))).setCell ⟨W.heap.size,2,none⟩ (vU (aI (gt s.A i).cn 2))).setCell ⟨W.heap.size,3,none⟩ (vU (aI (gt s.A i).cn 3))):=(((G.setCell lR _).setCell lR _).setCell lR _).setCell lR _;have h:Px [225] W l:=(Px.aF j.drew _).trans (m.trans (Px.aF n _));have y:∀v,Below W.heap.size l v->l.heap.size<=v.heap.size->Px [225] W v:=fun v A hs=>⟨A.os.trans h.os,A.tape.trans h.tape,A.output.trans h.output,aAw h.size hs,fun k R=>by rw[A.block k R];exact h.block k R⟩;have o:l.heap.size=((((l.setCell ⟨W.heap.size,0,none⟩ (vU (aI (gt s.A i).cn 0))).setCell ⟨W.heap.size,1,none⟩ (vU (aI (gt s.A i).cn 1))).setCell ⟨W.heap.size,2,none⟩ (vU (aI (gt s.A i).cn 2))).setCell ⟨W.heap.size,3,none⟩ (vU (aI (gt s.A i).cn 3))).heap.size:=sI
 have t:=o;generalize((((l.setCell ⟨W.heap.size,0,none⟩ (.int .u64 (aI (gt s.A i).cn 0))).setCell ⟨W.heap.size,1,none⟩ (.int .u64 (aI (gt s.A i).cn 1))).setCell ⟨W.heap.size,2,none⟩ (.int .u64 (aI (gt s.A i).cn 2))).setCell ⟨W.heap.size,3,none⟩ (.int .u64 (aI (gt s.A i).cn 3)))=v at w r t o⊢;have L:=y v r (by rw[t];exact aAz _);obtain⟨P,I,H,O⟩:=q4 w;simp[bodyPost,results,Tryz.results336,go_sem,P,I,H,O];exact⟨⟨_,Q,rfl⟩,_,_,p.fr.over (D.below n) rfl r (by rw[<-t];exact aAz _),by rw[aAt];exact oM,L⟩
def OK{o a:Nat}(h:a<n)(e:n<=c):(Instr.sliceAt 31 (.slice (some ⟨g,o,none⟩) n c) (some (.int .i64 (a:Int))) none none).run zQ.prog W=.ok (.slice (some ⟨g,o+a,none⟩) (n - a) (c - a)) W:=by
 have b:¬c=a:=oM
 simp[Instr.sliceAt,Instr.slice,Instr.sliceBounds,Instr.sliceBound,run_underlying Bh,asIntOf,b,Addr.add_lit];intro d;omega
def Mb(p:Pd W C s f F sv mv S X g b n2)(v:Nat)(hv:v<M):Cq 345 #[pq f 0,wd v] W fun e I=>(∃x,x<M/\e=.returned (wd x))/\Bw W I:=by
 have l:Bw W ((W.alloc (.cells (wq v) 41)).alloc (.cells wz 41)):=(ba).trans ((ba).mono sI);have D:=p.fr.below l;have B:((W.alloc (.cells (wq v) 41)).alloc (.cells wz 41)).heap[W.heap.size]?=ob (wq v) 41:=aT (aM W _);have Z:((W.alloc (.cells (wq v) 41)).alloc (.cells wz 41)).heap[W.heap.size+1]?=ob wz 41:=by have:=aM (W.alloc (.cells (wq v) 41)) (.cells wz 41);simpa using this
 have⟨P,a4⟩:=p.dl;have z:∀w,Cq 326 #[wd v,vI (F.data.n:Int)] w fun e I=>(∃a q,e=.returned (.tuple #[vI a,.bool q])/\((q=true/\a=(v:Int)/\v<F.data.n)\/(q=false/\a=0)))/\Bw w I:=fun w=>by
  refine(OI v F.data.n hv oM w).mono ?_;rintro e I ⟨⟨D,rfl⟩| ⟨D,rfl⟩,J⟩
  · exact⟨⟨_,_,rfl,.inl ⟨rfl,rfl,D⟩⟩,J⟩
  · exact⟨⟨_,_,rfl,.inr ⟨rfl,rfl⟩⟩,J⟩
 go_enter (qz func345),Tryz.ntmps345;go_wp2_with fail;change Code.wp _ _ _ _ ((W.alloc (.cells (wq v) 41)).alloc (.cells wz 41));generalize((W.alloc (.cells (wq v) 41)).alloc (.cells wz 41))=V1 at l D B Z⊢;refine rq (fun V=>V.heap[f]?=ob (iE F sv mv) 225/\V.heap[W.heap.size]?=ob (wq v) 41/\V.heap[W.heap.size+1]?=ob wz 41) ⟨D.fc,B,Z⟩ fun d=>?_;refine tV 0 (fun _ N=>q4 (N.2.1)) d ?_;refine t3 1 2 3 d ?_;refine tV 4 (fun _ N=>bq (N.1) 12) d ?_;refine t1 5 d ?_;refine rA 6 fun K hK=>?_;go_simp;refine(z _).mono ?_;rintro e w2 ⟨⟨a,q,rfl,T⟩,k⟩;go_wp2_with fail;refine hK.out _ _ ⟨bk k d.1,bk k d.2.1,bk k d.2.2⟩ fun d=>?_;refine t5 7 8 9 10 11 d ?_;refine dn ?_;have E:Bw W w2:=l.drew.trans (k.mono l.size);have y:=p.fr.below E;have m:=d.2.2;have a3:=aG y.fc;have AI:=bq y.fc 12;clear z;rcases T with⟨rfl,rfl,n⟩| ⟨rfl,rfl⟩
 · rcases y.da with h0| ⟨O,G,cd,fz,e1,e0,Y,e3⟩
   · exact oM
   · have a1:=OK (W:=w2) (g:=O) (o:=G) n P
     have Q:RB w2 ⟨some ⟨O,G+v,none⟩,F.data.n - v,F.data.c - v⟩:=.inr ⟨O,G+v,rfl,aG Y,fun i hi=>by simp only at hi;obtain⟨b,J,T⟩:=e3 (v+i) oM;exact⟨b,J,by rw[cell_of_row _ _ _ _ _ _ Y,show G+v+i=G+(v+i) by exact oM];exact T⟩⟩
     have A:=Bj Q 32 lR;rw[e1] at AI;have a0:=US n;clear n;go_wp2_with fail;refine A.mono ?_;rintro e W2 ⟨⟨x,hx,rfl⟩,H⟩;clear A AI;have c:=bk H m;have R:=aG c;have L:=E.trans (H.mono E.size);obtain⟨u,r,o,t,y0,y1,y2,y3⟩:=q8 c;go_wp2;clear u r o t;obtain⟨V5,U,h,j⟩:=mx x c L oM;rw[U];clear U;obtain⟨u,r,o,t⟩:=q4 h;simp[bodyPost,results,Tryz.results345,go_sem,u,r,o,t];exact⟨⟨x,hx,rfl,rfl,rfl,rfl⟩,j⟩
 · have c:=m
   have R:=aG c;have a2:Bw W w2:=E;obtain⟨u,r,o,t,y0,y1,y2,y3⟩:=q8 c;go_wp2;have h:=dV (vU 0) (vU 0) (vU 0) (vU 0) c;have j:Bw W ((((w2.setCell ⟨W.heap.size+1,0,none⟩ (vU 0)).setCell ⟨W.heap.size+1,1,none⟩ (vU 0)).setCell ⟨W.heap.size+1,2,none⟩ (vU 0)).setCell ⟨W.heap.size+1,3,none⟩ (vU 0)):=by refine Below.setCell (Below.setCell (Below.setCell (Below.setCell E ?_ _) ?_ _) ?_ _) ?_ _<;>(show W.heap.size<=W.heap.size+1;exact oM)
   clear u r o t;generalize((((w2.setCell ⟨W.heap.size+1,0,none⟩ (.int .u64 0)).setCell ⟨W.heap.size+1,1,none⟩ (.int .u64 0)).setCell ⟨W.heap.size+1,2,none⟩ (.int .u64 0)).setCell ⟨W.heap.size+1,3,none⟩ (.int .u64 0))=V5 at h j⊢;obtain⟨u,r,o,t⟩:=q4 h;simp[bodyPost,results,Tryz.results345,go_sem,u,r,o,t];exact⟨⟨0,dC,by simp[aI],by simp[aI],by simp[aI],by simp[aI]⟩,j⟩
def Gu(p:Pd W C s f F sv mv S X g b n2)(Q:1<=S.length):Cq 336 #[pq f 0,vB 29] W fun e J=>Tl W f F mv S X 1 e J:=by
 have n:Bw W (W.alloc (.cells wz 41)):=ba;have I:=p.fr.below n;have P:=aM W (.cells wz 41);have M:=aG I.fc;have E:=zG I Q;go_enter (qz func336),Tryz.ntmps336;go_wp2_with fail;refine E.mono ?_;rintro e w1 ⟨rfl,H,h⟩;clear E;have K:Pd w1 C s f F ⟨sv.a,S.dropLast.length,sv.c⟩ mv S.dropLast X g b n2:=⟨H,(p.mi.below n).px h dC,p.fm,p.bP,p.nx,p.nb,by rw[aAt];have:=p.sl;exact oM,p.xl,p.gl,p.cl,p.ml,p.dl,p.vl⟩;have r:=Mb K (tw S 1) (eO p.fr 1);have w:=h.row P;go_wp2_with fail;refine r.mono ?_;rintro e c ⟨⟨x,O,rfl⟩,m⟩;clear r;have l:=bk m w;have L:=aG l;have v:Below W.heap.size c c:=Below.refl _ _;obtain⟨D,z,y,B,U,R,V,T⟩:=q8 l;go_wp2;clear D z y B;have q:=dV (vL x 0) (vL x 1) (vL x 2) (vL x 3) l;have i:Below W.heap.size c ((((c.setCell ⟨W.heap.size,0,none⟩ (vL x 0)).setCell ⟨W.heap.size,1,none⟩ (vL x 1)).setCell ⟨W.heap.size,2,none⟩ (vL x 2)).setCell ⟨W.heap.size,3,none⟩ (vL x 3)):=(((v.setCell lR _).setCell lR _).setCell lR _).setCell lR _;have a:Px [225] W c:=(Px.aF n _).trans (h.trans (Px.aF m _));have t:∀o,Below W.heap.size c o->c.heap.size<=o.heap.size->Px [225] W o:=fun o u N=>⟨u.os.trans a.os,u.tape.trans a.tape,u.output.trans a.output,aAw a.size N,fun k G=>by rw[u.block k G];exact a.block k G⟩;have d:c.heap.size=((((c.setCell ⟨W.heap.size,0,none⟩ (vL x 0)).setCell ⟨W.heap.size,1,none⟩ (vL x 1)).setCell ⟨W.heap.size,2,none⟩ (vL x 2)).setCell ⟨W.heap.size,3,none⟩ (vL x 3)).heap.size:=sI
 have j:=d;generalize((((c.setCell ⟨W.heap.size,0,none⟩ (.int .u64 (aI x 0))).setCell ⟨W.heap.size,1,none⟩ (.int .u64 (aI x 1))).setCell ⟨W.heap.size,2,none⟩ (.int .u64 (aI x 2))).setCell ⟨W.heap.size,3,none⟩ (.int .u64 (aI x 3)))=o at q i j d⊢;have A:=t o i (by rw[j];exact aAz _);obtain⟨D,z,y,B⟩:=q4 q;simp[bodyPost,results,Tryz.results336,go_sem,D,z,y,B];exact⟨⟨x,O,rfl⟩,_,_,p.fr.over (H.below m) rfl i (by rw[<-j];exact aAz _),by rw[aAt];exact oM,A⟩
def Mc(p:Pd W C s f F sv mv S X g b n2)(x:Nat)(h:24<=x/\x<=32)(a:x=25\/x=29->1<=S.length):Cq 336 #[pq f 0,vB (x:Int)] W fun e c=>Tl W f F mv S X (if x=25\/x=29 then 1 else 0) e c:=by
 have d:x=24\/x=25\/x=26\/x=27\/x=28\/x=29\/x=30\/x=31\/x=32:=oM
 rcases d with rfl|rfl|rfl|rfl|rfl|rfl|rfl|rfl|rfl
 .exact Gj p
 .exact Gt p (a dC)
 .exact Gk p
 .exact Gs p
 .exact Gp p
 .exact Gu p (a dC)
 .exact Gl p
 .exact Gm p
 .exact Gq p
def ri(p:Pd W C s f F sv mv S X g b n2)(x k:Nat)(v:24<=x/\x<=32)(n:∀W sv,Pd W C s f F sv mv S X g b n2->Cq 336 #[pq f 0,vB (x:Int)] W fun e a=>Tl W f F mv S X k e a):
  Cq 307 #[pq f 0,vB (x:Int)] W fun e a=>e=rU/\∃sv' m,dT a f F sv' mv m X/\m.length+k=S.length+1/\Px [225,41] W a:=by
 have r:¬(x:Int)<=22:=oM
 have o:(x:Int)<=32:=oM
 have l:=US n;clear v n;go_enter (qz func307),ntmps307;go_wp2_with fail;refine rq (fun V=>True) trivial fun j=>?_;refine t5 0 1 2 3 4 j ?_;refine rA 5 fun K d=>?_;go_simp;apply(l.out _ _ p.drew).mono;rintro e w1 ⟨⟨y,t,rfl⟩,u,S1,q,z,c⟩;go_wp2_with fail;refine d.out _ _ trivial fun j=>?_;refine rA 6 fun K d=>?_;go_simp;refine(yZ q y t (by have:=p.sl;omega)).mono ?_;rintro e w2 ⟨rfl,⟨h,w⟩,i⟩;go_wp2_with fail;refine d.out _ _ trivial fun j=>?_;refine dn ?_;go_wp2;simp[bodyPost,results,results307,go_sem];exact⟨h,_,w,by simp;omega,(Px.aF bR.drew _).tr ((c.mono dC).tr i)⟩
def dy(p:Pd W C s f F sv mv S X g b n2)(x k:Nat)(u:x<=22)(n:∀W sv,Pd W C s f F sv mv S X g b n2->Cq 335 #[pq f 0,vB (x:Int)] W fun e a=>Tl W f F mv S X k e a):
  Cq 307 #[pq f 0,vB (x:Int)] W fun e a=>e=rU/\∃sv' m,dT a f F sv' mv m X/\m.length+k=S.length+1/\Px [225,41] W a:=by
 have q:(x:Int)<=22:=oM
 have l:=US n;clear u n;go_enter (qz func307),ntmps307;go_wp2_with fail;refine rq (fun V=>True) trivial fun j=>?_;refine t5 0 1 2 3 4 j ?_;refine rA 5 fun K d=>?_;go_simp;apply(l.out _ _ p.drew).mono;rintro e w1 ⟨⟨y,r,rfl⟩,t,S1,o,w,c⟩;go_wp2_with fail;refine d.out _ _ trivial fun j=>?_;refine rA 6 fun K d=>?_;go_simp;refine(yZ o y r (by have:=p.sl;omega)).mono ?_;rintro e w2 ⟨rfl,⟨h,v⟩,i⟩;go_wp2_with fail;refine d.out _ _ trivial fun j=>?_;refine dn ?_;go_wp2;simp[bodyPost,results,results307,go_sem];exact⟨h,_,v,by simp;omega,(Px.aF bR.drew _).tr ((c.mono dC).tr i)⟩
def Gv(p:Pd W C s f F sv mv S X g b n2)(k:1<=b)(x:Nat)(c:24<=x/\x<=32)(j:x=25\/x=29->1<=S.length)(i:S.length+1<=1024+(if x=25\/x=29 then 1 else 0)):
  Cq 263 #[pq f 0,vB (x:Int)] W fun e a=>Dn W C s f F X g b e a:=by
 apply(zF x oM (ri p x (if x=25\/x=29 then 1 else 0) c (fun W sv p=>Mc p x c j))).mono;rintro e a ⟨rfl,sv',l,h,m,d⟩;exact .inl ⟨rfl,.plain p k h rfl oM (d.mono dC)⟩
def Bq(p:Pd W C s f F sv mv S X g b n2)(h:1<=b)(x k:Nat)(j:1<=x/\x<=22)(m:1<=k)(i:∀W sv,Pd W C s f F sv mv S X g b n2->Cq 335 #[pq f 0,vB (x:Int)] W fun e a=>Tl W f F mv S X k e a):
  Cq 263 #[pq f 0,vB (x:Int)] W fun e a=>Dn W C s f F X g b e a:=by
 apply(zF x oM (dy p x k j.2 i)).mono;rintro e a ⟨rfl,sv',l,d,n,c⟩;exact .inl ⟨rfl,.plain p h d rfl (by have:=p.sl;omega) (c.mono dC)⟩
abbrev LM:K4:=[128,136,262,1000,1001,165,95]
def Mi.Pj(h:Mi W C s){c':Nat}(a:s.c<=c'):Mi W C {s with c:=c'}:=
 ⟨h.lf,h.mc,h.wT,h.ge,fun i b v d=>(h.av i b v d).px (Px.refl [] W) sI a,h.sup.mono a,aAw h.bj a,⟨aAw h.bn.1 a,h.bn.2⟩,⟨h.bc.1,by have:=h.bc.2;show s.cr*30000<=(c':Int);omega⟩,⟨h.bb.1,by have:=h.bb.2;show s.back<=24000*(c':Int);omega⟩,h.bd,h.tq⟩
def wZ{T:K4}{c j:Ff}(h:W.heap[C.mc]?=ob c 165)(g:W'.heap[C.mc]?=ob j 165){d:K4}(e:aU [C.mc] d W W')(i:∀t∈d,t∈T/\t≠225)(a:165∈T)(b:aB.b0<=C.mc):Px T W W':=
 e.px (fun k f _=>by
  obtain rfl:k=C.mc:=by simpa using f
  rw[h,g];exact⟨a,by show lw 165<=C.mc;simpa[lw,aB.lo] using b,rfl⟩) i
def Mi.back(h:Mi W C s)(a:Int)(m:0<=a/\a<=24000):Mi (W.setCell ⟨C.mc,2,none⟩ (vI (s.back+a))) C {s with back:=s.back+a,c:=s.c+1}/\Px [165] W (W.setCell ⟨C.mc,2,none⟩ (vI (s.back+a))):=by have e:=h.Pj (c':=s.c+1) oM;have⟨lg,f,l⟩:=h.mc;have g:=aO (i:=2) (v:=vI (s.back+a)) f;have d:Px [165] W (W.sA C.mc 2 (vI (s.back+a))):=wZ f g (aU.sC W C.mc 2 _) (fun t k=>by cases k) dC h.wT;exact⟨⟨h.lf.XV d dC,⟨lg,g,jX l d dC⟩,h.wT,h.ge.px d,fun i b v j=>(e.av i b v j).px d dC lR,e.sup,e.bj,e.bn,e.bc,⟨by have:=h.bb.1;show 0<=s.back+a;omega,by have:=h.bb.2;show s.back+a<=24000*((s.c+1:Nat):Int);omega⟩,h.bd,h.tq⟩,d⟩
def Ex.back(s:St)(a:Int):Ex 1 s {s with back:=s.back+a,c:=s.c+1}:=⟨(mI.refl _ _ _).mono (aBa _),⟨by show s.c<=s.c+1;omega,aAz _⟩,aAz _,sI,rfl,aBq _⟩
def ep{h:Nat->Nat}(f:VH h c)(k x:Nat):VH (yX h k x) (c+1):=by
 have⟨d,g,b⟩:=f;refine⟨k::d,by simp;omega,fun j a=>?_⟩;unfold yX at a;split at a
 .rename_i e;simp[e]
 .exact aAR _ (b j a)
def B3(h:Mi W C s)(i:Int)(m:Ir i)(k x:Nat)(g:k<M)(n:x<M)(p:s.c<399999999990):
  Cq 330 #[pq C.l 0,vI i,wd k,wd x] W fun e f=>e=rU/\To W C s 2 f:=by
 refine(L2 h.lf i k x g n (by have:=h.bj;omega)).mono ?_;rintro e f ⟨rfl,⟨b,v,o,c,l,d⟩,j⟩;exact⟨rfl,Mi.to (h.up m c l j (fun a=>⟨⟨a.nonce.1,by have:=a.nonce.2;show v.nonce<=4611686018427387904+((s.c+2:Nat):Int);omega⟩,(ep a.sup k x).mono oM,a.row,a.code,a.mark⟩) (aw c k x g d) (by show _+C.T=_+C.T;rfl) h.tq.lt (fun _=>rfl)) j lR⟩
def Hj(h:dT W f F sv mv S X)(t:Ir F.self)(R:Mi W C s)(j:F.m=C.mc)(k v:Nat)(Q:k<M)(T:v<M)(hc:s.c<399999999980):
   Cq 302 #[pq f 0,wd k,wd v] W fun e w'=>e=.returned (.tuple #[])/\∃s',Mi w' C s'/\Ex 3 s s'/\Px LM W w':=by
 have m:Bw W ((W.alloc (.cells (wq k) 41)).alloc (.cells (wq v) 41)):=(ba).trans ((ba).mono sI);have z:((W.alloc (.cells (wq k) 41)).alloc (.cells (wq v) 41)).heap[W.heap.size]?=ob (wq k) 41:=aT (aM W _);have D:((W.alloc (.cells (wq k) 41)).alloc (.cells (wq v) 41)).heap[W.heap.size+1]?=ob (wq v) 41:=by have:=aM (W.alloc (.cells (wq k) 41)) (.cells (wq v) 41);simpa using this
 have L:=di (h.below m) (R.below m) j k Q;have H:=wP ((gt s.A F.self).sl k) (R.lf.L1 _ _);have N:=wP v T;go_enter (qz func302),Tryz.ntmps302;go_wp2_with fail;refine L.mono ?_;rintro e w2 ⟨rfl,u⟩;clear L;have I:=m.trans (u.mono m.size);have f2:=h.below I;have x:=R.below I;have U:=bk u z;have q:=bk u D;have a1:=aG q;obtain⟨d0,d1,d2,d3⟩:=q4 q;clear z D;have key:∀(w3:WR) (O:St) (n:Nat),Mi w3 C O->Ex n s O->n<=1->Px [165] w2 w3->dT w3 f F sv mv S X/\Mi w3.drew C O/\O.c<399999999990/\w3.heap[W.heap.size]?=ob (wq k) 41/\w3.heap[W.heap.size+1]?=ob (wq v) 41:=fun w3 O n Y he hn Z=>⟨f2.px Z dC,Y.below bR.drew,by have:=he.c.2;exact oM,Z.row U,Z.row q⟩;by_cases P:(gt s.A F.self).sl k=0
 .rw[decide_eq_true P] at H;have a2:=US P;clear P;have p:=x;obtain⟨y,d,l,i,g⟩:=key w2 s 0 x (.refl s) dC (Px.refl _ _);go_wp2_with fail;refine rq (fun V=>V.heap[f]?=ob (iE F sv mv) 225/\V.cell? ⟨C.mc,0,none⟩=some (pq C.l 0)/\V.heap[W.heap.size]?=ob (wq k) 41/\V.heap[W.heap.size+1]?=ob (wq v) 41) ⟨y.fc,p.fE.2,i,g⟩ fun a=>?_;refine t3 0 1 2 a ?_;refine tD 3 29 (pq C.mc 0) (fun V b=>?_) a ?_
  .have E:=bq (b.1) 0;rw[j] at E;clear b a;go_simp
  refine t2 4 5 a ?_;refine tV 6 (fun _ b=>b.2.1) a ?_;refine t3 7 8 9 a ?_;refine tV 10 (fun _ b=>bq (b.1) 6) a ?_;refine tV 11 (fun _ b=>q4 (b.2.2.1)) a ?_;refine tV 12 (fun _ b=>q4 (b.2.2.2)) a ?_;refine rA 13 fun K G=>?_;go_simp;refine(B3 d F.self t k v Q T l).mono ?_;rintro e w4 ⟨rfl,A,o,B,c,_⟩;go_wp2_with fail;refine G.out _ _ ⟨c.row a.1,o.fE.2,c.row a.2.2.1,c.row a.2.2.2⟩ fun a=>?_;refine dn ?_;show bodyPost zQ.prog Tryz.f302 _ Exit.normal _ _;simp[bodyPost,results,Tryz.results302,go_sem];exact⟨A,o,B.mono dC,((Px.aF I _).trans (Px.aF bR.drew _)).trans (c.mono dC)⟩
 .rw[decide_eq_false P] at H;clear P;by_cases J:v=0
  · rw[decide_eq_true J] at N
    have a0:=US J;clear J;obtain⟨p,r⟩:=x.back 15000 ⟨dC,dC⟩;obtain⟨lg,w,_⟩:=x.mc;have c0:=bq f2.fc 0;have q2:=bq w 2;have a4:=aQ w 2;have a5:=aG f2.fc;have a6:=aG w;rw[j] at c0;have a3:=R.bb;have iw:IntKind.i64.wrap (s.back+15000)=s.back+15000:=iW;obtain⟨y,d,l,i,g⟩:=key _ _ 1 p (.back s 15000) dC r;go_wp2_with fail;generalize(w2.setCell ⟨C.mc,2,none⟩ (.int .i64 (s.back+15000)))=w3 at p r y d i g⊢;refine rq (fun V=>V.heap[f]?=ob (iE F sv mv) 225/\V.cell? ⟨C.mc,0,none⟩=some (pq C.l 0)/\V.heap[W.heap.size]?=ob (wq k) 41/\V.heap[W.heap.size+1]?=ob (wq v) 41) ⟨y.fc,p.fE.2,i,g⟩ fun a=>?_;refine t3 0 1 2 a ?_;refine tD 3 29 (pq C.mc 0) (fun V b=>?_) a ?_
    .have E:=bq (b.1) 0;rw[j] at E;clear b a;go_simp
    refine t2 4 5 a ?_;refine tV 6 (fun _ b=>b.2.1) a ?_;refine t3 7 8 9 a ?_;refine tV 10 (fun _ b=>bq (b.1) 6) a ?_;refine tV 11 (fun _ b=>q4 (b.2.2.1)) a ?_;refine tV 12 (fun _ b=>q4 (b.2.2.2)) a ?_;refine rA 13 fun K G=>?_;go_simp;refine(B3 d F.self t k v Q T l).mono ?_;rintro e w4 ⟨rfl,A,o,B,c,_⟩;go_wp2_with fail;refine G.out _ _ ⟨c.row a.1,o.fE.2,c.row a.2.2.1,c.row a.2.2.2⟩ fun a=>?_;refine dn ?_;show bodyPost zQ.prog Tryz.f302 _ Exit.normal _ _;simp[bodyPost,results,Tryz.results302,go_sem];exact⟨A,o,((Ex.back s 15000).trans B).mono dC,(Px.aF I _).trans ((r.mono dC).trans ((Px.aF bR.drew _).trans (c.mono dC)))⟩
  · rw[decide_eq_false J] at N
    clear J;have p:=x;obtain⟨y,d,l,i,g⟩:=key w2 s 0 x (.refl s) dC (Px.refl _ _);go_wp2_with fail;refine rq (fun V=>V.heap[f]?=ob (iE F sv mv) 225/\V.cell? ⟨C.mc,0,none⟩=some (pq C.l 0)/\V.heap[W.heap.size]?=ob (wq k) 41/\V.heap[W.heap.size+1]?=ob (wq v) 41) ⟨y.fc,p.fE.2,i,g⟩ fun a=>?_;refine t3 0 1 2 a ?_;refine tD 3 29 (pq C.mc 0) (fun V b=>?_) a ?_
    .have E:=bq (b.1) 0;rw[j] at E;clear b a;go_simp
    refine t2 4 5 a ?_;refine tV 6 (fun _ b=>b.2.1) a ?_;refine t3 7 8 9 a ?_;refine tV 10 (fun _ b=>bq (b.1) 6) a ?_;refine tV 11 (fun _ b=>q4 (b.2.2.1)) a ?_;refine tV 12 (fun _ b=>q4 (b.2.2.2)) a ?_;refine rA 13 fun K G=>?_;go_simp;refine(B3 d F.self t k v Q T l).mono ?_;rintro e w4 ⟨rfl,A,o,B,c,_⟩;go_wp2_with fail;refine G.out _ _ ⟨c.row a.1,o.fE.2,c.row a.2.2.1,c.row a.2.2.2⟩ fun a=>?_;refine dn ?_;show bodyPost zQ.prog Tryz.f302 _ Exit.normal _ _;simp[bodyPost,results,Tryz.results302,go_sem];exact⟨A,o,B.mono dC,((Px.aF I _).trans (Px.aF bR.drew _)).trans (c.mono dC)⟩
def Gn.Ho{a:K4}(p:Pd W C s f F sv mv S X g b n2){c:St}(k:n+1<=b)(h:dT W' f F sv' mv a X)(j:a.length<=1024)(d:Mi W' C c)(i:Ex n s c)(e:Px TT W W'):Gn W C s f F X g b W':=by refine⟨sv',mv,a,X,c,n,g,n2,?_,rfl,j,p.nb,d,i,oM,oM,e⟩;rw[<-p.bP,<-p.nx];exact h
def Mm(p:Pd W C s f F sv mv S X g b n2)(o:4<=b)(v:2<=S.length):Cq 263 #[pq f 0,vB 45] W fun e l=>Dn W C s f F X g b e l:=by go_enter (qz func263),ntmps263;go_wp2_with fail;refine rq (fun V=>True) trivial fun i=>?_;refine t6 0 1 2 3 5 6 i ?_;refine t1 7 i ?_;refine rA 4 fun K c=>?_;go_simp;apply(gA p.drew.fr oM).mono;rintro e w1 ⟨rfl,⟨t,j⟩,a⟩;go_wp2_with fail;refine c.out _ _ trivial fun i=>?_;refine rA 8 fun K c=>?_;go_simp;refine(gA j (by rw[aAt];omega)).mono ?_;rintro e w2 ⟨rfl,⟨r,k⟩,h⟩;go_wp2_with fail;refine c.out _ _ trivial fun i=>?_;have m:=(p.drew.mi.px a dC).px h dC;refine rA 9 fun K c=>?_;go_simp;refine(Hj k p.vl.2 m p.fm (tw S 1) (tw S.dropLast 1) (eO p.fr 1) (eO j 1) (by have:=p.cl;omega)).mono ?_;rintro e w3 ⟨rfl,u,n,q,d⟩;go_wp2_with fail;refine c.out _ _ trivial fun i=>?_;refine dn ?_;go_wp2;go_ret;exact .inl ⟨rfl,.Ho p o (k.px d dC) (by simp;have:=p.sl;omega) n q ((Px.aF bR.drew _).tr ((a.mono dC).tr ((h.mono dC).tr (d.mono dC))))⟩
end
end Go.Mark
