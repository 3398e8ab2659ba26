import Derived.Test.YtbephahokhnccaaGreatDoorJ21
set_option linter.all false
set_option maxRecDepth 100000
set_option maxHeartbeats 8000000
namespace Go.Mark
open Go.RowKit Go.Proofs Go.Proofs.Tryz
variable{dp li er:Addr}{C:Kc}{S:K4}{X:K3}{f g b n2 b2 fb b0 l:Nat}{mv sv y:SV}{s s0:St}{t:Fh}{v:vZ}{W W' w:WR}{F:fC}
section
variable [aB]
attribute [local go_sem] wd
def Rz(A:AM)(i:Int)(c:AM):Prop:=∃b v J a,Tc A i b v J a/\c=up A i (some (b,{v with nonce:=v.nonce+1}))
def fq(h:Mi W C s)(i:Int)(j:Ir i)(w:s.c<99999980):
  Cq 91 #[pq C.l 0,vI i] W fun e g=>e=rU/\∃a,Mi g C a/\Ex 2 s a/\Px LT W g/\a.N=s.N/\a.xs=s.xs/\a.back=s.back/\a.D=s.D/\Rz s.A i a.A:=by
 have f:0<=(gt s.A i).nonce/\(gt s.A i).nonce<=4611686018427387904+s.c:=by
  unfold gt;cases t:s.A i with
  |none=>exact⟨aBq 0,by show(0:Int)<=_;omega⟩
  |some l=>exact(h.av i l.1 l.2 t).nonce
 refine(Ap h.lf i f.1 oM (by have:=h.bj;omega)).mono ?_;rintro e g ⟨rfl,⟨b,v,n,c,r⟩,k⟩;have⟨a,o,m,h3,h4,_,q,u,p⟩:=h.up j c r k (fun d=>⟨⟨by have:=d.nonce.1;show 0<=v.nonce+1;omega,by have:=d.nonce.2;show v.nonce+1<=4611686018427387904+((s.c+2:Nat):Int);omega⟩,d.sup.mono oM,d.row,d.code,d.mark⟩) (UY c _);exact⟨rfl,a,o,m,k,q,u,p,h4,b,v,s.J,n,c,h3⟩
def Cd(h:Mi W C s)(k:s.c<99999980):
  Cq 135 #[pq C.l 0] W fun e d=>e=.rt (vI (1000000+s.cr))/\∃a,Mi d C a/\Ex 1 s a/\Px LT W d/\a.N=s.N/\a.xs=s.xs/\a.back=s.back/\a.D=s.D/\a.A=s.A:=by
 refine(Aq h.lf h.bc.1 (by have:=h.bc.2;omega)).mono ?_;rintro e d ⟨rfl,f,b⟩;refine⟨rfl,{s with cr:=s.cr+1,c:=s.c+1},?_,⟨(mI.refl _ _ _).mono oM,⟨by show s.c<=s.c+1;omega,aAz _⟩,aAz _,sI,rfl,by show s.cr<=s.cr+1;omega⟩,b,rfl,rfl,rfl,rfl,rfl⟩;exact h.qy f b (fun j i u g=>(h.av j i u g).px b dC oM) (h.sup.mono oM) (by have:=h.bj;omega) ⟨by have:=h.bc.1;omega,by have:=h.bc.2;show s.cr+1<=((s.c+1:Nat):Int);omega⟩ oM
def RM{W:WR}{C:Kc}{s:St}{g:Nat}{t:Lp}(hm:Mi W C s)(bb:aB.b1<=W.heap.size)(d:Int)(a0:Ir d)(x:Nat)(hx:x<M)(ht:t.size<2147483648)(hg:g<9000000)(hc:s.c+g+10<88000000)(H:Rp g):
   Cq 90 #[pq C.mc 0,.agg #[vI d,vL x 0,vL x 1,vL x 2,vL x 3,vI (g:Int),.string t]] W fun e w'=>∃t v,e=.rt (.iface t v)/\((∃s0,s0.D=s.D/\s0.N=s.N/\s0.xs=s.xs/\s0.back=s.back/\Rz s.A d s0.A/\Ce False W C s s0 g (.iface t v) w')\/∃er,(.iface t v:vZ)=.iface 217 (.agg #[vI (g:Int),.iface 407 (.pointer (some er))])/\(er=C.dp\/er=C.li)/\Shut (¬(s.depth<64/\x<=(gt s.A d).bal))/\Bw W w'):=by
 have o:Bw W (W.alloc (.ce #[vI d,vL x 0,vL x 1,vL x 2,vL x 3,vI (g:Int),.string t] 168)):=ba;have Q:=aM W (.ce #[vI d,vL x 0,vL x 1,vL x 2,vL x 3,vI (g:Int),.string t] 168);have m0:=hm.below o;have u:=Cb m0 d x hx;go_enter (qz func90),ntmps90;go_wp2_with fail;apply u.mono;rintro e w1 ⟨he,k⟩;change Below (W.alloc (.ce #[vI d,vL x 0,vL x 1,vL x 2,vL x 3,vI (g:Int),.string t] 168)).heap.size (W.alloc (.ce #[vI d,vL x 0,vL x 1,vL x 2,vL x 3,vI (g:Int),.string t] 168)) w1 at k;clear u;have q:=bk k Q;have D:=o.tr (k.mono o.size);have m1:=hm.below D;have lB:=aG q;obtain⟨B,hB⟩:∃B,W.heap.size=B:=⟨_,rfl⟩;have O:=US hB;rw[hB] at q lB⊢;clear Q o k hB m0;rcases he with⟨rfl,b1,b6⟩| ⟨er,rfl,a6,aa⟩
 .have⟨lg,a5,_⟩:=m1.mc;go_wp2_with fail;refine rq (fun V=>V.heap[C.mc]?=ob (aZ C.l lg s.back s.depth) 165/\V.heap[B]?=ob #[vI d,vL x 0,vL x 1,vL x 2,vL x 3,vI (g:Int),.string t] 168) ⟨a5,q⟩ fun b=>?_;refine t3 0 1 2 b ?_;refine tV 3 (fun _ c=>bq (c.1) 0) b ?_;refine t1 4 b ?_;refine tV 5 (fun _ c=>bq (c.2) 0) b ?_;refine rA 6 fun K i=>?_;go_simp;apply(fq (m1.below bR.drew) d a0 oM).mono;rintro e w2 ⟨rfl,Z,m2,x2,p2,n2,k2,b2,d2,z2⟩;have X:Ir (1000000+Z.cr):=⟨by have:=m2.bc.1;omega,by have:=m2.bc.2;have:=x2.c.2;omega⟩;go_wp2_with fail;refine i.out _ _ ⟨p2.row b.1,p2.row b.2⟩ fun b=>?_;refine dn ?_;have al:=x2.c.2;go_wp2_with fail;refine rq (fun V=>V.heap[C.mc]?=ob (aZ C.l lg s.back s.depth) 165/\V.heap[B]?=ob #[vI d,vL x 0,vL x 1,vL x 2,vL x 3,vI (g:Int),.string t] 168) ⟨b.1,b.2⟩ fun a=>?_;refine t4 0 1 2 3 a ?_;refine tV 4 (fun _ c=>bq (c.1) 0) a ?_;refine t1 6 a ?_;refine tV 7 (fun _ c=>bq (c.2) 0) a ?_;refine t1 8 a ?_;refine tV 9 (fun _ c=>aq (bq (c.2) 1) (aq (bq (c.2) 2) (aq (bq (c.2) 3) (bq (c.2) 4)))) a ?_;refine t1 10 a ?_;refine tV 11 (fun _ c=>bq (c.2) 5) a ?_;refine rA 5 fun K i=>?_;go_simp;apply(Cd (m2.below bR.drew) oM).mono;rintro e w3 ⟨rfl,w,m3,x3,p3,n3,k3,b3,q3⟩;go_wp2_with fail;refine i.out _ _ ⟨p3.row a.1,p3.row a.2⟩ fun a=>?_;refine t1 12 a ?_;refine rA 13 fun K i=>?_;go_simp;apply(OW m3 (1000000+Z.cr) d x ⟨none,0,0⟩ (g:Int)).mono;rintro e w4 ⟨rfl,E,j⟩;go_wp2_with fail;refine i.out _ _ ⟨bk j a.1,bk j a.2⟩ fun a=>?_;refine t1 14 a ?_;refine dn ?_;have b5:=x3.c.2;have m4:=m3.below j;have ar:B≠C.mc:=fun e=>by have:=hm.fE.1;have:=O.out;omega
  have a3:B<w3.heap.size:=aG (w:=w3) (by have:=a.2;exact(j.block B (by have:=p3.size;have:=p2.size;show B<w3.heap.size;exact aAy lB (aAw (by exact p2.size) (by exact p3.size)))).symm.tr a.2);have S:W.heap.size<w3.heap.size:=by have:=O.out;omega
  have p4:Px LT W w4:=((((Px.aF D.drew _).tr p2).tr ((Px.aF bR.drew _).tr p3))).tr (Px.aF j _);have R:C.mc<w3.heap.size:=Nat.lt_trans hm.fE.1 S;have ac:Px TT w3 w4:=Px.aF j _;have a7:Shut (w.D=s.D/\w.N=s.N/\w.xs=s.xs/\w.back=s.back/\Rz s.A d w.A):=⟨q3.1.tr d2,n3.tr n2,k3.tr k2,b3.tr b2,by rw[q3.2];exact z2⟩;clear n2 k2 b2 d2 z2 n3 k3 b3 q3;generalize w3.heap.size=f at E a3 S R⊢;have b7:f≠C.mc:=oM
  have L:aB.b1<=f:=oM
  go_wp2_with fail;refine rq (fun V=>V.heap[C.mc]?=ob (aZ C.l lg s.back s.depth) 165/\V.heap[B]?=ob #[vI d,vL x 0,vL x 1,vL x 2,vL x 3,vI (g:Int),.string t] 168) ⟨a.1,a.2⟩ fun b=>?_;refine t3 0 1 2 b ?_;refine tV 3 (fun _ c=>bq (c.2) 6) b ?_;refine t1 4 b ?_;refine tV 5 (fun _ c=>bq (c.2) 6) b ?_;refine rA 6 fun K i=>?_;go_simp;apply(az t ht _).mono;rintro e A ⟨mk,rfl,P,a2,p⟩;have Y:=US P;clear P;go_wp2_with fail;refine i.out _ _ ⟨bk p b.1,bk p b.2⟩ fun b=>?_;refine t2 7 8 b ?_;have h:=(p.block _ (aG (w:=w4.drew) E)).tr E;have U:=aG h;have c4:=bq h 4;have f4:=aQ h 4;refine rA 9 fun K i=>?_;go_simp;refine i.out _ _ ⟨aD b.1 oM,aD b.2 oM⟩ fun b=>?_;refine t2 10 11 b ?_;have m:=aO (i:=4) (v:=.string t) h;have c5:=aJ m 5;have f5:=aQ m 5;simp only[iE,Cc,aAY,aAP,aBb,aAH (show(4:Nat)≠5 by decide)] at c5;refine rA 12 fun K i=>?_;go_simp;refine i.out _ _ ⟨aD b.1 oM,aD b.2 oM⟩ fun b=>?_;refine dn ?_;have l:((A.setCell ⟨f,4,none⟩ (.string t)).setCell ⟨f,5,none⟩ (.sl mk.a mk.n mk.c)).heap[f]?=ob (iE {Cc C.mc w (1000000+Z.cr) d x ⟨none,0,0⟩ (g:Int) with text:=t,mark:=mk} ⟨none,0,0⟩ ⟨none,0,0⟩) 225:=aO (i:=5) m;have J:aU [f] [] A ((A.setCell ⟨f,4,none⟩ (.string t)).setCell ⟨f,5,none⟩ (.sl mk.a mk.n mk.c)):=(aU.setCell A f 4 _).tr (aU.setCell _ f 5 _);have F:Px [225] A ((A.setCell ⟨f,4,none⟩ (.string t)).setCell ⟨f,5,none⟩ (.sl mk.a mk.n mk.c)):=fU (T:=[225]) h l J (fun t ht=>by cases ht) dC L;have G:Px [225] w4 ((A.setCell ⟨f,4,none⟩ (.string t)).setCell ⟨f,5,none⟩ (.sl mk.a mk.n mk.c)):=(Px.aF ((Below.refl w4.heap.size w4).drew.tr p) _).tr F;have m7:=m4.px G dC;have y:=a2.px F dC;clear c4 f4 c5 f5 m h U J F;generalize((A.setCell ⟨f,4,none⟩ (.string t)).setCell ⟨f,5,none⟩ (.slice mk.a mk.n mk.c))=V7 at l G m7 y b⊢;have a8:=l;go_wp2_with fail;refine rq (fun V=>V.heap[C.mc]?=ob (aZ C.l lg s.back s.depth) 165/\V.heap[B]?=ob #[vI d,vL x 0,vL x 1,vL x 2,vL x 3,vI (g:Int),.string t] 168/\V.heap[f]?=ob (iE {Cc C.mc w (1000000+Z.cr) d x ⟨none,0,0⟩ (g:Int) with text:=t,mark:=mk} ⟨none,0,0⟩ ⟨none,0,0⟩) 225) ⟨b.1,b.2,a8⟩ fun a=>?_;refine t3 0 1 2 a ?_;refine tV 3 (fun _ c=>bq (c.1) 0) a ?_;refine t1 4 a ?_;refine tV 5 (fun _ c=>bq (c.2.1) 0) a ?_;refine t3 6 7 8 a ?_;refine tV 9 (fun _ c=>bq (c.2.2) 6) a ?_;refine t1 10 a ?_;refine tV 11 (fun _ c=>aq (bq (c.2.1) 1) (aq (bq (c.2.1) 2) (aq (bq (c.2.1) 3) (bq (c.2.1) 4)))) a ?_;refine rA 12 fun K i=>?_;go_simp;apply(eu (m7.below bR.drew) d (1000000+Z.cr) a0 X x hx oM).mono;rintro e w8 ⟨rfl,s8,m8,x8,N, -, -, -⟩;go_wp2_with fail;refine i.out _ _ ⟨N.row a.1,N.row a.2.1,N.row a.2.2⟩ fun a=>?_;refine dn ?_;have a1:=N.row (w:=V7.drew) l;have pd:Px LT V7 w8:=(Px.aF bR.drew _).tr N;have a9:=dT.fresh a1 L (y.px pd dC) (.inl rfl);have T:Px TT w4 w8:=(G.mono dC).tr (pd.mono dC);have b4:s8.depth=s.depth:=x8.dp.tr (x3.dp.tr x2.dp);have ad:=x8.c.2;have a4:=Y.out;have tl:=Hw m8 x8 m4 T oM a9 ⟨rfl,rfl,rfl,⟨by show mk.n<_;omega,ht⟩,⟨aAz _,by show 0<_;decide⟩,hx,X⟩ ⟨rfl,rfl,rfl⟩ hg oM lR H;clear a b a4;go_wp2_with fail;apply tl.mono;rintro e w9 ⟨t1,v1,rfl,I⟩;clear tl;go_wp2_with fail;apply I.mono;rintro e b9 ⟨t2,v2,rfl,r⟩;clear I;go_wp2_with fail;apply r.mono;rintro e b8 ⟨t3,v3,rfl,s',n,m',x',p',hE⟩;clear r;go_wp2;go_ret;have z:=a7.out;refine⟨t3,v3,rfl,.inl ⟨w,z.1,z.2.1,z.2.2.1,z.2.2.2.1,z.2.2.2.2,s',(2+1)+n,m',(x2.tr x3).tr x',((p4.mono dC).tr T).tr p',?_⟩⟩;rcases hE with⟨g2,id,h1,h2,h3⟩| ⟨gg,fb,er,h1,h2,h3,h4,h5⟩
  · exact .inr (.inl ⟨g2,id,h1,h2,oM⟩)
  · exact .inr (.inr (.inl ⟨gg,fb,er,h1,h2,h3,oM,h5⟩))
 .have c5:=bq q 5;go_wp2;go_ret;exact⟨_,_,rfl,.inr ⟨er,rfl,a6,aa,D⟩⟩
def MS(mv:SV)(l:Nat)(y:SV):Prop:=(y.a=none/\y.n=0/\y.c=0)\/∃g a,mv.a=some ⟨g,0,none⟩/\y.a=some ⟨g,a,none⟩/\a+y.n<=l/\y.n<=y.c
def gf(h:dT W f F sv mv S X)(a n:Nat)(I:n<M)(K:X.length<1073741824)(E:Wi a n X.length):
   Cq 297 #[.sl mv.a mv.n mv.c,wd a,wd n] W fun e C=>(∃y:SV,e=.rt (.sl y.a y.n y.c)/\YR W y/\y.n=n/\MS mv X.length y)/\Bw W C:=by
 have B:=wP n I;have o:Bw W ((W.alloc (.ce (wq a) 41)).alloc (.ce (wq n) 41)):=(ba).tr ((ba).mono sI);by_cases b:n=0
 .rw[decide_eq_true b] at B;have u:=US b;clear b;go_enter (qz func297),ntmps297;go_wp2;go_ret;exact⟨⟨⟨none,0,0⟩,rfl,.inl ⟨rfl,rfl,rfl⟩,u.out.symm,.inl ⟨rfl,rfl,rfl⟩⟩,o⟩
 .rw[decide_eq_false b] at B;have k:a+n<=X.length:=E.resolve_left b;have z:0<n:=oM
  obtain⟨g,cap,v,rfl,J,D,l,G,w⟩:=h.row oM;have A:a<X.length:=oM
  have x:n<=cap - a:=oM
  have t:Shut (aI a 0=(a:Int)):=(eL a oM).1;have s:Shut (aI n 0=(n:Int)):=(eL n oM).1;have p:((W.alloc (.ce (wq a) 41)).alloc (.ce (wq n) 41)).heap[W.heap.size]?=ob (wq a) 41:=aT (aM W _);have q:((W.alloc (.ce (wq a) 41)).alloc (.ce (wq n) 41)).heap[W.heap.size+1]?=ob (wq n) 41:=by have:=aM (W.alloc (.ce (wq a) 41)) (.ce (wq n) 41);simpa using this
  have c:=US k;have m:=US l;clear b k;go_enter (qz func297),ntmps297;go_wp2_with fail;change Code.wp _ _ _ _ ((W.alloc (.ce (wq a) 41)).alloc (.ce (wq n) 41));generalize((W.alloc (.cells (wq a) 41)).alloc (.cells (wq n) 41))=L at o p q⊢;refine rq (fun V=>V.heap[W.heap.size]?=ob (wq a) 41/\V.heap[W.heap.size+1]?=ob (wq n) 41) ⟨p,q⟩ fun d=>?_;refine t2 0 1 d ?_;refine tD 2 12 (vU (a:Int)) (fun V j=>?_) d ?_
  .have r:=aJ (j.1) 0;simp only[aAY,aAP,t.out] at r;clear j d;go_simp
  refine tD 3 13 (.sl (some (ad g a)) (X.length - a) (cap - a)) (fun V j=>?_) d ?_
  .have r:=sP (W:=V) (g:=g) A l;clear j d;go_simp
  refine t1 4 d ?_;refine tD 5 15 (vU (n:Int)) (fun V j=>?_) d ?_
  .have r:=aJ (j.2) 0;simp only[aAY,aAP,s.out] at r;clear j d;go_simp
  refine tD 6 16 (.sl (some (ad g a)) n (cap - a)) (fun V j=>?_) d ?_
  .have r:=JO (W:=V) (g:=g) (o:=a) (n:=X.length - a) z x;clear j d;go_simp
  refine t1 7 d ?_;refine dn ?_;go_wp2;go_ret;exact⟨⟨⟨some ⟨g,a,none⟩,n,cap - a⟩,rfl,.inr ⟨g,a,v,rfl,D,fun i H=>w (a+i) (by have:=c.out;simp only at H;omega)⟩,rfl,.inr ⟨g,a,rfl,rfl,c.out,by show n<=cap - a;have:=c.out;have:=m.out;omega⟩⟩,o.drew⟩
def fY(h:dT W f F sv mv S X)(G:2<=S.length)(w:X.length<1073741824)(B:Wi (tw S 1) (tw S 2) X.length):
    Cq 343 #[pq f 0] W fun e n=>(∃y:SV,e=.rt (.sl y.a y.n y.c)/\YR n y/\y.n=tw S 2/\MS mv X.length y)/\(∃u,dT n f F u mv S.dropLast.dropLast X)/\Px [225] W n:=by
 go_enter (qz func343),ntmps343;go_wp2_with fail;refine rq (fun V=>∃c:Ff,V.heap[f]?=ob c 225/\c[15]?=some (.sl mv.a mv.n mv.c)) ⟨_,h.fc,rfl⟩ fun b=>?_;refine t3 0 1 2 b ?_;refine tD 3 6 (.sl mv.a mv.n mv.c) (fun V x=>?_) b ?_
 .obtain⟨c,k1,v⟩:=x;have z:=aJ k1 15;rw[v] at z;clear k1 v b;go_simp
 refine t6 4 5 6 8 9 10 b ?_;refine rA 7 fun K i=>?_;go_simp;apply(gA (h.below bR.drew) oM).mono;rintro e w1 ⟨rfl,⟨C,p⟩,l⟩;go_wp2_with fail;refine i.out _ _ ⟨_,p.fc,rfl⟩ fun b=>?_;refine rA 11 fun K i=>?_;go_simp;refine(gA p (by rw[aAt];omega)).mono ?_;rintro e w2 ⟨rfl,⟨q,k⟩,s⟩;go_wp2_with fail;refine i.out _ _ ⟨_,k.fc,rfl⟩ fun b=>?_;have d:=gf k (tw S 1) (tw S.dropLast 1) (eO p 1) w (by rw[cN dC oM];exact B);refine rA 12 fun K i=>?_;go_simp;apply(d).mono;rintro e w3 ⟨⟨y,rfl,t,j,m⟩,a⟩;have r:=US j;clear j d;go_wp2_with fail;refine i.out _ _ ⟨_,(k.below a).fc,rfl⟩ fun b=>?_;refine t1 13 b ?_;refine dn ?_;have h3:=k.below a;go_wp2;go_ret;refine⟨⟨y,rfl,?_,?_,m⟩,⟨q,h3⟩,(Px.aF bR.drew _).tr (l.tr (s.tr (Px.aF a _)))⟩
 · rcases t with t| ⟨g,o,c,D,E,A⟩
   · exact .inl t
   · exact .inr ⟨g,o,c,D,bk a E,A⟩
 · rw[r.out,cN dC oM]
def Hx(g:Int)(t:Lp)(W:WR):Cq 366 #[.agg #[vI g,.string t]] W fun e a=>e=.rt (vI g)/\Bw W a:=by go_enter (qz func366),ntmps366;go_wp2;go_ret;exact⟨rfl,ba⟩
def Hy(g i:Int)(W:WR):Cq 367 #[.agg #[vI g,vI i]] W fun e a=>e=.rt (vI g)/\Bw W a:=by go_enter (qz func367),ntmps367;go_wp2;go_ret;exact⟨rfl,ba⟩
def Hz(h:Ge W dp li)(k:er=dp\/er=li)(g:Int):Cq 370 #[.agg #[vI g,.iface 407 (.pointer (some er))]] W fun e j=>e=.rt (vI g)/\Bw W j:=by
 have c:Bw W (W.nc #[vI g,.iface 407 (.pointer (some er))] 217):=ba;have a:=h.px (Px.aF c []);have m:=a.de;have d3:=a.le;have h3:3<(W.nc #[vI g,.iface 407 (.pointer (some er))] 217).heap.size:=by have:=a.lo.1;have:=a.low;omega
 have b:=sr er (W.nc #[vI g,.iface 407 (.pointer (some er))] 217);rcases k with rfl|rfl
 .clear d3;go_enter (qz func370),ntmps370;go_wp2_with fail;apply b.mono;rintro e w1 ⟨rfl,rfl⟩;clear b;go_wp2;go_ret;exact⟨rfl,c⟩
 .have⟨n,td,d⟩:=a.od;have⟨o,l,f⟩:=a.ol;have i:=fy h.ne f d;clear d f;go_enter (qz func370),ntmps370;go_wp2_with fail;apply i.mono;rintro e w1 ⟨rfl,rfl⟩;clear i;go_wp2_with fail;apply b.mono;rintro e w1 ⟨rfl,rfl⟩;clear b;go_wp2;go_ret;exact⟨rfl,c⟩
def H0(h:Ge W dp li)(j:W.cA fb 2=some (.iface 407 (.pointer (some er))))(d:fb<W.heap.size)(a:Eo W dp li er)(g:Int):Cq 370 #[.agg #[vI g,.iface 299 (pq fb 0)]] W fun e f=>e=.rt (vI ((0:Nat):Int))/\Bw W f:=by have⟨o,n,i⟩:=a.2.2.2;have⟨l,td,c⟩:=h.od;have⟨k,m,b⟩:=h.ol;exact BO j d h.de h.le (by have:=h.lo.1;have:=h.low;omega) i c b a.2.1 a.2.2.1
def Qd(v:vZ)(w:WR):(Go.method 543 174 v "Left").run zQ.prog w=.ok (366,v) w:=kR
def Qe(v:vZ)(w:WR):(Go.method 543 177 v "Left").run zQ.prog w=.ok (367,v) w:=kR
def Pn(v:vZ)(w:WR):(Go.method 543 217 v "Left").run zQ.prog w=.ok (370,v) w:=kR
def DJ(v:vZ)(w:WR):(Instr.typeAssert (.iface 177 v) 116 174 true).run zQ.prog w=.ok (.tuple #[.agg #[.int .i64 0,.string ⟨#[]⟩],.bool false]) w:=kR
structure Lv (W:WR)(t:Fh)(v:vZ)(gl:Nat):Prop where
 ex:∃fn,(∀w,(Go.method 543 t v "Left").run zQ.prog w=.ok (fn,v) w)/\(∀args w,(callFunc fn args).run zQ.prog w=.ok (.enter fn args) w)/\∀w,Px [225] W w->Calls zQ.prog fn #[v] w fun e w'=>e=.returned (.int .i64 (gl:Int))/\Below w.heap.size w w'
 ty:(t=174/\∃tx,v=.agg #[.int .i64 (gl:Int),.string tx])\/∃z,∀w,(Instr.typeAssert (.iface t v) 116 174 true).run zQ.prog w=.ok (.tuple #[z,.bool false]) w
def Lv.JQ(a:Nat)(tx:Lp):Lv W 174 (.agg #[vI (a:Int),.string tx]) a:=⟨⟨366,Qd _,Yj,fun w _=>Hx _ _ w⟩,.inl ⟨rfl,tx,rfl⟩⟩
def Lv.made(a:Nat)(i:Int):Lv W 177 (.agg #[vI (a:Int),vI i]) a:=⟨⟨367,Qe _,Zz,fun w _=>Hy _ _ w⟩,.inr ⟨_,DJ _⟩⟩
def Lv.ref(h:Ge W dp li)(c:er=dp\/er=li)(a:Nat):Lv W 217 (.agg #[vI (a:Int),.iface 407 (.pointer (some er))]) a:=⟨⟨370,Pn _,Yk,fun _ b=>Hz (h.px b) c _⟩,.inr ⟨_,uN _⟩⟩
def Lv.bad{b:Ff}(h:Ge W dp li)(c:W.heap[fb]?=ob b 303)(f:b[2]?=some (.iface 407 (.pointer (some er))))(e:Eo W dp li er)(d:Int):Lv W 217 (.agg #[vI d,.iface 299 (pq fb 0)]) 0:=
 ⟨⟨370,Pn _,Yk,fun _ a=>H0 (h.px a) ((aJ (a.row c dC) 2).tr f) (aG (a.row c dC)) (e.px a h.low) _⟩,.inr ⟨_,uN _⟩⟩
def H2(t:Lp)(w:WR):(Builtin.copy_ #[31,9] 3 #[.slice none 0 0,.string t]).run zQ.prog w=.ok (.int .i64 0) w:=by have a:∀w,(Go.sizeOf 5).run zQ.prog w=.ok 1 w:=fun w=>(aN 5 w).tr (sizeOf5 w);unfold Builtin.copy_;simp[run_underlying Bh,Builtin.lenOf,Builtin.firstCells,a,goInt]
def KH{j ga:Nat}(h:dT W f F sv mv S X)(hS:2<=S.length)(a7:S.length<=1024)(hX:X.length<1073741824)(hw:Wi (tw S 1) (tw S 2) X.length)(hg:F.bP=(ga:Int))(a6:ga+j<1000000000)(lv:Lv W t v j):
    Cq 342 #[pq f 0,.iface t v] W fun e w'=>e=rU/\∃T S' O,dT w' f {F with bP:=((ga+j:Nat):Int)} T mv S' O/\S'.length+1=S.length/\O.length=X.length/\Px [225,5,41] W w':=by
 have M:=fY h hS hX hw;obtain⟨⟨fn,Q,a3,s⟩,R⟩:=lv;have U:=US hg;obtain⟨l,G⟩:∃l,l=ga+j:=⟨_,rfl⟩;rw[<-G];have a1:IntKind.i64.wrap ((ga:Int)+(j:Int))=(l:Int):=by rw[IntWalk.i64_in _ ⟨oM,oM⟩];exact oM
 clear hg G;go_enter (qz func342),ntmps342;go_wp2_with fail;refine M.mono ?_;rintro e w1 ⟨⟨y,rfl,hy,a4,a2⟩,⟨H,f1⟩,I⟩;clear M a4;go_wp2_with fail;refine sk (S:=fun V=>V.heap[f]?=ob (iE F H mv) 225) 9 kR f1.fc fun b=>?_;refine tF 0 b ?_;refine tF 1 b ?_;refine tF 2 b ?_;refine tE 3 12 (vI (ga:Int)) (fun V hW=>?_) b ?_
 .have k0:=bq hW 13;rw[U.out] at k0;clear hW b;go_simp
 refine tF 4 b ?_;refine rB 5 fun K d=>?_;go_simp;refine(s _ (I.tr (Px.aF bR.drew _))).mono ?_;rintro e w2 ⟨rfl,p⟩;go_wp2_with fail;refine d.out _ _ (bk p b) fun b=>?_;refine tF 6 b ?_;refine rB 7 fun K d=>?_;go_simp;refine d.out _ _ b fun b=>?_;refine tF 8 b ?_;have B:=f1.below (bR.drew.tr p);have mr:=bq B.fc 13;have a5:=aQ B.fc 13;refine rC fun K d=>?_;go_simp;refine d.out _ _ ?_;refine dk kR ?_ _;have o:(w2.setCell ⟨f,13,none⟩ (vI (l:Int))).heap[f]?=ob (iE {F with bP:=(l:Int)} H mv) 225:=aO (i:=13) B.fc;have n:Px [225] w2 (w2.setCell ⟨f,13,none⟩ (vI (l:Int))):=fU (T:=[225]) B.fc o (aU.setCell w2 f 13 _) (fun t M=>by cases M) dC h.lo;have f3:=B.cells (F':={F with bP:=(l:Int)}) o n rfl rfl;have k:Px [225] W (w2.setCell ⟨f,13,none⟩ (vI (l:Int))):=(I.tr (Px.aF (bR.drew.tr p) _)).tr n;clear mr a5 Q a3 s o;generalize(w2.setCell ⟨f,13,none⟩ (.int .i64 (l:Int)))=q at n f3 k⊢;rcases R with⟨rfl,tx,rfl⟩| ⟨z,Y⟩
 · have Y:=DH
   have m:Bw q (q.alloc (.ce #[vI (j:Int),.string tx] 174)):=ba;have N:=f3.below m;rcases a2 with⟨C,E,P⟩| ⟨gm,a,C,E,P,e4⟩
   · obtain⟨ya,yn,yc⟩:=y
     simp only at C E P;subst C E P;have r:=H2 tx;go_wp2_with fail;change Code.wp _ _ _ _ (q.alloc (.ce #[vI (j:Int),.string tx] 174));generalize(q.alloc (.cells #[.int .i64 (j:Int),.string tx] 174))=V4 at m N⊢;refine rq (fun V=>True) trivial fun b=>?_;refine t3 0 1 2 b ?_;refine rA 3 fun K d=>?_;go_simp;refine(dx 1 _).mono ?_;rintro e w6 ⟨⟨x,A,rfl⟩,c⟩;go_wp2_with fail;refine d.out _ _ trivial fun b=>?_;refine rA 4 fun K d=>?_;go_simp;refine(yZ (N.below (bR.drew.tr c)) x A (by rw[aAt,aAt];exact oM)).mono ?_;rintro e w7 ⟨rfl,⟨i,u⟩,g⟩;go_wp2_with fail;refine d.out _ _ trivial fun b=>?_;refine dn ?_;go_wp2;refine bodyPost_end (results_none rfl _ _ _) rfl ?_;exact⟨rfl,i,_,X,u,by rw[aBs,aAt,aAt];simp;exact oM,rfl,((k.tr (Px.aF m _)).mono dC).tr ((Px.aF (bR.drew.tr c) _).tr (g.mono dC))⟩
   · obtain⟨ya,yn,yc⟩:=y
     simp only at E P e4;subst E;obtain⟨ma,mn,mq⟩:=mv;simp only at C;subst C;rcases N.me.2 with⟨q1,_⟩| ⟨g',cap,w,q1,q2,q3,q4,q5,q6,q7⟩
     .cases q1
     cases q1;simp only[aCo] at q4 q6;obtain⟨vv,Z,r,a8,a0⟩:=RG (c:=yc) (ty:=3) tx Bh q3 (o:=a) (n:=yn) oM;obtain⟨⟨O,f5,D⟩,J⟩:=N.laid q3 q2 a Z a0 oM;have L:=US D;clear D q7;go_wp2_with fail;change Code.wp _ _ _ _ ((q.alloc (.ce #[vI (j:Int),.string tx] 174)).setRow gm (laid w a Z));generalize((q.alloc (.cells #[.int .i64 (j:Int),.string tx] 174)).setRow gm (laid w a Z))=V5 at f5 J⊢;clear r;refine rq (fun V=>True) trivial fun b=>?_;refine t3 0 1 2 b ?_;refine rA 3 fun K d=>?_;go_simp;refine(dx 1 _).mono ?_;rintro e w6 ⟨⟨x,A,rfl⟩,c⟩;go_wp2_with fail;refine d.out _ _ trivial fun b=>?_;refine rA 4 fun K d=>?_;go_simp;refine(yZ (f5.below (bR.drew.tr c)) x A (by rw[aAt,aAt];exact oM)).mono ?_;rintro e w7 ⟨rfl,⟨i,u⟩,g⟩;go_wp2_with fail;refine d.out _ _ trivial fun b=>?_;refine dn ?_;go_wp2;refine bodyPost_end (results_none rfl _ _ _) rfl ?_;exact⟨rfl,i,_,O,u,by rw[aBs,aAt,aAt];simp;exact oM,L.out,(((k.tr (Px.aF m _)).mono dC).tr (J.mono dC)).tr ((Px.aF (bR.drew.tr c) _).tr (g.mono dC))⟩
 · go_wp2_with fail;refine rq (fun V=>True) trivial fun b=>?_;refine t3 0 1 2 b ?_;refine rA 3 fun K d=>?_;go_simp;refine(dx 0 _).mono ?_;rintro e w6 ⟨⟨x,A,rfl⟩,c⟩;go_wp2_with fail;refine d.out _ _ trivial fun b=>?_;refine rA 4 fun K d=>?_;go_simp;refine(yZ (f3.below (bR.drew.tr c)) x A (by rw[aAt,aAt];exact oM)).mono ?_;rintro e w7 ⟨rfl,⟨i,u⟩,g⟩;go_wp2_with fail;refine d.out _ _ trivial fun b=>?_;refine dn ?_;go_wp2;refine bodyPost_end (results_none rfl _ _ _) rfl ?_;exact⟨rfl,i,_,X,u,by rw[aBs,aAt,aAt];simp;exact oM,rfl,(k.mono dC).tr ((Px.aF (bR.drew.tr c) _).tr (g.mono dC))⟩
end
section
variable [aB]
def Ce.left{Z:Prop}(h:Ce Z W C s s0 g (.iface t v) W'):∃a n f,Mi W' C a/\Ex n s a/\Px TT W W'/\Lv W' t v f/\f<=g/\n+f<=g+20:=by
 obtain⟨a,n,d,j,e,k⟩:=h;rcases k with⟨i,l,c,b,h3,h4⟩| ⟨i,id,c,b,h3⟩| ⟨p,fb,er,c,⟨m,b,h3⟩,h4,o,_⟩| ⟨er,c,b,_,rfl⟩
 .cases c;exact⟨a,n,i,d,j,e,.JQ _ _,b,oM⟩
 .cases c;exact⟨a,n,i,d,j,e,.made _ _,b,oM⟩
 .cases c;exact⟨a,n,0,d,j,e,.bad d.ge b h3 h4 _,oM,oM⟩
 .cases c;exact⟨a,0,g,d,.refl _,e,.ref d.ge b _,aAz _,oM⟩
end
section
def Ce.px{Z:Prop}{a:b0<=b2}(h: @Ce ⟨b0,b2,a⟩ Z W C s s0 g v W'): @Px ⟨b0,b2,a⟩ TT W W':=let⟨_,_,_,_,p,_⟩:=h;p
def Ce.base{Z:Prop}{a:Nat}{h1:b0<=a}{d:b0<=b2}(f:a<=b2)(h: @Ce ⟨b0,b2,d⟩ Z W C s s0 g v W'): @Ce ⟨b0,a,h1⟩ Z W C s s0 g v W':=by obtain⟨c,n,j,i,e,b⟩:=h;exact⟨c,n,Mi.base j,i,Px.base f e,b⟩
variable [aB]
attribute [local go_sem] wd
def YR.gh(h:YR W y){a:aB.b0<=b2}(d:W.heap.size<=b2): @JI ⟨aB.b0,b2,a⟩ W y:=by
 rcases h with⟨_,h,_⟩| ⟨g,o,c,b,a,h3⟩
 .exact .inl h
 .exact .inr ⟨g,o,c,_,b,aAy (aG a) d,a,h3⟩
def MS.cap(h:MS mv l y):y.n<=y.c:=by
 rcases h with⟨_,a,b⟩| ⟨_,_,_,_,_,h⟩
 .omega
 .exact h
def sw(p:Pd W C s f F sv mv S X g b n2)(hS:6<=S.length)(T:Wi (tw S 3) (tw S 4) X.length/\Wi (tw S 5) (tw S 6) X.length)(ha:tw S 1+40<=b)(hG:g+b<9000000)(hC:s.c+g+b<88000000)(H:∀g',g'<g+b->Rp g'):
   Cq 333 #[pq f 0] W fun e w'=>e=rU/\Gn W C s f F X g b w':=by
 have t2:tw S.dropLast.dropLast 1=tw S 3:=by rw[cN dC (by rw[aAt];exact oM),cN dC oM]
 have t3:tw S.dropLast.dropLast 2=tw S 4:=by rw[cN dC (by rw[aAt];exact oM),cN dC oM]
 have t4:tw S.dropLast.dropLast.dropLast.dropLast 1=tw S 5:=by rw[cN dC (by simp;exact oM),cN dC (by simp;exact oM),cN dC (by simp;exact oM),cN dC oM]
 have t5:tw S.dropLast.dropLast.dropLast.dropLast 2=tw S 6:=by rw[cN dC (by simp;exact oM),cN dC (by simp;exact oM),cN dC (by simp;exact oM),cN dC oM]
 have r:Wi (tw S.dropLast.dropLast 1) (tw S.dropLast.dropLast 2) X.length:=by rw[t2,t3];exact T.1
 have L:Wi (tw S.dropLast.dropLast.dropLast.dropLast 1) (tw S.dropLast.dropLast.dropLast.dropLast 2) X.length:=by rw[t4,t5];exact T.2
 have N:∀{n:Nat},n=tw S.dropLast.dropLast 2->n<2147483648:=fun h=>by have:=p.xl;rcases r with q|q<;>exact oM
 obtain⟨a,k⟩:∃a,a=tw S 1:=⟨_,rfl⟩;have J:Shut (aI (tw S 1) 0=(a:Int)):=by rw[<-k];exact(eL a oM).1
 rw[<-k] at ha;have a1:iw (a:Int)=(a:Int):=iW;have i:∀{a4 a2:SV} {G:fC},True:=trivial;clear k t2 t3 t4 t5 T i;have i:(iE F sv mv)[0]?=some (pq C.mc 0):=by rw[<-p.fm];rfl
 go_enter (qz func333),ntmps333;go_wp2_with fail;refine rq (fun V=>True) trivial fun d=>?_;refine t6 0 1 2 6 7 8 d ?_;refine rA 3 fun K j=>?_;go_simp;apply(gA (p.fr.below bR.drew) oM).mono;rintro e w1 ⟨rfl,⟨a6,f1⟩,Y⟩;go_wp2_with fail;refine j.out _ _ trivial fun d=>?_;refine tD 4 8 (vU (a:Int)) (fun V hW=>?_) d ?_
 .have k0:(Instr.index 41 (.agg (wq (tw S 1))) (.int .i64 0)).run zQ.prog V=.ok (.int .u64 (a:Int)) V:=by rw[<-J.out];exact CU _ _ _ _ V
  clear hW d;go_simp
 refine t1 5 d ?_;refine rA 9 fun K j=>?_;go_simp;refine(gA f1 (by rw[aAt];exact oM)).mono ?_;rintro e w2 ⟨rfl,⟨a3,f2⟩,R⟩;go_wp2_with fail;refine j.out _ _ trivial fun d=>?_;refine rA 10 fun K j=>?_;go_simp;apply(E7 (tw S.dropLast 1) _).mono;rintro e w3 ⟨le,_,_,rfl,x⟩;go_wp2_with fail;refine j.out _ _ trivial fun d=>?_;refine t2 11 12 d ?_;refine dn ?_;have f3:=f2.below x;have o:Px [225] W w3:=(((Px.aF bR.drew _).tr Y).tr R).tr (Px.aF x _);have m3:=p.mi.px o dC;have P:2<=S.dropLast.dropLast.length:=by simp;exact oM
 go_wp2_with fail;refine rq (fun V=>∃c:Ff,V.heap[f]?=ob c 225/\c[0]?=some (pq C.mc 0)) ⟨_,f3.fc,i⟩ fun d=>?_;refine t4 0 1 2 3 d ?_;refine tD 4 19 (pq C.mc 0) (fun V hW=>?_) d ?_
 .obtain⟨c,k1,k2⟩:=hW;have k0:=aJ k1 0;rw[k2] at k0;clear k1 k2 d;go_simp
 refine t4 5 6 7 8 d ?_;refine rA 9 fun K j=>?_;go_simp;apply(fY (f3.below bR.drew) P p.xl r).mono;rintro e w4 ⟨⟨y,rfl,hy,D,Z⟩,⟨Q,I⟩,u⟩;have m:=US D;clear D;go_wp2_with fail;refine j.out _ _ ⟨_,I.fc,i⟩ fun d=>?_;have m4:=m3.px ((Px.aF bR.drew _).tr u) dC;have l:aB.b0<=w4.heap.size:=m4.ge.low;have w:= @Hu ⟨aB.b0,w4.heap.size,l⟩ w4 Q mv C s a f F y (Mi.base m4) lR I.fc p.vl (hy.gh lR) ⟨Z.cap,N m.out⟩ le oM oM (H a oM);refine rA 10 fun K j=>?_;go_simp;apply w.mono;rintro e w5 ⟨t,v,rfl,E⟩;clear w;have f5:=I.wait E.px lR dC;go_wp2_with fail;refine j.out _ _ ⟨_,f5.fc,i⟩ fun d=>?_;have⟨s5,n,gl,m5,x5,p5,lv,a5,hn⟩:=Ce.left (Ce.base I.st.low E);refine rA 11 fun K j=>?_;go_simp;refine(KH (ga:=g) f5 (by rw[aAt,aAt,aAt,aAt];exact oM) (by rw[aAt,aAt,aAt,aAt];have:=p.sl;exact oM) p.xl L p.bP oM lv).mono ?_;rintro e w6 ⟨rfl,M,S6,X6,f6,B,A,z⟩;have U:=US B;have a0:=US A;clear B A;go_wp2_with fail;refine j.out _ _ ⟨_,f6.fc,i⟩ fun d=>?_;refine dn ?_;go_wp2;refine bodyPost_end (results_none rfl _ _ _) rfl ?_;have q1:=U.out;have q2:=a0.out;simp only[aAt] at q1;have O:Px TT W w6:=((((o.mono dC).tr (Px.aF bR.drew _)).tr (u.mono dC)).tr p5).tr (z.mono dC);refine⟨rfl,M,mv,S6,X6,s5,n,g+gl,n2,?_,q2,by have:=p.sl;exact oM,p.nb,m5.px z dC,x5,oM,oM,O⟩;rw[<-p.nx];exact f6
end
section
variable [aB]
attribute [local go_sem] wd
def Tn(W:WR)(f:Nat)(F:fC)(sv mv:SV)(S:K4)(X:K3)(w:WR):Prop:=(∃a,dT w f F a mv S X/\a.a=sv.a)/\Px [225] W w
def Tn.below{e:WR}(h:Tn W f F sv mv S X w)(g:Bw w e):Tn W f F sv mv S X e:=let⟨⟨d,a,c⟩,b⟩:=h;⟨⟨d,a.below g,c⟩,b.tr (Px.aF g _)⟩
def Tn.new{o:Obj}(h:Tn W f F sv mv S X w):W.heap.size<=w.heap.size/\Tn W f F sv mv S X (w.alloc o):=⟨h.2.size,h.below ba⟩
def Rc(a g:Nat)(h:g=a+2300)(b:a<4611686018427387904):IntKind.i64.wrap ((a:Int)+2300)=(g:Int):=iO
def call332(p:Pd W C s f F sv mv S X g b n2)(hS:7<=S.length)(hw:Wi (tw S 4) (tw S 5) X.length/\Wi (tw S 6) (tw S 7) X.length)(O:tw S 1+40+(if tw S 3=0 then 0 else 9000)<=b)(hG:g+b<9000000)(hC:s.c+g+b<88000000)(H:∀g',g'<g+b->Rp g'):
   Cq 332 #[pq f 0] W fun e w'=>e=rU/\Gn W C s f F X g b w':=by
 obtain⟨a,U⟩:∃a,a=tw S 1:=⟨_,rfl⟩;rw[<-U] at O;have b3:Shut (aI (tw S 1) 0=(a:Int)):=by rw[<-U];exact(eL a (by split at O<;>omega)).1
 have a1:iw (a:Int)=(a:Int):=IntWalk.i64_in _ ⟨oM,by split at O<;>omega⟩;have h0:Tn W f F sv mv S X W.drew:=⟨⟨sv,p.fr.below bR.drew,rfl⟩,Px.aF bR.drew _⟩;clear U;go_enter (qz func332),ntmps332;go_wp2_with fail;refine rq (fun _=>True) trivial fun j=>?_;refine t6 0 1 2 6 7 8 j ?_;refine t3 11 12 13 j ?_;refine Nc.start (f:=9) (n0:=W.heap.size) (Z:=.ce wz 41) (I:=Tn W f F sv mv S X) (iA:=15) (dA:=4) (L:=fun x=>#[true,true,true,false,false,false,true,true,true,false,false,true,true,true,false,x,false,false,false]) (fun _ _ _ h=>by refine wpOp_step rfl (fun K' d=>?_);go_simp;exact d _ _ h) rfl ud rfl h0 fun R=>?_;refine Nc.step (I':=Tn W f F sv mv S.dropLast X) (c:=3) (d:=8) (φ:=fun v=>v=wd (tw S 1)) (n:=2) (l:=fun v=>[(9,vU (a:Int)),(10,vI (a:Int))]) (f':=6) (L':=fun x=>#[true,true,true,true,true,true,true,true,true,false,false,true,true,true,false,x,false,false,false]) R rfl rfl sQ8 sQ3 rfl (fun w h=>h.new) (fun X W1 K j d=>?_) (fun v A bx X W1 d=>?_) fun v A=>?_
 .simp only[Act.put,aAA,aAD,aAE] at d⊢;clear R;go_simp;apply(zG j.1.choose_spec.1 oM).mono;rintro e Wq ⟨rfl,f1,G⟩;go_wp2_with fail;exact d.out _ _ rfl ⟨⟨_,f1,j.1.choose_spec.2⟩,j.2.tr G⟩ fun q T=>G.row T dC
 .obtain rfl:=A;simp only[gB,Act.put,aAA,aAD,aAE] at d⊢;clear R;refine tD 4 9 (vU (a:Int)) (fun V P=>?_) trivial ?_ (hr:=(by clear d;cases bx<;>kernel_rfl)) (hf:=(by clear d;cases bx<;>kernel_rfl))
  · clear P d
    have k0:(Instr.index 41 (.agg (wq (tw S 1))) (.int .i64 0)).run zQ.prog V=.ok (.int .u64 (a:Int)) V:=by rw[<-b3.out];exact CU _ _ _ _ V
    go_simp
  refine tD 5 10 (vI (a:Int)) (fun V P=>?_) trivial ?_ (hr:=(by clear d;cases bx<;>kernel_rfl)) (hf:=(by clear d;cases bx<;>kernel_rfl))
  · clear P d
    go_simp
  exact d.out
 obtain rfl:=A;refine Nc.step (I':=Tn W f F sv mv S.dropLast.dropLast X) (c:=9) (d:=14) (φ:=fun v=>v=wd (tw S.dropLast 1)) (n:=0) (l:=fun v=>[]) (f':=5) (L':=fun x=>#[true,true,true,true,true,true,true,true,true,true,false,true,true,true,false,x,false,false,false]) R rfl rfl sQ8 sQ3 rfl (fun w h=>h.new) (fun X W1 K j d=>?_) (fun _ _ _ _ _ h=>h) fun v A=>?_
 .simp only[gB,Act.put,aAA,aAD,aAE] at d⊢;clear R;go_simp;refine(zG j.1.choose_spec.1 sQ0).mono ?_;rintro e Wq ⟨rfl,f1,G⟩;go_wp2_with fail;exact d.out _ _ rfl ⟨⟨_,f1,j.1.choose_spec.2⟩,j.2.tr G⟩ fun q T=>G.row T dC
 obtain rfl:=A;refine Nc.step (I':=Tn W f F sv mv S.dropLast.dropLast X) (c:=10) (d:=15) (φ:=fun v=>∃i:Int,v=vI i/\Ir i) (n:=0) (l:=fun v=>[]) (f':=4) (L':=fun x=>#[true,true,true,true,true,true,true,true,true,true,true,true,true,true,false,x,false,false,false]) R rfl rfl sQ8 sQ3 rfl (fun w h=>h.new) (fun X W1 K j d=>?_) (fun _ _ _ _ _ h=>h) fun v A=>?_
 .simp only[gB,Act.put,aAA,aAD,aAE] at d⊢;clear R;go_simp;apply(E7 (tw S.dropLast 1) _).mono;rintro e Wq ⟨i,bf,bl,rfl,hb⟩;go_wp2_with fail;exact d.out _ _ ⟨i,rfl,bf,oM⟩ (j.below hb) fun q T=>bk hb T
 obtain⟨bb,rfl,a9⟩:=A;have a5:=US a9;clear a9;refine Nc.step (I':=Tn W f F sv mv S.dropLast.dropLast.dropLast X) (c:=14) (d:=19) (φ:=fun v=>v=wd (tw S.dropLast.dropLast 1)) (n:=0) (l:=fun v=>[]) (f':=3) (L':=fun x=>#[true,true,true,true,true,true,true,true,true,true,true,true,true,true,true,x,false,false,false]) R rfl rfl sQ8 sQ3 rfl (fun w h=>h.new) (fun X W1 K j d=>?_) (fun _ _ _ _ _ h=>h) fun v A=>?_
 .simp only[gB,Act.put,aAA,aAD,aAE] at d⊢;clear R;go_simp;refine(zG j.1.choose_spec.1 sQ0).mono ?_;rintro e Wq ⟨rfl,f1,G⟩;go_wp2_with fail;exact d.out _ _ rfl ⟨⟨_,f1,j.1.choose_spec.2⟩,j.2.tr G⟩ fun q T=>G.row T dC
 obtain rfl:=A;refine Nc.last (f:=3) R kR sQ3 rfl (fun w h=>h.new) fun p1 W3 j bg hz=>?_;simp only[gB,ptr,Act.put,aAA,aAD,aAE];clear R;obtain⟨⟨bm,f3,bc⟩,b8⟩:=j;have t3:tw S.dropLast.dropLast 1=tw S 3:=by rw[cN dC (by rw[aAt];omega),cN dC oM]
 have a3:tw S.dropLast.dropLast 1<M:=by rw[t3];exact eO p.fr 3
 rw[<-t3] at O;have u1:tw S.dropLast.dropLast.dropLast 1=tw S 4:=by rw[cN dC sQ0,cN dC sQ0,cN dC oM]
 have u2:tw S.dropLast.dropLast.dropLast 2=tw S 5:=by rw[cN dC sQ0,cN dC sQ0,cN dC oM]
 have u3:tw S.dropLast.dropLast.dropLast.dropLast.dropLast 1=tw S 6:=by rw[cN dC sQ0,cN dC sQ0,cN dC sQ0,cN dC sQ0,cN dC oM]
 have u4:tw S.dropLast.dropLast.dropLast.dropLast.dropLast 2=tw S 7:=by rw[cN dC sQ0,cN dC sQ0,cN dC sQ0,cN dC sQ0,cN dC oM]
 have I:Wi (tw S.dropLast.dropLast.dropLast 1) (tw S.dropLast.dropLast.dropLast 2) X.length:=by rw[u1,u2];exact hw.1
 have b4:Wi (tw S.dropLast.dropLast.dropLast.dropLast.dropLast 1) (tw S.dropLast.dropLast.dropLast.dropLast.dropLast 2) X.length:=by rw[u3,u4];exact hw.2
 have b7:∀{n:Nat},n=tw S.dropLast.dropLast.dropLast 2->n<2147483648:=fun h=>by have:=p.xl;rcases I with q|q<;>omega
 have a8:2<=S.dropLast.dropLast.dropLast.length:=by simp;omega
 clear t3 u1 u2 u3 u4 hw;generalize tw S.dropLast.dropLast 1=x at a3 O⊢;have hx:=a3;refine t2 16 17 trivial ?_;refine rA 18 fun K d=>?_;rw[if_pos rI];refine OL bG (bH x) hz rfl fun E l a4=>d.out _ _ trivial (fun _=>?_);refine dn ?_;have a6:Below W.heap.size W3 E:=a4.low.mono bg;have f4:=p.fr.over f3 bc a6 a4.low.size;have ad:Px [225] W E:=pH b8 a6;have m4:=p.mi.px ad dC;have m:(iE F sv mv)[0]?=some (pq C.mc 0):=by rw[<-p.fm];rfl
 have z:=wP x hx;obtain⟨J,N,Q,L⟩:=q4 l;have D:=aG l;by_cases k:x=0
 all_goals
  first|(rw[decide_eq_true k] at z;rw[if_pos k] at O;obtain⟨gc,o⟩:∃gc,gc=a:=⟨_,rfl⟩;have bi:gc+40<=b:=oM;clear k;go_wp2_with fail;rw[<-o];clear J N Q L z o)|(rw[decide_eq_false k] at z;rw[if_neg k] at O;obtain⟨gc,o⟩:∃gc,gc=a+2300:=⟨_,rfl⟩;have a2:=Rc a gc o oM;have bi:gc+40<=b:=oM;clear k o;go_wp2_with fail;clear J N Q L z)
  refine rq (fun V=>∃c:Ff,V.heap[f]?=ob c 225/\c[0]?=some (pq C.mc 0)/\c[6]?=some (vI F.self)) ⟨_,f4.fc,m,rfl⟩ fun j=>?_;refine t4 0 1 2 3 j ?_;refine tD 4 29 (pq C.mc 0) (fun V P=>?_) j ?_
  .obtain⟨c,k1,k2,k3⟩:=P;have k0:=aJ k1 0;rw[k2] at k0;clear k1 k2 k3 j;go_simp
  refine t3 5 6 7 j ?_;refine tD 8 33 (vI F.self) (fun V P=>?_) j ?_
  .obtain⟨c,k1,k2,k3⟩:=P;have k0:=aJ k1 6;rw[k3] at k0;clear k1 k2 k3 j;go_simp
  refine t3 9 11 12 j ?_;refine r2 (i:=10) (j:=13) rfl rfl (fun K d=>?_) fun K d=>?_
  all_goals
   first|(go_simp;apply(fY (f4.below bR.drew) a8 p.xl I).mono;rintro e w4 ⟨⟨y,rfl,hy,r,ar⟩,⟨b6,Y⟩,u⟩;have B:=US r;clear r;go_wp2_with fail;refine d.out _ _ ⟨_,Y.fc,m,rfl⟩ fun j=>?_;have a7:=u.row (w:=E.drew) l;obtain⟨J,N,Q,L⟩:=q4 a7;have D:=aG a7;refine rA 10 fun K d=>?_;go_simp;refine d.out _ _ ⟨_,Y.fc,m,rfl⟩ fun j=>?_;clear J N Q L)|(have J:=aJ (w:=E.drew) l 0;have N:=aJ (w:=E.drew) l 1;have Q:=aJ (w:=E.drew) l 2;have L:=aJ (w:=E.drew) l 3;simp only[aAY,aAP,aBb] at J N Q L;have D:=aG (w:=E.drew) l;go_simp;refine d.out _ _ ⟨_,f4.fc,m,rfl⟩ fun j=>?_;clear d K J N Q L;refine rA 13 fun K d=>?_;go_simp;apply(fY (f4.below bR.drew) a8 p.xl I).mono;rintro e w4 ⟨⟨y,rfl,hy,r,ar⟩,⟨b6,Y⟩,u⟩;have B:=US r;clear r;go_wp2_with fail;refine d.out _ _ ⟨_,Y.fc,m,rfl⟩ fun j=>?_;clear d K)
   refine t1 14 j ?_;have m5:=m4.px ((Px.aF bR.drew _).tr u) dC;have Z:aB.b0<=w4.heap.size:=m5.ge.low;have a0:= @KC ⟨aB.b0,w4.heap.size,Z⟩ w4 C s gc y (Mi.base m5) lR (hy.gh lR) ⟨ar.cap,b7 B.out⟩ F.self bb p.vl.2 a5.out x hx oM oM (H gc oM);refine rA 15 fun K d=>?_;go_simp;apply a0.mono;rintro e w5 ⟨t,v,rfl,b1⟩;clear a0;have f6:=Y.wait b1.px lR dC;go_wp2_with fail;refine d.out _ _ ⟨_,f6.fc,m,rfl⟩ fun j=>?_;have⟨s5,n,gl,m6,x5,p5,lv,bj,hn⟩:=Ce.left (Ce.base Y.st.low b1);refine rA 16 fun K d=>?_;go_simp;refine(KH (ga:=g) f6 (by rw[aAt,aAt,aAt,aAt,aAt];omega) (by rw[aAt,aAt,aAt,aAt,aAt];have:=p.sl;omega) p.xl b4 p.bP oM lv).mono ?_;rintro e w6 ⟨rfl,b5,S6,X6,f7,al,ac,aa⟩;have bd:=US al;have bh:=US ac;clear al ac;go_wp2_with fail;refine d.out _ _ ⟨_,f7.fc,m,rfl⟩ fun j=>?_;refine dn ?_;go_wp2;refine bodyPost_end (results_none rfl _ _ _) rfl ?_;have q1:=bd.out;have q2:=bh.out;simp only[aAt] at q1;have b9:Px TT W w6:=((((ad.mono dC).tr (Px.aF bR.drew _)).tr (u.mono dC)).tr p5).tr (aa.mono dC);refine⟨rfl,b5,mv,S6,X6,s5,n,g+gl,n2,?_,q2,by have:=p.sl;omega,p.nb,m6.px aa dC,x5,oM,oM,b9⟩;rw[<-p.nx];exact f7
end
section
def DK(v:vZ)(w:WR):(Instr.typeAssert (.iface 177 v) 116 177 true).run zQ.prog w=.ok (.tuple #[v,.bool true]) w:=kR
def VV(v:vZ)(w:WR):(Instr.typeAssert (.iface 174 v) 116 177 true).run zQ.prog w=.ok (.tuple #[.agg #[.int .i64 0,.int .i64 0],.bool false]) w:=kR
def uO(v:vZ)(w:WR):(Instr.typeAssert (.iface 217 v) 116 177 true).run zQ.prog w=.ok (.tuple #[.agg #[.int .i64 0,.int .i64 0],.bool false]) w:=kR
def Mk(t:Fh)(v:vZ):Prop:=(t=177/\∃a i:Int,v=.agg #[.int .i64 a,.int .i64 i])\/∃z,∀w,(Instr.typeAssert (.iface t v) 116 177 true).run zQ.prog w=.ok (.tuple #[z,.bool false]) w
variable [aB]
def Ce.mk{Z:Prop}(h:Ce Z W C s s0 g (.iface t v) W'):Mk t v:=by
 obtain⟨d,n,k,j,f,b⟩:=h;rcases b with⟨c,i,a,_⟩| ⟨c,id,a,_⟩| ⟨e,fb,er,a,_⟩| ⟨er,a,_⟩
 .cases a;exact .inr ⟨_,VV _⟩
 .cases a;exact .inl ⟨rfl,_,_,rfl⟩
 .cases a;exact .inr ⟨_,uO _⟩
 .cases a;exact .inr ⟨_,uO _⟩
attribute [local go_sem] wd
def Cr.out{b d:WR}{k:Int}{q:Nat}(a:aB.b0<=b.heap.size)(l:Mi b C s)(h:(∃s0:St,s0.D=s.D/\s0.N=s.N/\s0.xs=s.xs/\s0.back=s.back/\Rz s.A k s0.A/\ @Ce ⟨aB.b0,b.heap.size,a⟩ False b C s s0 g (.iface t v) d)\/∃er,(.iface t v:vZ)=.iface 217 (.agg #[vI (g:Int),.iface 407 (.pointer (some er))])/\(er=C.dp\/er=C.li)/\Shut (¬(s.depth<64/\q<=(gt s.A k).bal))/\Bw b d)(i:aB.b1<=b.heap.size):
  ∃f n e,Mi d C f/\Ex n s f/\Px TT b d/\Lv d t v e/\Mk t v/\e<=g/\n+e<=g+20/\ @Px ⟨aB.b0,b.heap.size,a⟩ TT b d:=by
 rcases h with⟨s0,_,_,_,_,_,c⟩| ⟨er,j,m,_,h3⟩
 .have⟨f,n,e,w,x,o,r,p,u⟩:=Ce.left (Ce.base i c);exact⟨f,n,e,w,x,o,r,Ce.mk (Ce.base (h1:=aB.le) i c),p,u,c.px⟩
 .cases j;exact⟨s,0,g,l.below h3,.refl s,Px.aF h3 _,.ref (l.below h3).ge m g,.inr ⟨_,uO _⟩,aAz _,oM, @Px.aF ⟨aB.b0,b.heap.size,a⟩ _ _ h3 _⟩
def VW(h:dT W f F sv mv S X)(b4:Ir F.self)(hm:Mi W C s)(a4:F.m=C.mc)(hg:F.bP=(g:Int)){x a n:Nat}(hx:x<M)(hn:n<M)(hw:Wi a n X.length)(hX:X.length<1073741824)(hS:S.length<=1024)(hG:g<9000000)(hC:s.c+g+10<88000000)(H:Rp g):
    Cq 331 #[pq f 0,wd x,wd a,wd n] W fun e w'=>e=rU/\∃a8 S' s' n' d,dT w' f {F with bP:=((d:Nat):Int)} a8 mv S' X/\S'.length=S.length+1/\Mi w' C s'/\Ex n' s s'/\n'+d<=g+20/\d<=g/\Px TT W w':=by
 have ac:=US hg;have a5:∀{k:Nat},k=n->k<1073741824:=fun h=>by rcases hw with q|q<;>omega
 clear hg;have⟨V1,A1,A2,A3,hV,e1,e2,e3,b1,b2,b3,hb⟩:=ON W (.ce (wq x) 41) (.ce (wq a) 41) (.ce (wq n) 41);have f1:=h.below hb;have m1:=hm.below hb;change Cq 331 #[pq f 0,.agg (wq x),.agg (wq a),.agg (wq n)] W _;go_enter (qz func331),ntmps331;go_wp2_with fail;change Code.wp _ _ _ _ (((W.alloc (.ce (wq x) 41)).alloc (.ce (wq a) 41)).alloc (.ce (wq n) 41));rw[<-hV];rw[e3.out];rw[e2.out];rw[e1.out];clear hV;refine rq (fun V=>V.heap[f]?=ob (iE F sv mv) 225/\V.heap[A1]?=ob (wq x) 41/\V.heap[A2]?=ob (wq a) 41/\V.heap[A3]?=ob (wq n) 41) ⟨f1.fc,b1,b2,b3⟩ fun b=>?_;refine t3 0 1 2 b ?_;refine tD 3 14 (pq C.mc 0) (fun V i=>?_) b ?_
 .have k0:=bq i.1 0;rw[a4] at k0;clear i b;go_simp
 refine t3 4 5 6 b ?_;refine tV 7 (fun _ i=>bq (i.1) 6) b ?_;refine tV 8 (fun _ i=>q4 (i.2.1)) b ?_;refine t3 9 10 11 b ?_;refine tD 12 23 (vI (g:Int)) (fun V i=>?_) b ?_
 .have k0:=bq i.1 13;rw[ac.out] at k0;clear i b;go_simp
 refine t3 13 14 15 b ?_;refine tV 16 (fun _ i=>bq i.1 15) b ?_;refine tV 17 (fun _ i=>q4 (i.2.2.1)) b ?_;refine tV 18 (fun _ i=>q4 (i.2.2.2)) b ?_;refine rA 19 fun K m=>?_;go_simp;apply(zD (f1.below bR.drew) a n hn hX hw).mono;rintro e w2 ⟨⟨y,rfl,hy,a0⟩,c⟩;have P:=US a0;clear a0;have f2:=f1.below (bR.drew.tr c);have a9:=YR.below hy c;go_wp2_with fail;refine m.out _ _ ⟨bk c b.1,bk c b.2.1,bk c b.2.2.1,bk c b.2.2.2⟩ fun b=>?_;have⟨tx,Q,a7⟩:=zC a9;refine rA 20 fun K m=>?_;go_simp;refine m.out _ _ b fun b=>?_;refine t1 21 b ?_;have Z:=US Q;have m2:=m1.below (bR.drew.tr c);have B:aB.b0<=w2.heap.size:=m2.ge.low;have b6:=a5 P.out;have a1:= @RM ⟨aB.b0,w2.heap.size,B⟩ w2 C s g tx (Mi.base m2) lR F.self b4 x hx (by have:=Z.out;omega) hG oM H;clear Q a7;refine rA 22 fun K m=>?_;go_simp;apply a1.mono;rintro e w5 ⟨t,v,rfl,ar⟩;clear a1;have key:=Cr.out B m2 ar f2.st.low;obtain⟨s5,n5,d,m5,x5,p5,lv,aa,U,Y,w⟩:=key;have f5:=f2.wait w lR dC;go_wp2_with fail;refine m.out _ _ ⟨f5.fc,w.wait lR b.2.1 (.inr (.inl rfl)),w.wait lR b.2.2.1 (.inr (.inl rfl)),w.wait lR b.2.2.2 (.inr (.inl rfl))⟩ fun b=>?_;refine t1 23 b ?_;refine dn ?_;obtain⟨⟨fn,a6,al,O⟩,_⟩:=lv;have a2:=O w5 (Px.refl _ _);go_wp2_with fail;apply a2.mono;rintro e l ⟨rfl,J⟩;clear a2 a6 al O;have L:=f5.below J;have b5:=aG L.fc;have mr:=bq L.fc 13;have a3:=aQ L.fc 13;have I:(l.setCell ⟨f,13,none⟩ (vI (d:Int))).heap[f]?=ob (iE {F with bP:=(d:Int)} sv mv) 225:=aO (i:=13) L.fc;have o:Px [225] l (l.setCell ⟨f,13,none⟩ (vI (d:Int))):=fU (T:=[225]) L.fc I (aU.setCell l f 13 _) (fun t ht=>by cases ht) dC h.lo;have f7:=L.cells (F':={F with bP:=(d:Int)}) I o rfl rfl;have G:Px TT w5 (l.setCell ⟨f,13,none⟩ (vI (d:Int))):=((Px.aF J _).tr o).mono dC;have m7:=(m5.below J).px o dC;have r:Px TT W (l.setCell ⟨f,13,none⟩ (vI (d:Int))):=((((Px.aF hb _).tr (Px.aF bR.drew _)).tr (Px.aF c _)).tr p5).tr G;clear I b;rcases aa with⟨rfl,N,id,rfl⟩| ⟨z,ad⟩
 · have ad:=DK
   go_wp2_with fail;change Code.wp _ _ _ _ ((l.setCell ⟨f,13,none⟩ (vI (d:Int))).alloc (.ce #[vI N,vI id] 177));clear mr a3;have R:(l.setCell ⟨f,13,none⟩ (vI (d:Int))).heap.size=l.heap.size:=sI
   generalize(l.setCell ⟨f,13,none⟩ (.int .i64 (d:Int)))=E at o f7 G m7 r R⊢;have A:=aM E (.ce #[vI N,vI id] 177);have f8:=f7.below (ba (o:=.ce #[vI N,vI id] 177));rw[R] at A;generalize l.heap.size=B9 at A⊢;have T:Bw E (E.alloc (.ce #[vI N,vI id] 177)):=ba;generalize(E.alloc (.cells #[.int .i64 N,.int .i64 id] 177))=V8 at A f8 T⊢;refine rq (fun V=>V.heap[B9]?=ob #[vI N,vI id] 177) A fun b=>?_;refine t4 0 1 2 3 b ?_;refine tV 4 (fun _ i=>bq i 1) b ?_;refine rA 5 fun K m=>?_;go_simp;apply(dx id _).mono;rintro e w8 ⟨⟨z,hz,rfl⟩,j⟩;go_wp2_with fail;refine m.out _ _ (bk j b) fun b=>?_;refine rA 6 fun K m=>?_;go_simp;apply(yZ (f8.below (bR.drew.tr j)) z hz oM).mono;rintro e w9 ⟨rfl,⟨D,f9⟩,u⟩;go_wp2_with fail;refine m.out _ _ (u.row b dC) fun b=>?_;refine dn ?_;go_wp2;refine bodyPost_end (results_none rfl _ _ _) rfl ?_;have p:Px [225,41] E w9:=(Px.aF T _).tr ((Px.aF (bR.drew.tr j) _).tr u);exact⟨rfl,D,_,s5,n5,d,f9,sI,m7.px p dC,x5,Y,U,r.tr (p.mono dC)⟩
 · go_wp2_with fail;change Code.wp _ _ _ _ (l.setCell ⟨f,13,none⟩ (vI (d:Int)));clear mr a3;generalize(l.setCell ⟨f,13,none⟩ (.int .i64 (d:Int)))=E at o f7 G m7 r⊢;refine rq (fun V=>True) trivial fun b=>?_;refine t3 0 1 2 b ?_;refine rA 3 fun K m=>?_;go_simp;apply(dx 0 _).mono;rintro e w8 ⟨⟨z,hz,rfl⟩,j⟩;go_wp2_with fail;refine m.out _ _ trivial fun b=>?_;refine rA 4 fun K m=>?_;go_simp;apply(yZ (f7.below (bR.drew.tr j)) z hz oM).mono;rintro e w9 ⟨rfl,⟨D,f9⟩,u⟩;go_wp2_with fail;refine m.out _ _ trivial fun b=>?_;refine dn ?_;go_wp2;refine bodyPost_end (results_none rfl _ _ _) rfl ?_;have p:Px [225,41] E w9:=(Px.aF (bR.drew.tr j) _).tr u;exact⟨rfl,D,_,s5,n5,d,f9,sI,m7.px p dC,x5,Y,U,r.tr (p.mono dC)⟩
end
section
variable [aB]
attribute [local go_sem] wd
def Cf(p:Pd W C s f F sv mv S X g b n2)(T:3<=S.length)(E:Wi (tw S 2) (tw S 3) X.length)(Q:40<=b)(R:g+b<9000000)(P:s.c+g+b<88000000)(H:∀r,r<g+b->Rp r):
  Cq 304 #[pq f 0,vB 60] W fun e u=>e=rU/\Gn W C s f F X g b u:=by
 have t1:tw S.dropLast 1=tw S 2:=cN dC oM;have t2:tw S.dropLast.dropLast 1=tw S 3:=by rw[cN dC sQ0,cN dC oM]
 have n:=US t1;have d:=US t2;clear t1 t2;go_enter (qz func304),ntmps304;go_wp2_with fail;refine rq (fun V=>True) trivial fun c=>?_;refine t6 0 1 2 3 5 6 c ?_;refine t4 7 9 10 11 c ?_;refine rA 4 fun K a=>?_;go_simp;apply(gA (p.fr.below bR.drew) oM).mono;rintro e w1 ⟨rfl,⟨G,A⟩,k⟩;go_wp2_with fail;refine a.out _ _ trivial fun c=>?_;refine rA 8 fun K a=>?_;go_simp;refine(gA A sQ0).mono ?_;rintro e w2 ⟨rfl,⟨D,I⟩,m⟩;go_wp2_with fail;refine a.out _ _ trivial fun c=>?_;refine rA 12 fun K a=>?_;go_simp;refine(gA I sQ0).mono ?_;rintro e w3 ⟨rfl,⟨z,M⟩,l⟩;go_wp2_with fail;refine a.out _ _ trivial fun c=>?_;have j:Px [225] W w3:=(((Px.aF bR.drew _).tr k).tr m).tr l;have i:=VW M p.vl.2 (p.mi.px j dC) p.fm p.bP (eO p.fr 1) (x:=tw S 1) (a:=tw S.dropLast 1) (n:=tw S.dropLast.dropLast 1) (by rw[d.out];exact eO p.fr 3) (by rw[n.out,d.out];exact E) p.xl (by simp;have:=p.sl;omega) oM oM (H g oM);refine rA 13 fun K a=>?_;go_simp;apply(i).mono;rintro e w4 ⟨rfl,o,L,v,y,w,J,h,N,x,t,O,p4⟩;have q:=US h;clear h i;go_wp2_with fail;refine a.out _ _ trivial fun c=>?_;refine dn ?_;go_wp2;refine bodyPost_end (results_none rfl _ _ _) rfl ?_;have B:=q.out;simp only[aAt] at B;refine⟨rfl,o,mv,L,X,v,y,w,n2,?_,rfl,by have:=p.sl;omega,p.nb,N,x,oM,oM,(j.mono dC).tr p4⟩;rw[<-p.nx];exact J
def deep(_p:Pd W C s f F sv mv S X g b n2)(x:Nat)(h:x=61\/x=62)(a:Cq (if x=61 then 332 else 333) #[pq f 0] W fun e c=>e=rU/\Gn W C s f F X g b c):
   Cq 304 #[pq f 0,vB (x:Int)] W fun e c=>e=rU/\Gn W C s f F X g b c:=by
 rcases h with rfl|rfl
 .rw[if_pos rfl] at a;go_enter (qz func304),ntmps304;go_wp2_with fail;apply a.mono;rintro e w1 ⟨rfl,d⟩;clear a;go_wp2;refine bodyPost_end (results_none rfl _ _ _) rfl ?_;exact⟨rfl,d⟩
 .rw[if_neg dC] at a;go_enter (qz func304),ntmps304;go_wp2_with fail;apply a.mono;rintro e w1 ⟨rfl,d⟩;clear a;go_wp2;refine bodyPost_end (results_none rfl _ _ _) rfl ?_;exact⟨rfl,d⟩
def OY(_p:Pd W C s f F sv mv S X g b n2)(x:Nat)(h:x=60\/x=61\/x=62)(c:Cq 304 #[pq f 0,vB (x:Int)] W fun e a=>e=rU/\Gn W C s f F X g b a):
   Cq 263 #[pq f 0,vB (x:Int)] W fun e a=>Dn W C s f F X g b e a:=by
 rcases h with rfl|rfl|rfl;all_goals
  go_enter (qz func263),ntmps263;go_wp2_with fail;apply c.mono;rintro e w1 ⟨rfl,d⟩;clear c;go_wp2;go_ret;exact .inl ⟨rfl,d⟩
def sx:∀x,x<256->(BM x).isSome=true->x=0\/(1<=x/\x<=22)\/(24<=x/\x<=32)\/(40<=x/\x<=48)\/x=50\/(60<=x/\x<=64)\/(96<=x/\x<=159):=dC
def H3(p:Pd W C s f F sv mv S X g b n2)(x:Nat)(G:x<256){k c ex:Nat}(a:BM x=some (k,l,c))(d:k<=S.length)(M:S.length+l<=1024+k)(i:Tz x S X.length)(L:c+ex<=b)(K:x=61->tw S 1+(if tw S 3=0 then 0 else 9000)<=ex)(v:x=62->tw S 1<=ex)(m:Nat)(t:F.place=(m:Int))(y:x≠0->m<F.text.size)(n:F.text.size<2147483648)(z:n2<=m+33)(j:m+1<=n2)(w:g+b<9000000)(o:s.c+g+b<88000000)(H:∀A,A<g+b->Rp A):
  Cq 263 #[pq f 0,vB (x:Int)] W fun e D=>Dn W C s f F X g b e D:=by
 have B:=sx x G (by rw[a];rfl);rcases B with rfl|h|h|h|rfl|h|h
 .exact Qb p
 .have N:1<=c:=by
   have:x=1\/x=2\/x=3\/x=4\/x=5\/x=6\/x=7\/x=8\/x=9\/x=10\/x=11\/x=12\/x=13\/x=14\/x=15\/x=16\/x=17\/x=18\/x=19\/x=20\/x=21\/x=22:=oM
   rcases this with rfl|rfl|rfl|rfl|rfl|rfl|rfl|rfl|rfl|rfl|rfl|rfl|rfl|rfl|rfl|rfl|rfl|rfl|rfl|rfl|rfl|rfl<;>(cases a;decide)
  exact r5 p oM x h a d
 .have:x=24\/x=25\/x=26\/x=27\/x=28\/x=29\/x=30\/x=31\/x=32:=oM
  refine Gv p ?_ x h (fun q=>?_) ?_
  .rcases this with rfl|rfl|rfl|rfl|rfl|rfl|rfl|rfl|rfl<;>(cases a;omega)
  .rcases q with rfl|rfl<;>(cases a;exact d)
  .rcases this with rfl|rfl|rfl|rfl|rfl|rfl|rfl|rfl|rfl<;>(cases a;simp;omega)
 .have:x=40\/x=41\/x=42\/x=43\/x=44\/x=45\/x=46\/x=47\/x=48:=oM
  rcases this with rfl|rfl|rfl|rfl|rfl|rfl|rfl|rfl|rfl;all_goals cases a
  .exact L8 p oM d
  .exact Mp p oM d (i.1 (.inl rfl))
  .exact Mr p oM d (i.1 (.inr rfl))
  .exact Mq p oM d (i.2.1 rfl)
  .exact Ma p oM d
  .exact Mm p oM d
  .exact L9 p oM d
  .exact Mt p oM d
  .exact L6 p oM
 .cases a;exact Mo p oM d (i.2.2.1 (.inl rfl))
 .have:x=60\/x=61\/x=62\/x=63\/x=64:=oM
  rcases this with rfl|rfl|rfl|rfl|rfl;all_goals cases a
  .exact OY p 60 (.inl rfl) (Cf p d (i.2.2.2.1 rfl) oM w o H)
  .have:=K rfl;exact OY p 61 (.inr (.inl rfl)) (deep p 61 (.inl rfl) (call332 p d (i.2.2.2.2.1 rfl) oM w o H))
  .have:=v rfl;exact OY p 62 (.inr (.inr rfl)) (deep p 62 (.inr rfl) (sw p d (i.2.2.2.2.2 rfl) oM w o H))
  .exact Ms p d (i.2.2.1 (.inr rfl))
  .exact Mv p d
 .unfold BM at a;rw[if_neg oM,if_neg oM] at a;by_cases u:x<=127
  .rw[if_pos u] at a;cases a;exact Bl p oM x ⟨h.1,u⟩ oM m t (y oM) n z j
  .rw[if_neg u] at a;by_cases r:x<=143
   .rw[if_pos r] at a;obtain⟨I,E,J⟩:x - 127=k/\x - 126=l/\3=c:=by simpa only[aAF,aCL] using a
    exact Gi p oM x ⟨oM,r⟩ oM oM
   .rw[if_neg r,if_pos h.2] at a;obtain⟨I,E,J⟩:x - 142=k/\x - 142=l/\3=c:=by simpa only[aAF,aCL] using a
    exact Bp p oM x ⟨oM,h.2⟩ oM
end
end Go.Mark
