import Derived.Conc.LeavingOf
import Derived.Stop.LaidTwo
import Derived.LaidSub
import Derived.Lib.SmallJoins
import Derived.Test.YtbephahokhnccaaGreatDoorJ34
set_option linter.all false
set_option maxRecDepth 100000
set_option maxHeartbeats 8000000
namespace Go.Mark
open Go.RowKit Go.Proofs Go.Proofs.Tryz
variable{dp li a:Addr}{held:Bool}{ds:List (bF×SV)}{xl xd:List UInt8}{l cs:K3}{m:Machine}{fuel cap i:Nat}{spare:Nat->Bool}{o:Od}{aa a0:yj}{P:K5}{w W v:WR}
section
open Go.Conc Go.Walk Go.Phase Go.Conc.Lib Go.ConcR.Gen Go.ConcN.Gen Go.Lift
open Go.ConcN (WgLive Has RW DWs AtR0 PayAt)
open Go.ConcR (KK WgAt stA smA rd wr mk Payload)
section
variable [aB]
def Ge.kept{j:WR}(h:Ge W dp li)(r:W.heap.size<=j.heap.size)(d:∀b c t f,b<aB.b0->W.heap[b]?=some (.cells c t f)->j.heap[b]?=some (.cells c t f)):Ge j dp li:=by
 have row:∀b x,b<aB.b0->W.cell? ⟨b,0,none⟩=some x->j.cell? ⟨b,0,none⟩=some x:=fun b x n a=>by
  unfold World.cell? at a;cases i:W.heap[b]? with
  |none=>rw[i] at a;cases a
  |some o=>
   cases o with
   |cells c e f=>exact(World.cell?_of_block (a:=⟨b,0,none⟩) ((d b c e f n i).trans i.symm)).trans (by unfold World.cell?;exact a)
   |_=>rw[i] at a;cases a
 have m:=h.lo;refine⟨h.lo,aAw h.low r,row 0 _ oM h.de,row 3 _ oM h.le,row 4 _ oM h.et,fun g l=>?_,let⟨c,t,e⟩:=h.od;⟨c,t,d _ _ _ _ m.2.1 e⟩,let⟨c,t,e⟩:=h.ol;⟨c,t,d _ _ _ _ m.2.2 e⟩,h.ne⟩;obtain⟨e,p,k,h3,h4,c,t,q⟩:=h.er g l;have:g<=10:=by simp at l;exact oM
 exact⟨e,row g _ oM p,k,h3,h4,c,t,d _ _ _ _ k q⟩
def PY{D:Nat->Prop}(e:Dk aB.b0 D w)(d:Rel (cM D) w v)(a:∀b,b<aB.b0->w.heap[b]?=W.heap[b]?){b:Nat}{c:Ff}{t:Fh}{f:Nat×Nat}(h:b<aB.b0)(i:W.heap[b]?=some (.cells c t f)):v.heap[b]?=some (.cells c t f):=by
 refine HA d ((a b h).tr i) fun j=>?_;rcases e b j with⟨l,_⟩| ⟨_,o,g,k,_⟩
 .omega
 .rw[a b h,i] at g;cases g;exact k trivial
def uE.on{a:yj}(h:uE W a ds)(g:∀p x,W.cell? p=some x->v.cell? p=some x):uE v a ds:=
 ⟨h.acc.imp id fun⟨b,o,f,e⟩=>⟨b,o,f,fun i p c j x d=>g _ _ (e i p c j x d)⟩,fun p c=>⟨(h.sl p c).1,(h.sl p c).2.imp id fun⟨b,o,f,e⟩=>⟨b,o,f,fun i q k j x d=>g _ _ (e i q k j x d)⟩⟩,h.bal,h.num,h.key,h.len⟩
def E0(W:WR)(aa:yj)(n:Nat):Prop:=n=0\/∃b off X e f,aa=some ⟨b,off,none⟩/\W.heap[b]?=some (.cells X e f)/\e≠4/\off+n*8<=X.size
def LY{Shun:yi}{D:Nat->Prop}{k0:Nat}{t:Trace}(bx:aB.b0=w.heap.size)(e6:aB.b1=w.heap.size)(g4:Ge w dp li)(en:Rel (cM D) w v)(c0:∀b,D b->b<w.heap.size/\∃o,w.heap[b]?=some o/\¬kF (cM D) o/\¬eZ o)(Z:jU (cM D) Shun)(ho:k0+200<2147483647)(hv:o.val<M)(hI:uE w aa ds)(e7:E0 w aa ds.length)(ck:fB Tryz.prog Shun w.heap.size (k0+1) (G ((base 6).at ⟨#[.slice aa ds.length cap,.agg o.cs]++Array.replicate 178 undef,[]⟩ [.code (Tryz.f6.body.getD .skip)]) []) w m t):
  Runs Tryz.prog m t fun m' t'=>∃(S:WR) (mH:yi) (N:Nat) (T:Ff) (H:List Item),(∀b,b<aB.b0->S.heap[b]?=w.heap[b]?)/\(S.os=w.os/\S.output=w.output)/\w.heap.size<=S.heap.size/\T[4]?=some (.bool true)/\
   fB Tryz.prog mH S.heap.size N (G {(base 6).at ⟨T,[]⟩ H with mode:=.returning} []) S m' t':=by
 have hB:aB.b0<=w.heap.size:=aBz bx;have er:aB.b1<=w.heap.size:=aBz e6;have f3:Dk aB.b0 D w:=fun b hb=>.inr (by rw[bx];exact c0 b hb);obtain⟨T0,e2,fb⟩:∃T0,T0=#[.sl aa ds.length cap,.agg o.cs]++Array.replicate 178 uf/\A6 T0 aa ds.length cap o:=⟨_,rfl,⟨sI,sI,sI⟩⟩;rw[<-e2] at ck;clear e2;refine(dR (Qn (h0:=w.heap)) rfl ck).then fun m1 t1 h1=>?_;clear ck;obtain⟨g1,w1,⟨rfl,du⟩,fv,b7⟩:=h1;have W:=dQ (w':=w1) f3 en Z du fv;have c6:w1.heap.size=w.heap.size:=by rw[du]
 rw[<-c6] at b7;have ac:=mE (D:=D) (c:=XP) (b:=base 6) (k:=[.code HC]) (cw:=[]) (w:=w1) (a:=⟨T0,[]⟩)
  (Φ:=fun a' v'=>∃u T,Rel (cM D) w1 u/\a'=⟨T,[]⟩/\B6 T aa ds.length cap u.heap.size/\v'=u.nc o.cs 43) rfl rfl J4 (fun x P=>by rw[aAB.1 P];exact J5) ⟨_,W.rel⟩
  (fun u R=>Kg fb u _ (fun T' bd=>⟨u,T',R,rfl,bd,rfl⟩))
 refine(eM Z ac b7).then fun m2 t2 h2=>?_;clear b7 ac;obtain⟨g2,w2,⟨a2,v2,rfl,ca,f1,_,u2,T2,de,rfl,dm,ct⟩,c7⟩:=h2;have fc:Below u2.heap.size u2 v2:=by rw[ct];exact ba
 have d0:=jP W.dk W.rel Z (aAw hB W.up) de ca f1 fc;have bn:=W.tr d0;have b9:u2.heap.size=w.heap.size:=by rw[de.size,c6]
 obtain⟨bo,ch⟩:∃bo,bo=w.heap.size:=⟨_,rfl⟩;rw[b9,<-ch] at dm;have cv:v2.heap[bo]?=ob o.cs 43:=by rw[ct,ch,<-b9];exact aM u2 _
 have he:w2.heap.size=bo+1:=by rw[<-ca.size,ct,ch,<-b9];simp
 have bw:w2.heap[bo]?=ob o.cs 43:=SM ca cv (by simp[Od.cs]);obtain⟨cb,E⟩:∃T,T=Array.replicate 76 uf:=⟨_,rfl⟩;refine(dR (Qo (h0:=w2.heap) E) rfl c7).then fun m3 t3 h3=>?_;clear c7;obtain⟨g3,w3,⟨rfl,d9⟩,gb,b2⟩:=h3;have cr:=dQ (w':=w3) bn.dk bn.rel Z d9 gb;have bb:=bn.tr cr;have eb:w3.heap.size=w2.heap.size:=by rw[d9]
 rw[<-eb] at b2;have e0:Dk w3.heap.size D w3:=fun b hb=>by have⟨q1,ob,q2,q3,q4⟩:=c0 b hb;exact .inr ⟨oM,ob,by rw[bb.kw b oM];exact q2,q3,q4⟩
 have dc:= @PW ⟨w3.heap.size,w3.heap.size,aAz _⟩ Shun D k0 cb E (base 6) ⟨T2,[]⟩ nD 0 [1] [.code wR] [] w3 v2 m3 t3 lR bb.rel e0 Z oM rfl rfl Ke (fun x P=>by rw[aAB.1 P];exact J6) b2;refine dc.then fun m4 t4 h4=>?_;clear b2 E dc;obtain⟨w4,v4,f2,D4,k4,q,b1,hh,bj⟩:=h4;have a5:w4.heap[bo]?=ob o.cs 43:=by rw[q.kw bo (by show bo<w3.heap.size;omega),d9];exact bw
 have e3:Dk aB.b0 D4 w4:=fun b hb=>by
  rcases q.dk b hb with⟨q1,q2⟩| ⟨q1,ob,q2,q3,q4⟩
  .exact .inl ⟨by change w3.heap.size<=b at q1;omega,q2⟩
  .by_cases f7:b<aB.b0
   .exact .inr ⟨f7,ob,q2,q3,q4⟩
   .have e:b=bo:=by change b<w3.heap.size at q1;omega
    rw[e,a5] at q2;cases q2;exact absurd trivial q3
 have b3:SO aB.b0 D4 w w4 v4:=bb.toSO.tr ⟨q.rel,e3,fun b hb=>q.kw b (by show b<w3.heap.size;omega),q.os,q.up⟩;have ej:¬D4 bo:=fun hd=>by
  rcases q.dk bo hd with⟨q1,_⟩| ⟨_,ob,q2,q3,_⟩
  .change w3.heap.size<=bo at q1;omega
  .rw[a5] at q2;cases q2;exact q3 trivial
 rw[Kk] at bj;refine(dR (Qp (h0:=w4.heap) dm) rfl bj).then fun m5 t5 h5=>?_;clear bj;obtain⟨g5,w5,⟨⟨T5,rfl,ec,dv⟩,cd⟩,ev,bv⟩:=h5;have j:=b3.tr (dQ (w':=w5) b3.dk b3.rel b1 cd ev).toSO;have ek:w5.heap.size=w4.heap.size:=by rw[cd]
 rw[<-ek] at bv;have c1:v4.heap[bo]?=ob o.cs 43:=HA j.rel (by rw[cd];exact a5) ej;have f9:uE v4 aa ds:=hI.on fun p x hp=>by
  obtain⟨pb,po,ps⟩:=p;cases b6:w.heap[pb]? with
  |none=>unfold World.cell? at hp;rw[b6] at hp;cases hp
  |some ob=>
   cases ob with
   |cells c e f=>
    have:=PY j.dk j.rel j.kw (by rw[bx];exact aG b6) b6;exact(World.cell?_of_block (a:=⟨pb,po,ps⟩) (this.tr b6.symm)).tr hp
   |_=>unfold World.cell? at hp;rw[b6] at hp;cases hp
 obtain⟨qa,off,g6,fi,f4,f6,gn⟩:∃(qa:Rw) (off:Nat),v4.heap[qa.b]?=some (.cells qa.x qa.e qa.f)/\qa.e≠4/\(ds=[]\/aa=some (ad qa.b off))/\0<qa.x.size/\off+ds.length*8<=qa.x.size:=by
  by_cases hd:ds=[]
  .exact⟨⟨bo,o.cs,43,(0,0)⟩,0,c1,by show(43:Nat)≠4;decide,.inl hd,by simp[Od.cs],by rw[hd];simp⟩
  .rcases e7 with h0| ⟨b,off,X,e,f,q1,q2,q3,q4⟩
   .exact absurd (aAZ h0) hd
   .have ha:0<ds.length:=List.length_pos_iff.2 hd;exact⟨⟨b,X,e,f⟩,off,PY j.dk j.rel j.kw (by rw[bx];exact aG q2) q2,q3,.inr q1,by show 0<X.size;omega,q4⟩
 refine(EE (ds:=ds) (cap:=cap) (o:=k4) (b₀:=base 6) (a₀:=⟨T5,[]⟩) (ops0:=nE) (i₀:=1) (rest0:=[2,3,4,5,6]) (k₀:=[.code nM]) (aAw hB j.up) (by rw[j.rel.size];exact aAw hB j.up) j.rel j.dk b1 g6 fi f4 f6 gn f9 oM rfl rfl Kf (fun x P=>by rw[aAB.1 P];exact Om) bv).then fun m6 t6 h6=>?_;clear bv;obtain⟨w6,v6,es,C,k6,gs,a4,cc,hg,U⟩:=h6;have Q:=j.tr a4.toSO;have a:=a4.hid;have eg:v6.heap[bo]?=ob o.cs 43:=a4.tw.obj _ _ c1 (.inl trivial);rw[Kl] at U;rcases cc with⟨g0,pw,pl,L,rfl,fm,da,_,_⟩| ⟨_,rfl⟩
 ·
  refine(dR (Pu (h0:=w6.heap) ec dv) rfl U).then fun m7 t7 h7=>?_;clear U;obtain⟨g7,w7,⟨⟨T7,rfl,z0,z3,z5,z6,z7⟩,b5⟩,cp,F⟩:=h7;have cw:=dQ (w':=w7) Q.dk Q.rel a b5 cp;have g:=Q.tr cw.toSO;have ar:w7.heap.size=w6.heap.size:=by rw[b5]
  rw[<-ar,Ew] at F;have y:=qW (D:=C) (l:=[eR 0,eR 1,eR 2,eR 3,eR 4,eR 5]) (c:=XQ) (b:=base 6) (k:=[]) (cw:=[]) (w:=w7) (a:=⟨T7,[]⟩)
   (Φ:=fun a' v'=>∃u gd T,Rel (cM C) w7 u/\a'=⟨T,[]⟩/\vr u.heap.size o gd T v'/\Px TT u v') rfl rfl J7 Ka (fun x P=>by cases P) ⟨_,g.rel⟩
   (fun u R=>by have d5:=mZ g.dk g.rel R;have fk:Ge u dp li:=g4.kept (by rw[R.size];exact g.up) fun b c t f hb hc=>PY g.dk R g.kw hb hc;have⟨mm,dd,hR⟩:=lx (da.tw d5) g0 fk;exact Ju ⟨z0,z3,z5,z6⟩ hR (by rw[R.size];exact aAw er g.up) dC (d5.obj _ _ fm (.inl trivial)) (d5.obj _ _ eg (.inl trivial)) hv _ (fun gd T' W' hA hP=>⟨u,gd,T',R,rfl,hA,hP⟩))
  refine(eM a y F).then fun m8 t8 h8=>?_;clear F y;obtain⟨g8,w8,⟨a8,v8,rfl,cm,cn,_,u8,gd,T8,bh,rfl,fl,gg⟩,Y⟩:=h8;have c5:=gg.bz (by rw[bh.size];exact aAw hB g.up);have J:=g.tr (kE g.dk bh cm cn (aAw hB g.up) c5.toBelow c5.kz);have ga:aB.b0<=u8.heap.size:=by rw[bh.size];exact aAw hB g.up
  refine(dR (Qq (h0:=w8.heap)) rfl Y).then fun m9 t9 h9=>?_;clear Y;obtain⟨g9,w9,⟨rfl,b4⟩,d6,I⟩:=h9;have l:=J.tr (dQ (w':=w9) J.dk J.rel a b4 d6).toSO;have br:w9.heap.size=w8.heap.size:=by rw[b4]
  rw[<-br] at I;have k:=mE (D:=C) (c:=vp) (b:=base 6) (k:=[.code (.cond (.tmp 61) Eu .skip),.code ly]) (cw:=[]) (w:=w9) (a:=⟨T8,[]⟩)
   (Φ:=fun a' v'=>∃T,Rel (cM C) w9 v'/\a'=⟨T,[]⟩/\vr u8.heap.size o gd T v'/\T.size=180/\T[61]?=some (.bool gd)) rfl rfl Oo (fun x P=>by
    simp only[aAx,aAC,or_false] at P;rcases P with rfl|rfl
    .exact Oq
    .exact Kd) ⟨_,l.rel⟩
   (fun u R=>Jv (fl.tw (mZ l.dk l.rel R)) _ (fun T' hA hz bz=>⟨T',R,rfl,hA,hz,bz⟩))
  refine(eM a k I).then fun gm f8 cl=>?_;clear I k;obtain⟨fe,a9,⟨ez,v10,rfl,bl,al,_,db,bg,rfl,ea,em,bz⟩,z⟩:=cl;have h:=l.tr (kE l.dk bg bl al (aAw hB l.up) (jL v10).toBelow (jL v10).kz);cases gd with
  |true=>
   refine(dR (Ow (h0:=a9.heap) em bz) rfl z).mono fun e4 e1 bm=>?_;obtain⟨dr,A,⟨⟨T3,H,rfl,b0⟩,B⟩,a1,i⟩:=bm;have d:=h.tr (dQ (w':=A) h.dk h.rel a B a1).toSO;have K:A.heap.size=a9.heap.size:=by rw[B]
   rw[<-K] at i;exact⟨A,_,_,T3,H,d.kw,d.os,d.up,b0,i⟩
  |false=>
   refine(dR (Ox (h0:=a9.heap) bz) rfl z).then fun e4 e1 bm=>?_;clear z;obtain⟨dr,A,⟨rfl,B⟩,a1,i⟩:=bm;have d:=h.tr (dQ (w':=A) h.dk h.rel a B a1).toSO;have K:A.heap.size=a9.heap.size:=by rw[B]
   rw[<-K,wj] at i;have n:=qW (D:=C) (l:=[eR 7,eR 8,eR 9,eR 10]) (c:=.ret) (b:=base 6) (k:=[]) (cw:=[]) (w:=A) (a:=⟨db,[]⟩)
    (Φ:=fun a' v'=>∃u T,Rel (cM C) A u/\a'=⟨T,[]⟩/\Bz u v'/\T[4]?=some (.bool true)) rfl rfl Ey rfl (fun x P=>by cases P) ⟨_,d.rel⟩
    (fun u R=>Jw ga (ea.tw (mZ d.dk d.rel R)) _ (fun T' S h4 et=>⟨u,T',R,rfl,et,h4⟩))
   refine(eM a n i).then fun ey fz cy=>?_;clear i n;obtain⟨gr,bs,⟨f5,d7,rfl,b8,bt,_,hf,cb,bc,rfl,bf,E⟩,a3⟩:=cy;have s:=d.tr (kE d.dk bc b8 bt (aAw hB d.up) bf.toBelow bf.kz);refine(dR (Pv (h0:=bs.heap) E) rfl a3).mono fun fd f0 c9=>?_;obtain⟨gl,a7,⟨⟨T3,H,rfl,b0⟩,V⟩,bi,O⟩:=c9;have r:=s.tr (dQ (w':=a7) s.dk s.rel a V bi).toSO;have a6:a7.heap.size=bs.heap.size:=by rw[V]
   rw[<-a6] at O;exact⟨a7,_,_,T3,H,r.kw,r.os,r.up,b0,O⟩
 ·
  refine(dR (Pu (h0:=w6.heap) ec dv) rfl U).then fun m7 t7 h7=>?_;clear U;obtain⟨g7,w7,⟨⟨T7,rfl,z0,z3,z5,z6,z7⟩,b5⟩,cp,F⟩:=h7;have g:=Q.tr (dQ (w':=w7) Q.dk Q.rel a b5 cp).toSO;have ar:w7.heap.size=w6.heap.size:=by rw[b5]
  rw[<-ar,we] at F;have y:=qW (D:=C) (l:=[eR 0]) (c:=XR) (b:=base 6) (k:=[]) (cw:=[]) (w:=w7) (a:=⟨T7,[]⟩)
   (Φ:=fun a' v'=>∃T,Rel (cM C) w7 v'/\a'=⟨T,[]⟩/\D6 T (.agg #[vI 1])) rfl rfl J8 Kb (fun x P=>by cases P) ⟨_,g.rel⟩
   (fun u R=>Kh ⟨z0,z5,z6,z7⟩ u _ (fun T' bd=>⟨T',R,rfl,bd⟩))
  refine(eM a y F).then fun m8 t8 h8=>?_;clear F y;obtain⟨g8,w8,⟨a8,v8,rfl,cm,cn,_,T8,bh,rfl,gh⟩,Y⟩:=h8;have J:=g.tr (kE g.dk bh cm cn (aAw hB g.up) (jL v8).toBelow (jL v8).kz);refine(dR (Qr (h0:=w8.heap)) rfl Y).then fun m9 t9 h9=>?_;clear Y;obtain⟨g9,w9,⟨rfl,b4⟩,d6,I⟩:=h9;have l:=J.tr (dQ (w':=w9) J.dk J.rel a b4 d6).toSO;have br:w9.heap.size=w8.heap.size:=by rw[b4]
  rw[<-br] at I;have k:=mE (D:=C) (c:=Fb) (b:=base 6) (k:=[.code (.cond (.tmp 26) (.seq my .ret) .skip),.code lz]) (cw:=[]) (w:=w9) (a:=⟨T8,[]⟩)
   (Φ:=fun a' v'=>∃T,Rel (cM C) w9 v'/\a'=⟨T,[]⟩/\D6 T (.agg #[vI 1])/\T[26]?=some (.bool true)) rfl rfl Ot (fun x P=>by
    simp only[aAx,aAC,or_false] at P;rcases P with rfl|rfl
    .exact Ou
    .exact yv) ⟨_,l.rel⟩
   (fun u R=>Ki gh u _ (fun T' bd cq=>⟨T',R,rfl,bd,cq⟩))
  refine(eM a k I).then fun gm f8 cl=>?_;clear I k;obtain⟨fe,a9,⟨ez,v10,rfl,bl,al,_,db,bg,rfl,e5,cq⟩,z⟩:=cl;have h:=l.tr (kE l.dk bg bl al (aAw hB l.up) (jL v10).toBelow (jL v10).kz);refine(dR (Qs (h0:=a9.heap) cq) rfl z).then fun e4 e1 bm=>?_;clear z;obtain⟨dr,A,⟨rfl,B⟩,a1,i⟩:=bm;have d:=h.tr (dQ (w':=A) h.dk h.rel a B a1).toSO;have K:A.heap.size=a9.heap.size:=by rw[B]
  rw[<-K] at i;have n:=mE (D:=C) (c:=my) (b:=base 6) (k:=[.code .ret,.code lz]) (cw:=[]) (w:=A) (a:=⟨db,[]⟩)
   (Φ:=fun a' v'=>∃T,Rel (cM C) A v'/\a'=⟨T,[]⟩/\T[4]?=some (.bool true)) rfl rfl Ov (fun x P=>by
    simp only[aAx,aAC,or_false] at P;rcases P with rfl|rfl
    .rfl
    .exact yv) ⟨_,d.rel⟩
   (fun u R=>Kj e5 u _ (fun T' h4=>⟨T',R,rfl,h4⟩))
  refine(eM a n i).then fun ey fz cy=>?_;clear i n;obtain⟨gr,bs,⟨f5,d7,rfl,b8,bt,_,cb,bc,rfl,E⟩,a3⟩:=cy;have s:=d.tr (kE d.dk bc b8 bt (aAw hB d.up) (jL d7).toBelow (jL d7).kz);refine(dR (Pv (h0:=bs.heap) E) rfl a3).mono fun fd f0 c9=>?_;obtain⟨gl,a7,⟨⟨T3,H,rfl,b0⟩,V⟩,bi,O⟩:=c9;have r:=s.tr (dQ (w':=a7) s.dk s.rel a V bi).toSO;have a6:a7.heap.size=bs.heap.size:=by rw[V]
  rw[<-a6] at O;exact⟨a7,_,_,T3,H,r.kw,r.os,r.up,b0,O⟩
end
end
section
open Go.Conc Go.Walk Go.Phase Go.Lift
section
variable [aB]
def D0(W:WR)(b:Nat):Prop:=∃o,W.heap[b]?=some o/\¬kF (cM fun _=>False) o/\¬eZ o
def Oy(W:WR):∃v,Rel (cM (D0 W)) W v:=by
 refine yD (fun b g=>?_) (fun b o a i d=>⟨o,a,fun h=>d (pN.1 h),i⟩) fun b c e f g j=>?_
 .obtain⟨o,a,_⟩:=g;exact(aAu.1 a).1
 .obtain⟨o,a,d,_⟩:=g;rw[j] at a;cases a;exact absurd trivial d
def E1(W:WR)(g:K2):fB Tryz.prog (fun _=>False) W.heap.size (0+1) g W (solo g W) #[]:=
 ⟨#[g],none,fun _=>0,rfl,rfl,rfl,leavers_one _ _,⟨past_nil.mono (aBa _),fun _ _ _ _ _ h=>h.elim,fun op a=>by simp at a,fun op a=>by simp at a⟩⟩
def wm(x y:vZ):Frame.enter Tryz.prog 6 #[x,y] .normal=(base 6).at ⟨#[x,y]++Array.replicate 178 undef,[]⟩ [.code (Tryz.f6.body.getD .skip)]:=by
 have b:f6.body=some (f6.body.getD .skip):=kR
 have a:180 - (#[x,y]:Ff).size=178:=rfl;rw[enter_at _ func6 b,ntmps6,a]
def runN_add{d:Machine}{a:Nat}(h:runN P a m=.next d)(b:Nat):runN P (a+b) m=runN P b d:=by
 induction a generalizing m with
 |zero=>
  simp only[runN,Stepped.next.injEq] at h;subst h;rw[aAM]
 |succ a e=>
  rw[Nat.succ_add];simp only[runN] at h⊢;cases c:step P m with
  |next f=>
   rw[c] at h;exact e h
  |ended o w=>
   rw[c] at h;cases h
def l5(W:WR)(v:vZ)(a:WR):Prop:=v=.bool true/\(∀b,b<W.heap.size->a.heap[b]?=W.heap[b]?)/\(a.os=W.os/\a.output=W.output)/\W.heap.size<=a.heap.size
def l6(W:WR)(P:o.val<M)(K:uE W aa ds)(j:E0 W aa ds.length)(s: @Ge ⟨W.heap.size,W.heap.size,Nat.le_refl _⟩ W dp li):
  ∃M last n i r,runNT Tryz.prog (M+1) (solo (G (Frame.enter Tryz.prog 6 #[.slice aa ds.length cap,.agg o.cs] .normal) []) W) #[]=(.ended n i,r)/\runN Tryz.prog M (solo (G (Frame.enter Tryz.prog 6 #[.slice aa ds.length cap,.agg o.cs] .normal) []) W)=.next last/\
   step Tryz.prog last=.ended n i/\Conc.Good Tryz.prog (l5 W) last n i r:=by
 letI:aB:=⟨W.heap.size,W.heap.size,Nat.le_refl _⟩
 obtain⟨v,m⟩:=Oy W;rw[wm];obtain⟨A,f⟩:∃g,g=G ((base 6).at ⟨#[.slice aa ds.length cap,.agg o.cs]++Array.replicate 178 undef,[]⟩ [.code (Tryz.f6.body.getD .skip)]) []:=⟨_,rfl⟩;rw[<-f];have c:=E1 W A;have x:=LY (k0:=0) (ds:=ds) (aa:=aa) (cap:=cap) (o:=o) (D:=D0 W) (w:=W) (v:=v) (m:=solo A W) (t:=#[]) (Shun:=fun _=>False) rfl rfl s m (fun b E=>by
  obtain⟨ob,B,S,I⟩:=E;exact⟨(Array.getElem?_eq_some_iff.1 B).1,ob,B,fun h=>S (pN.1 h),I⟩) (fun l L=>L.elim) oM P K j (by rw[<-f];exact c)
 clear c f;obtain⟨N,X,t1,a,w1,e,U,T,p,t,z,w,H,u⟩:=x;obtain⟨V,sl,q,rfl,Y,D,J,Q⟩:=u.ex;have y:Goes Tryz.prog true AtRel (fun _ _ _=>False) (AtEnd Tryz.prog e w1.heap.size (l5 W)) 0 (G {(base 6).at ⟨T,[]⟩ p with mode:=.returning} []) w1:=fun C k=>by
  obtain⟨d,rfl⟩:=k;refine⟨rfl,.bool true,#[],?_,sI,rfl,t,z,w⟩;simp[G,stepG,unwind,doReturn,results,Frame.at,base,Tryz.func6,seen,GStep.after,H]
 obtain⟨M,last,n,i,r,k1,O,F,R⟩:=beside_ends (sl:=sl) (fun _ _ _ h=>h.elim) D J Q.tY y;refine⟨N+M,last,n,i,r,?_,?_,F,R⟩
 .rw[Nat.add_assoc,runNT_add,a];exact k1
 .rw[runN_add (by rw[<-runNT_fst _ _ _ #[],a])];exact O
end
end
section
open Go.ChangeShapes
def Pw:(Tryz.prog.globals[0]?).map (·.type)=some 36:=kR
def Qt:(Tryz.prog.globals[1]?).map (·.type)=some 36:=kR
def Py:(Tryz.prog.globals[3]?).map (·.type)=some 36:=kR
def Pz:Tryz.prog.globalNamed "purser/machine.ErrDeep" =some 0:=kR
def Qu:Tryz.prog.globalNamed "purser/machine.ErrNoGas" =some 1:=kR
def P0:Tryz.prog.globalNamed "purser/ledger.ErrLittle" =some 3:=kR
def Qv:Tryz.prog.globalNamed "errors.errorType" =some 4:=kR
def Qw:Tryz.prog.types.size=443:=kR
def Qx:(Tryz.prog.cutTypes.find? (·.1== "internal/reflectlite.rtype")).map (·.2)=some 355:=kR
def E2:((List.range 443).filter fun t=>Tryz.prog.rowNamed t [101,114,114,111,114])=[36]:=kR
def lY:typeHandle Tryz.prog 36=pq 11 36:=kR
def star: "*" ++ "errors.errorString" = "*errors.errorString" :=dC
def E3(u:Fh)(h:Tryz.prog.typeName? 3 u=some "*errors.errorString"):u=407:=
 typeName_ptr_named (nm:= "errors.errorString") (by rw[star];kernel_rfl) kR dC u (by rw[star];exact h)
def l9:Tryz.prog.cellsOf 431=1:=kR
def wo:Tryz.prog.cellsOf 9=1:=kR
def Qy:(Tryz.prog.globals[5]?).map (·.type)=some 36:=kR
def Qz:Tryz.prog.globalNamed "purser/machine.ErrNoInstruction" =some 5:=kR
def Q0:(Tryz.prog.globals[2]?).map (·.type)=some 36:=kR
def Q1:(Tryz.prog.globals[6]?).map (·.type)=some 36:=kR
def Q2:(Tryz.prog.globals[7]?).map (·.type)=some 36:=kR
def Oz:(Tryz.prog.globals[10]?).map (·.type)=some 36:=kR
def Q3:Tryz.prog.globalNamed "purser/machine.ErrLongCode" =some 2:=kR
def Q4:Tryz.prog.globalNamed "purser/machine.ErrFewWords" =some 6:=kR
def Q5:Tryz.prog.globalNamed "purser/machine.ErrManyWords" =some 7:=kR
def O0:Tryz.prog.globalNamed "purser/machine.ErrNoMark" =some 10:=kR
def HD{k1 j:String}{e b:Nat}{o m:List UInt8}{r:List (String×DataW Unit)}(h:laidMet Tryz.prog ((k1,.iface "*errors.errorString" (.ptr (.agg [.lit (.string o)])))::(j,.iface "*errors.errorString" (.ptr (.agg [.lit (.string m)])))::r) W)(i:Tryz.prog.globalNamed k1=some e)(t1:(Tryz.prog.globals[e]?).map (·.type)=some 36)(g:Tryz.prog.globalNamed j=some b)(t2:(Tryz.prog.globals[b]?).map (·.type)=some 36):
  ∃p q,W.cell? ⟨e,0,none⟩=some (.iface 407 (.pointer (some p)))/\W.cell? ⟨b,0,none⟩=some (.iface 407 (.pointer (some q)))/\p≠q/\(∃c t,W.heap[p.block]?=ob c t)/\∃c t,W.heap[q.block]?=ob c t:=by
 have⟨a,d,_,_,u,v,s,td,l,n,_,_,_,_,_,_,f,k,rd⟩:=laid_sentinels2 h i t1 g t2 underlying36 E3 underlying407 underlying431 rfl rfl underlying9 l9 wo;exact⟨a,d,by simpa using World.var?_cell i l 0,by simpa using World.var?_cell g n 0,f,⟨_,_,k⟩,_,_,rd⟩
def HF{p q:Addr}(a:W.cell? ⟨i,0,none⟩=some (.iface 407 (.pointer (some p))))(b:W.cell? ⟨i,0,none⟩=some (.iface 407 (.pointer (some q)))):p=q:=by have:=a.symm.tr b;simpa using this
def mz(x:List UInt8):DataW Unit:=.iface "*errors.errorString" (.ptr (.agg [.lit (.string x)]))
def EI{a:String}{x:List UInt8}(g:laidMet Tryz.prog [("purser/ledger.ErrLittle",mz xl),(a,mz x)] W)(d:laidMet Tryz.prog [(a,mz x),("purser/machine.ErrDeep",mz xd)] W)(c:Tryz.prog.globalNamed a=some i)(gt:(Tryz.prog.globals[i]?).map (·.type)=some 36)(l:W.cell? ⟨3,0,none⟩=some (.iface 407 (.pointer (some li))))(k:W.cell? ⟨0,0,none⟩=some (.iface 407 (.pointer (some dp)))):∃e,W.cell? ⟨i,0,none⟩=some (.iface 407 (.pointer (some e)))/\ @Eo ⟨W.heap.size,W.heap.size,aAz _⟩ W dp li e:=by
 have⟨p,e,j,c2,m,_,b⟩:=HD g P0 Py c gt;have⟨n,o,c3,c4,f,_,_⟩:=HD d c gt Pz Pw;obtain rfl:=HF l j;obtain rfl:=HF k c4;obtain rfl:=HF c2 c3;have lt:e.block<W.heap.size:=by obtain⟨_,_,h⟩:=b;exact(aAu.1 h).1
 exact⟨e,c2,lt,f,fun h=>m h.symm,b⟩
def Km(r:laidMet Tryz.prog [("purser/ledger.ErrLittle",mz xl),("purser/machine.ErrDeep",mz xd)] W)(h:∀q∈[("purser/machine.ErrNoGas",1),("purser/machine.ErrLongCode",2),("purser/machine.ErrNoInstruction",5),("purser/machine.ErrFewWords",6),("purser/machine.ErrManyWords",7),("purser/machine.ErrNoMark",10)],∃x,laidMet Tryz.prog [("purser/ledger.ErrLittle",mz xl),(q.1,mz x)] W/\laidMet Tryz.prog [(q.1,mz x),("purser/machine.ErrDeep",mz xd)] W)(i:W.cell? ⟨4,0,none⟩=some (.iface 355 (.agg #[pq 11 36]))):∃dp li, @Ge ⟨W.heap.size,W.heap.size,aAz _⟩ W dp li:=by
 have⟨li,dp,a,c2,B,m,l⟩:=HD r P0 Py Pz Pw;have lt:∀{b:Nat},(∃c t,W.heap[b]?=ob c t)->b<W.heap.size:=fun⟨_,_,h⟩=>(aAu.1 h).1;have⟨H,z,w⟩:=h ("purser/machine.ErrNoGas",1) sI;have⟨E,p2,C⟩:=h ("purser/machine.ErrLongCode",2) sI;have⟨F,n,y⟩:=h ("purser/machine.ErrNoInstruction",5) sI;have⟨G,p,v⟩:=h ("purser/machine.ErrFewWords",6) sI;have⟨D,s,o⟩:=h ("purser/machine.ErrManyWords",7) sI;have⟨A,f,j⟩:=h ("purser/machine.ErrNoMark",10) sI;have d:=EI f j O0 Oz a c2;have u:10<W.heap.size:=by obtain⟨e,i,_⟩:=d;exact World.block_lt_of_cell? W ⟨10,0,none⟩ i
 letI:aB:=⟨W.heap.size,W.heap.size,aAz _⟩
 refine⟨dp,li,⟨u,lt l,lt m⟩,aAz _,c2,a,i,fun g k=>?_,l,m,B⟩;simp only[aAx,aAC,or_false] at k;rcases k with rfl|rfl|rfl|rfl|rfl|rfl
 .exact EI z w Qu Qt a c2
 .exact EI p2 C Q3 Q0 a c2
 .exact EI n y Qz Qy a c2
 .exact EI p v Q4 Q1 a c2
 .exact EI s o Q5 Q2 a c2
 .exact d
end
section
open Go.ChangeShapes Go.WideShapes Go.ChangeAt Go.Joins Go.Deep
def O1:Tryz.prog.cellsOf 39=1:=kR
def E4:Tryz.prog.cellsOf 41=4:=kR
def Ko:Tryz.prog.cellsOf 72=8:=kR
def Kr:Tryz.prog.cellsOf 52=8:=kR
def O2:Tryz.prog.cellsOf 3=1:=kR
def P1:Tryz.prog.cellsOf 9=1:=kR
def O3:Tryz.prog.cellsOf 50=1:=kR
def Ks:Tryz.prog.bytesOf 72=64:=kR
def Kt:Tryz.prog.bytesOf 52=88:=kR
def oP{x:Int}(h:(Lit.int .u64 x).wf=true):0<=x/\x<18446744073709551616:=by simp[Lit.wf,IntKind.min,IntKind.max,IntKind.signed,IntKind.bits] at h;omega
def Ku(h:l.length=4):∃a b c d,l=[a,b,c,d]:=by
 match l,h with
 | [a,b,c,d],_=>exact⟨a,b,c,d,rfl⟩
def Kv(h:l.length=1):∃a,l=[a]:=by
 match l,h with
 | [a],_=>exact⟨a,rfl⟩
def nF{H:Type}{a:Fh×vZ->H}{base:Nat}{x:DataW H×List MemPlace}(o:cs.length=4)(h:DataW.trod a Tryz.prog w base spare held fuel 41 cs=some x):∃n:Nat,n<M/\cs=[.int .u64 (aI n 0),.int .u64 (aI n 1),.int .u64 (aI n 2),.int .u64 (aI n 3)]:=by obtain⟨v0,v1,v,s,rfl⟩:=Ku o;have⟨z,t,A,u,m,y,j,l,i,h3⟩:=trod_array4 underlying41 O1 h;have⟨g,b,_,d⟩:=DataW.trod_int underlying39 j;have⟨r,e,_,w1⟩:=DataW.trod_int underlying39 l;have⟨p,c,_,w2⟩:=DataW.trod_int underlying39 i;have⟨k,f,_,w3⟩:=DataW.trod_int underlying39 h3;simp at b e c f;subst b e c f;obtain⟨n,q,rfl,rfl,rfl,rfl⟩:=IS g r p k (oP d).1 (oP w1).1 (oP w2).1 (oP w3).1 (oP d).2 (oP w1).2 (oP w2).2 (oP w3).2;exact⟨n,q,rfl⟩
def PZ{H:Type}{a:Fh×vZ->H}{base:Nat}{x:DataW H×List MemPlace}(h:DataW.trod a Tryz.prog w base spare held fuel 72 cs=some x):∃p:Nat×Nat,p.1<M/\p.2<M/\cs=bX p:=by have⟨e,n,_,_,l,b,f⟩:=DataW.trod_struct underlying72 h;rw[Ko] at l;have c:DataW.trod a prog w base spare held n 41 ((cs.drop 0).take (prog.cellsOf 41))=e[0]?:=f 0 _ rfl;have d:DataW.trod a prog w base spare held n 41 ((cs.drop 4).take (prog.cellsOf 41))=e[1]?:=f 1 _ rfl;rw[E4] at c d;rw[aCE] at c;replace b:e.length=2:=b;rw[aAG oM] at c d;have⟨k,j,i⟩:=nF sQ0 c;have⟨v,m,g⟩:=nF sQ0 d;refine⟨(k,v),j,m,?_⟩;have:=aBA 4 cs;rw[aBP sQ0] at g;rw[<-this,i,g];rfl
structure Kw{H:Type}(w:WR)(cs:K3)(D:DataW H)(p:bF×SV):Prop where
 cs:cs=aV p.1 p.2
 bal:p.1.bal<M
 key:∀q∈p.1.bE,q.1<M/\q.2<M
 sl:p.2.n=p.1.bE.length/\(p.1.bE=[]\/∃bs os,p.2.a=some ⟨bs,os,none⟩/\fO w bs os p.1.bE)
 wt:(∀n∈D.weights Tryz.prog 52,n<=reachBytes)->p.1.bE.length*64<=reachBytes
def uX{base:Nat}{n:Nat}(h:w.cells? base a n=some l):l.length=n/\∀j v,l[j]?=some v->w.cell? (a.add j)=some v:=by
 unfold World.cells? at h;split at h
 .have c:=mapM_some_length h;refine⟨by simpa using c,fun j v d=>?_⟩;have b:j<n:=by have:=(aAO.1 d).1;simp at c;omega
  have:=mapM_some_get h j j (by simp[b]);rw[this,d]
 .cases h
def EJ{v:vZ}(h:w.cell? a=some v):a=⟨a.block,a.off,none⟩:=by
 obtain⟨b,o,s⟩:=a;cases s with
 |none=>rfl
 |some s=>
  unfold World.cell? at h;split at h
  .simp at h
  .cases h
def QA{H:Type}{y:Fh×vZ->H}{base:Nat}{v:vZ}{x:DataW H×List MemPlace}(h:DataW.trod y Tryz.prog w base (fun _=>true) held fuel 50 [v]=some x):
  ∃(s:SV) (e:List (Nat×Nat)),v=.slice s.a s.n s.c/\s.n=e.length/\(∀q∈e,q.1<M/\q.2<M)/\(e=[]\/∃A B,s.a=some ⟨A,B,none⟩/\fO w A B e)/\((∀n∈x.1.weights Tryz.prog 50,n<=reachBytes)->e.length*64<=reachBytes):=by
 rcases open_slice underlying50 h with⟨b,rfl⟩| ⟨a,len,cap,m,n,D,R,b,_,N,_,O,rfl,g⟩
 .simp only[aBX,and_true] at b;exact⟨⟨none,0,0⟩,[],b,rfl,fun q c=>(by cases c),.inl rfl,fun _=>sI⟩
 .simp only[aBX,and_true] at b;simp only[if_true] at O;rw[Ko] at g;have o:∀i,i<len->∃p:Nat×Nat,(p.1<M/\p.2<M)/\∀j u,(bX p)[j]?=some u->w.cell? ((a.add (i*8)).add j)=some u:=fun i E=>by have⟨L,J,G⟩:=g i oM;obtain⟨p,l,t,rfl⟩:=PZ G;exact⟨p,⟨l,t⟩,(uX J).2⟩
  have⟨f,z⟩:=choose_lt o;refine⟨⟨some a,len,cap⟩,(List.range len).map f,b,sI,fun q c=>?_,?_,fun K=>?_⟩
  .obtain⟨i,E,rfl⟩:=aAJ.1 c;exact(z i (aCF.1 E)).1
  .by_cases I:0<len
   .have F:=(z 0 I).2 0 _ rfl;have P:(a.add (0*8)).add 0=a:=by simp[Addr.add]
    rw[P] at F;have C:=EJ F;refine .inr ⟨a.block,a.off,by rw[<-C],fun i q c=>?_⟩;simp only[aBy,aAU] at c;obtain⟨S,r,rfl⟩:=c;have⟨d,k⟩:=aAO.1 r;simp only[aCI] at d;simp only[List.getElem_range] at k;subst k;intro j u Q;have:=(z i d).2 j u Q;rw[add_add,C,Addr.add_mid,<-aBY] at this;exact this
   .exact .inl (by rw[show len=0 by omega];rfl)
  .have:=K ((((List.range len).map D).length+((List.range (m - len)).map fun j=>D (len+j)).length)*prog.bytesOf 72) (by simp[DataW.weights,underlying50]);rw[Ks] at this;simp only[aBB,aCI] at this⊢;omega
def mg{H:Type}{a:Fh×vZ->H}{base:Nat}{x:DataW H×List MemPlace}(h:DataW.trod a Tryz.prog w base (fun _=>true) held fuel 52 cs=some x):∃p,Kw w cs x.1 p:=by
 have⟨c,n,_,C,A,b,e⟩:=DataW.trod_struct underlying52 h;rw[Kr] at A;have g:DataW.trod a prog w base (fun _=>true) held n 3 ((cs.drop 0).take (prog.cellsOf 3))=c[0]?:=e 0 _ rfl;have j:DataW.trod a prog w base (fun _=>true) held n 41 ((cs.drop 1).take (prog.cellsOf 41))=c[1]?:=e 1 _ rfl;have f:DataW.trod a prog w base (fun _=>true) held n 3 ((cs.drop 5).take (prog.cellsOf 3))=c[2]?:=e 2 _ rfl;have h3:DataW.trod a prog w base (fun _=>true) held n 9 ((cs.drop 6).take (prog.cellsOf 9))=c[3]?:=e 3 _ rfl;have h4:DataW.trod a prog w base (fun _=>true) held n 50 ((cs.drop 7).take (prog.cellsOf 50))=c[4]?:=e 4 _ rfl;rw[O2,aCE] at g;rw[E4] at j;rw[O2] at f;rw[P1] at h3;rw[O3] at h4;replace b:c.length=5:=b;match c,b with
 | [K,G,L,I,J],_=>
 simp only[aAP,aBb] at g j f h3 h4;have⟨y,q,_,_⟩:=DataW.trod_int underlying3 g;have⟨k,u,D⟩:=nF sQ0 j;have⟨t,v,_,_⟩:=DataW.trod_int underlying3 f;have⟨s,E,_,_⟩:=DataW.trod_string underlying9 h3;have⟨v4,o⟩:=Kv (l:=(cs.drop 7).take 1) sQ0;rw[o] at h4;have⟨B,r,F,m,d,i,l⟩:=QA h4;refine⟨(⟨y,k,t,s,r⟩,B),?_,u,d,⟨m,i⟩,fun z=>l fun n m=>z n ?_⟩
 .have t1:=aBA 1 cs;have t2:=aBA 4 (cs.drop 1);have t3:=aBA 1 (cs.drop 5);have t4:=aBA 1 (cs.drop 6);have t5:(cs.drop 7).take 1=cs.drop 7:=aBP sQ0;simp only[List.drop_drop] at t2 t3 t4;rw[<-t1,<-t2,<-t3,<-t4,<-t5,q,D,v,E,o,F];rfl
 .rw[C];simp only[aBl,aCC,DataW.weights,underlying52];exact DataW.weights_mem_each (j:=4) (t:=50) rfl rfl n m
section
variable{H:Type}
theorem oQ{P:K5}{e:Fh}:∀{l:List (DataW H)} {d:DataW H},d∈l->∀n∈d.weights P e,n∈DataW.weightsAll P e l
 |_::_,_,.head _,n,a=>by simp only[DataW.weightsAll,aAL];exact .inl a
 |_::_,_,.tail _ h,n,a=>by simp only[DataW.weightsAll,aAL];exact .inr (oQ h n a)
end
def XS{H:Type}{z:Fh×vZ->H}{base:Nat}{len:Nat}{x:DataW H×List MemPlace}(h:DataW.trod z Tryz.prog w base (fun _=>true) held fuel 22 [.slice a0 len cap]=some x)(F:∀n∈x.1.weights Tryz.prog 22,n<=reachBytes):
  ∃ds:List (bF×SV),ds.length=len/\uE w a0 ds:=by
 rcases open_slice underlying22 h with⟨e,rfl⟩| ⟨a,E,B,m,n,D,Q,e,_,N,_,M,rfl,r⟩
 .simp only[aBX,and_true,Value.slice.injEq] at e;obtain⟨rfl,rfl,rfl⟩:=e;exact⟨[],rfl,.inl rfl,fun p b=>(by cases b),fun p b=>(by cases b),fun p b=>(by cases b),fun p b=>(by cases b),dC⟩
 .simp only[aBX,and_true,Value.slice.injEq] at e;obtain⟨rfl,rfl,rfl⟩:=e;simp only[if_true] at M;rw[Kr] at r;have v:∀i,i<len->∃p:bF×SV,∃cs,w.cells? base (a.add (i*8)) 8=some cs/\Kw w cs (D i) p:=fun i g=>by have⟨A,t,d⟩:=r i oM;have⟨p,b⟩:=mg d;exact⟨p,A,t,b⟩
  have K:Inhabited (bF×SV):=⟨(⟨0,0,0,ByteArray.empty,[]⟩,⟨none,0,0⟩)⟩;have⟨f,k⟩:=choose_lt v;have o:=F ((((List.range len).map D).length+((List.range (m - len)).map fun j=>D (len+j)).length)*prog.bytesOf 52) (by simp[DataW.weights,underlying22]);rw[Kt] at o;simp only[aBB,aCI,reachBytes] at o;have c:∀p∈(List.range len).map f,∃i,i<len/\p=f i:=fun p b=>by obtain⟨i,g,rfl⟩:=aAJ.1 b;exact⟨i,aCF.1 g,rfl⟩
  refine⟨(List.range len).map f,sI,?_,fun p b=>?_,fun p b=>?_,fun p b=>?_,fun p b=>?_,by simp;omega⟩
  .by_cases J:0<len
   .have⟨cs,t,d⟩:=k 0 J;have I:=(uX t).2 0 _ (by rw[d.cs];rfl);have O:(a.add (0*8)).add 0=a:=by simp[Addr.add]
    rw[O] at I;have G:=EJ I;refine .inr ⟨a.block,a.off,by rw[<-G],fun i q C=>?_⟩;simp only[aBy,aAU] at C;obtain⟨R,y,rfl⟩:=C;have⟨l,s⟩:=aAO.1 y;simp only[aCI] at l;simp only[List.getElem_range] at s;subst s;intro j u P;have⟨cs,t,d⟩:=k i l;have:=(uX t).2 j u (by rw[d.cs];exact P);rw[add_add,G,Addr.add_mid,<-aBY] at this;exact this
   .exact .inl (by rw[show len=0 by omega];rfl)
  .obtain⟨i,g,rfl⟩:=c p b;have⟨cs,_,d⟩:=k i g;exact d.sl
  .obtain⟨i,g,rfl⟩:=c p b;have⟨cs,_,d⟩:=k i g;exact d.bal
  .obtain⟨i,g,rfl⟩:=c p b;have⟨cs,_,d⟩:=k i g;have:=d.wt fun n L=>F n (by simp only[DataW.weights,underlying22,aAx,aAL];exact .inr (.inl (oQ (aAI (aCF.2 g)) n L)))
   simp only[reachBytes] at this;omega
  .obtain⟨i,g,rfl⟩:=c p b;have⟨cs,_,d⟩:=k i g;exact d.key
def Q6:sameLayout Tryz.prog Tryz.prog.depth 4 52=false:=kR
def Kx(d count off n:Nat):liesAt Tryz.prog d 4 count off 52 n=false:=by
 cases d with
 |zero=>rfl
 |succ d=>
  have a:∀k,rowAt prog (sameLayout prog prog.depth · 52) k 4 count off n=false:=by
   intro k;cases k with
   |zero=>rfl
   |succ k=>simp[rowAt,Q6,underlying4]
  simp[liesAt,a,underlying52]
def XT{base:Nat}(c:Value.okWide Tryz.prog w .any base 22 (.slice a0 ds.length cap))(l:uE w a0 ds):E0 w a0 ds.length:=by
 rcases l.acc with rfl| ⟨b,o,rfl,k⟩
 .exact .inl rfl
 .by_cases i:ds.length=0
  .exact .inl i
  .obtain⟨q,j⟩:∃q,ds[ds.length - 1]?=some q:=⟨_,aAG oM⟩;have g:=k _ q j 7 _ rfl;have m:w.has prog .any base ⟨b,o,none⟩ 52 cap:=by simp only[Value.okWide,underlying22,Cell.okWide,Cell.ok] at c;exact c.2.2
   obtain⟨_,_,row,cells,a,h⟩:=m;unfold World.shape? at a;split at a
   .rename_i X e f d;simp only[aAF,aCL] at a;obtain⟨rfl,rfl⟩:=a;refine .inr ⟨b,o,X,e,f,rfl,d,?_,?_⟩
    .rintro rfl;rw[Kx] at h;cases h
    .have:o+(ds.length - 1)*8+7<X.size:=by simp only[World.cell?,d] at g;exact(aAu.1 g).1
     omega
   .cases a
def QB{H:Type}{a:Fh×vZ->H}{base:Nat}{cs:Ff}{d:DataW H}{p:List MemPlace}(h:DataW.Trod a Tryz.prog w base (fun _=>true) held 43 (.agg cs) d p):∃o:Od,o.val<M/\cs=o.cs:=by
 obtain⟨fuel,h⟩:=h;have⟨b,n,_,hx,u,e,c⟩:=DataW.trod_struct underlying43 h;have f:prog.cellsOf 43=11:=kR
 rw[f] at u;generalize v:(Value.cells (.agg cs)).toList=l at u c h;have j:DataW.trod a prog w base (fun _=>true) held n 3 ((l.drop 0).take (prog.cellsOf 3))=b[0]?:=c 0 _ rfl;have m:DataW.trod a prog w base (fun _=>true) held n 3 ((l.drop 1).take (prog.cellsOf 3))=b[1]?:=c 1 _ rfl;have g:DataW.trod a prog w base (fun _=>true) held n 3 ((l.drop 2).take (prog.cellsOf 3))=b[2]?:=c 2 _ rfl;have h3:DataW.trod a prog w base (fun _=>true) held n 41 ((l.drop 3).take (prog.cellsOf 41))=b[3]?:=c 3 _ rfl;have h4:DataW.trod a prog w base (fun _=>true) held n 3 ((l.drop 7).take (prog.cellsOf 3))=b[4]?:=c 4 _ rfl;have r:DataW.trod a prog w base (fun _=>true) held n 3 ((l.drop 8).take (prog.cellsOf 3))=b[5]?:=c 5 _ rfl;have y:DataW.trod a prog w base (fun _=>true) held n 9 ((l.drop 9).take (prog.cellsOf 9))=b[6]?:=c 6 _ rfl;have q:DataW.trod a prog w base (fun _=>true) held n 3 ((l.drop 10).take (prog.cellsOf 3))=b[7]?:=c 7 _ rfl;rw[O2] at j m g h4 r q;rw[E4] at h3;rw[P1] at y;replace e:b.length=8:=e;match b,e with
 | [y0,V,y2,W,y4,Y,Z,S],_=>
 simp only[aAP,aBb] at j m g h3 h4 r y q;have⟨k,K,G⟩:=nF sQ0 h3;match l,u with
 | [v0,v1,v2,T,v4,v5,v6,X,v8,U,v10],_=>
 have⟨O,A,_,_⟩:=DataW.trod_int underlying3 j;have⟨Q,F,_,_⟩:=DataW.trod_int underlying3 m;have⟨J,E,_,_⟩:=DataW.trod_int underlying3 g;have⟨P,I,_,_⟩:=DataW.trod_int underlying3 h4;have⟨L,B,_,_⟩:=DataW.trod_int underlying3 r;have⟨s,D,_,_⟩:=DataW.trod_string underlying9 y;have⟨N,C,_,_⟩:=DataW.trod_int underlying3 q;simp only[aCX,aCE,List.take_succ_cons,List.take_zero,aBX,and_true] at A F E G I B D C;obtain⟨i,x,z,t⟩:=G;subst A F E i x z t I B D C;refine⟨⟨O,Q,J,k,P,L,s,N⟩,K,?_⟩;have R:cs.toList=_:=v;rw[<-Array.toArray_toList (xs:=cs),R];rfl
end
end Go.Mark
