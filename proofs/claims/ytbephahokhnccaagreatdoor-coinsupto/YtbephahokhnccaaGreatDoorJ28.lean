import Derived.Conc.WgGenN3
import Derived.Test.YtbephahokhnccaaGreatDoorJ27
set_option linter.all false
set_option maxHeartbeats 1600000
namespace Go.Phase
variable{es:aA}{gs:Array K2}{a a' g:K2}{st sm st' sm':Int}{Low f0 j d0 k J B0 f' q s m:Nat}{Lw:Nat->Nat}{Bo:Nat->Option Nat}{sl:Option (Nat×Nat)}{t t0:Trace}{w0 w w':WR}{c:iF}
section
open Go.Conc Go.Lift
open Go.ConcN (WgLive PayAt Has AtR0 AtK1 WSit RW CTag CT RelBy WD upd upd_same upd_ne Vc Ssum Fsum phi pend cnt sumTo OpenSt isW3 Vc_upd Vc_le le_sumTo)
open Go.ConcR (KK wgBlock WgAt stA smA rd wr mk Payload Bk g_of_ofEvents)
variable [Payload]
def DW{D:Nat->WD}(h:OpenSt J D):OpenSt J (upd D k ⟨1,q,1⟩):=fun a b=>by
 by_cases e:a=k
 .subst e;rw[upd_same];exact .inr (.inr (.inr rfl))
 .rw[upd_ne D _ e];exact h a b
def zU{D:Nat->WD}(a:k<J)(b:cnt (D k)=1):Vc J (upd D k ⟨1,q,1⟩)+1=Vc J D:=by have:=Vc_upd D (⟨1,q,1⟩:WD) a;have:cnt (⟨1,q,1⟩:WD)=0:=rfl;omega
def jg{D:Nat->WD}(d:k<J)(h:cnt (D k)=1)(g:Vc J D=1)(f:OpenSt J D):∀a,a<J->a≠k->(D a).stage=1:=fun a c e=>by have b:=Go.ConcN.others_uncounted d g h a c e;have:=f a c;simp only[cnt] at b;split at b<;>omega
def uQ{D:Nat->WD}{tag:CTag}(b:isW3 tag)(c:k<J)(g:s=4\/s=3\/s=2)(d:∀a,a<J->a≠k->(D a).stage=1):Go.ConcN.Mode J (upd D k ⟨s,m,1⟩) tag (if s=2 then 0 else 1) 0:=by have:=Go.ConcN.Mode.last (j:=J) (D:=upd D k ⟨s,m,1⟩) (tag:=tag) k b c (by rw[upd_same];exact g) (fun a f e=>by rw[upd_ne D _ e];exact d a f e);rwa[upd_same] at this
def WZ{D:Nat->WD}{RB:Nat->Nat->Prop}{tag:CTag}(G:Geo c)(hn:c.o+c.n<2147483647)(ha:gs[0]?=some a)(aa:CX c Low tag j f0 d0 a w)(F:Com c w0 t0 Low j gs w t D Lw Bo RB d0)(l:WgAt c.ty c.Wg w st sm)(p:Go.ConcN.Mode (c.o+j) D tag st sm){i:Nat}(hi:i<j)(hg:gs[c.o+i+1]?=some g)(R:g.status=.running){b:Nat}(a9:Bo i=some b){v:vZ}{Y:Nat}(M:(D (c.o+i)).stage=s)(b1:(D (c.o+i)).fuel=m)(ac:(D (c.o+i)).deaf=Y)(h6:s<=6)(hs:WSit c.P c.ty c.Wg c.C c.n (fun _ _=>False) (fun _ _=>False) 0 (i+1) v s m Y g w)(a8:c.Out i b w):
  jZ c w0 t0 t (phi (c.o+c.n) (Vc (c.o+j) D) tag+Ssum (c.o+j) D,f0+2*Fsum (c.o+j) D) (runT c.P (crowd gs w sl) (c.o+i+1)):=by
 have O:c.o+i<c.o+j:=oM
 have b2:=aa.bound;have b4:=Vc_le (c.o+j) D;have ad:Deaf t (c.o+i+1)=Y:=by rw[F.deafW _ O,ac]
 have U:∀{A:K2} {w':WR} {es:aA} {Q E B:Nat} {st' sm':Int},stepG c.P false g w=.go A w' es->Aside c.Wg w w'->WgAt c.ty c.Wg w' st' sm'->(∀e∈es,Bk c.Wg e)->
   (∀z e,es[z]?=some e->(MemAct.ofEvent e).touch?=none\/0<deafBehind Y (es.extract 0 z))->WSit c.P c.ty c.Wg c.C c.n (fun _ _=>False) (fun _ _=>False) 0 (i+1) v Q E B A w'->Q<=6->deafBehind Y es=B->
   (∀C,(C=tag\/(tag=.blk/\C=.w3))->(mayWake c.P g=true->A.status=.running->C≠.blk)->Go.ConcN.Mode (c.o+j) (upd D (c.o+i) ⟨Q,E,B⟩) C st' sm')->((Q<s/\cnt ⟨Q,E,B⟩<=cnt (D (c.o+i)))\/(Q=s/\E+1=m))->
   jZ c w0 t0 t (phi (c.o+c.n) (Vc (c.o+j) D) tag+Ssum (c.o+j) D,f0+2*Fsum (c.o+j) D) (runT c.P (crowd gs w sl) (c.o+i+1)):=by
  intro A w' es Q E B st' sm' f hA J a0 hd T a2 a6 Z a4;have⟨t1,t2,t3,t4,t5⟩:=RU G F hA ⟨_,_,J⟩;refine iL (Bo':=Bo) (x:=⟨Q,E,B⟩) G ha aa O hg f t1 (F.stepW G hi t2 t3 (fun i' h1 _=>t4 i' h1) ?_ (fun _ _=>rfl) (fun _ h=>h) (fun b' hb=>⟨.inl hb,(F.bs i b' hb).2.1,t2.ym b' (F.bs i b' hb).2.2⟩) (fun e o=>.inr (.inr (.inl (a0 e o)))) ?_ (fun _=>?_) t5 ⟨_,_,J⟩) J Z ?_
  .rw[a9];exact .c (v:=v) a2 T (G.out i b w w' ((t4 i hi).mine b a9) (t4 i hi).cell a8)
  .rw[ac];exact a6
  .have⟨r,hr⟩:=F.rel i hi oM;exact⟨r,hr.book ad _ _ a0 hd⟩
  .rw[M,b1];rcases a4 with h| ⟨h1,X⟩
   .exact .inl h
   .exact .inr ⟨h1,by simp only;omega⟩
 have y:∀{A:K2} {w':WR} {es:aA} {Q E B:Nat} {st' sm':Int},stepG c.P false g w=.go A w' es->Aside c.Wg w w'->WgAt c.ty c.Wg w' st' sm'->(∀e∈es,Bk c.Wg e)->
   (∀z e,es[z]?=some e->(MemAct.ofEvent e).touch?=none\/0<deafBehind Y (es.extract 0 z))->WSit c.P c.ty c.Wg c.C c.n (fun _ _=>False) (fun _ _=>False) 0 (i+1) v Q E B A w'->Q<=6->deafBehind Y es=B->
   Go.ConcN.Mode (c.o+j) (upd D (c.o+i) ⟨Q,E,B⟩) tag st' sm'->((Q<s/\cnt ⟨Q,E,B⟩<=cnt (D (c.o+i)))\/(Q=s/\E+1=m))->
   jZ c w0 t0 t (phi (c.o+c.n) (Vc (c.o+j) D) tag+Ssum (c.o+j) D,f0+2*Fsum (c.o+j) D) (runT c.P (crowd gs w sl) (c.o+i+1)):=
  fun f hA J a0 hd T a2 a6 hm a4=>U f hA J a0 hd T a2 a6 (fun _ ht _=>hm.retag ht) a4
 have N:∀{A:K2} {E:Nat},stepG c.P false g w=.go A w #[]->WSit c.P c.ty c.Wg c.C c.n (fun _ _=>False) (fun _ _=>False) 0 (i+1) v s E Y A w->E+1=m->
   jZ c w0 t0 t (phi (c.o+c.n) (Vc (c.o+j) D) tag+Ssum (c.o+j) D,f0+2*Fsum (c.o+j) D) (runT c.P (crowd gs w sl) (c.o+i+1)):=by
  intro A E f T hm;refine y f (.refl c.Wg w) l sI sI T h6 rfl ?_ (.inr ⟨rfl,hm⟩);have:=p.same (i:=c.o+i) E Y;rwa[M] at this
 have one:∀{e0:Event} {d:Nat} {z:Nat} {e:Event},(#[e0]:aA)[z]?=some e->0<d->(MemAct.ofEvent e).touch?=none\/0<deafBehind d ((#[e0]:aA).extract 0 z):=by
  intro e0 d z e o hd;match z,o with
  |0,_=>exact .inr (by simpa[deafBehind] using hd)
  |z+1,o=>simp at o
 cases hs with
 |r0 h=>omega
 |k1 h=>
  rcases Goes.cases h with n| ⟨E,rfl,k⟩
  .have⟨_,A,f,H,P⟩:=n w (RW.refl w);refine y f (.refl c.Wg w) l (by intro e o;simp at o;subst o;exact .inl rfl) ?_ (.d1 P) oM rfl (p.counted O oM (.inr rfl) _ _) (.inl ⟨oM,by simp[cnt,M]⟩);intro z e o;have:=aBu o;simp at this;subst this;exact .inl rfl
  .obtain⟨A,w',es,f,⟨rfl,rfl⟩,I⟩:=k w (RW.refl w);exact N f (.k1 I) rfl
 |d1 h=>
  rcases Goes.cases h with n| ⟨E,rfl,k⟩
  .have⟨_,a1⟩:=n w (RW.refl w);have a7:cnt (D (c.o+i))=1:=by simp[cnt,M]
   have b3:1<=Vc (c.o+j) D:=by have:=le_sumTo (f:=fun x=>cnt (D x)) O;simp only[Vc];omega
   have bk2:∀e∈#[rd (stA c.Wg),wr (stA c.Wg)],Bk c.Wg e:=Go.ConcN.bk_rw;have a5:∀z e,(#[rd (stA c.Wg),wr (stA c.Wg)]:aA)[z]?=some e->(MemAct.ofEvent e).touch?=none\/0<deafBehind 1 ((#[rd (stA c.Wg),wr (stA c.Wg)]:aA).extract 0 z):=by
    intro z e o;match z,o with
    |0,_=>exact .inr (by simp[deafBehind])
    |1,_=>exact .inr (by simp[deafBehind,rd])
    |z+2,o=>simp at o
   cases p with
   |opn h1 X h3=>
    obtain⟨u,hu⟩:∃u,Vc (c.o+j) D+pend tag=u+1:=⟨Vc (c.o+j) D+pend tag - 1,oM⟩;rw[hu] at l;have⟨A,f,_,S⟩:=a1 u 0 oM oM (by simpa using l);have⟨q,S⟩:=S oM;have hd:=zU (q:=q) O a7;refine y f (aside_setCell w (stA c.Wg) _) (l.setSt _) bk2 a5 (.quit S) oM rfl ?_ (.inl ⟨oM,by simp[cnt]⟩);have e:((u:Nat):Int)*KK+((0:Nat):Int)=((Vc (c.o+j) (upd D (c.o+i) ⟨1,q,1⟩)+pend tag:Nat):Int)*KK:=by rw[show Vc (c.o+j) (upd D (c.o+i) ⟨1,q,1⟩)+pend tag=u by omega];simp
    rw[e];exact .opn h1 (DW X) (fun vs ev=>by have:=h3 vs ev;omega)
   |reg h1 X h3=>
    obtain⟨u,hu⟩:∃u,Vc (c.o+j) D=u+1:=⟨Vc (c.o+j) D - 1,oM⟩;rw[hu] at l;have⟨A,f,hl,S⟩:=a1 u 1 oM oM (by simpa using l);by_cases ar:u=0
    .subst ar;have⟨H,P⟩:=hl ⟨rfl,rfl⟩;refine y f (aside_setCell w (stA c.Wg) _) (l.setSt _) bk2 a5 (.d2 P) oM rfl ?_ (.inl ⟨oM,by simp[cnt]⟩);simpa using uQ (s:=4) (m:=H) h1 O oM (jg O a7 oM X)
    .have⟨q,S⟩:=S oM;have hd:=zU (q:=q) O a7;refine y f (aside_setCell w (stA c.Wg) _) (l.setSt _) bk2 a5 (.quit S) oM rfl ?_ (.inl ⟨oM,by simp[cnt]⟩);have e:((u:Nat):Int)*KK+((1:Nat):Int)=((Vc (c.o+j) (upd D (c.o+i) ⟨1,q,1⟩):Nat):Int)*KK+1:=by rw[show Vc (c.o+j) (upd D (c.o+i) ⟨1,q,1⟩)=u by omega];simp
     rw[e];exact .reg h1 (DW X) oM
   |last L _ X h3 h4=>
    by_cases e:c.o+i=L
    .subst e;omega
    .have:=h4 _ O e;omega
   |sema X=>have:=X _ O;omega
   |fin _ X=>have:=X _ O;omega
  .obtain⟨A,w',es,f,⟨rfl,rfl⟩,I⟩:=k w (RW.refl w);exact N f (.d1 I) rfl
 |d2 h=>
  rcases Goes.cases h with n| ⟨E,rfl,k⟩
  .have⟨_,hx⟩:=n w (RW.refl w);obtain⟨V,K,rfl,rfl⟩:=p.isLast O oM;simp only[M] at l;have⟨A,f,H,P⟩:=hx (by simpa using l);refine y f (.refl c.Wg w) l Go.ConcN.bk_rd (fun z e o=>one o oM) (.d3 P) oM rfl ?_ (.inl ⟨oM,by simp[cnt]⟩);simpa using uQ (s:=3) (m:=H) V O oM K
  .obtain⟨A,w',es,f,⟨rfl,rfl⟩,I⟩:=k w (RW.refl w);exact N f (.d2 I) rfl
 |d3 h=>
  rcases Goes.cases h with n| ⟨E,rfl,k⟩
  .have⟨_,hx⟩:=n w (RW.refl w);obtain⟨V,K,rfl,rfl⟩:=p.isLast O oM;simp only[M] at l;have⟨A,f,H,P⟩:=hx (by simpa using l);refine y f (aside_setCell w (stA c.Wg) _) (l.setSt 0) (by intro e o;simp at o;subst o;exact Go.ConcN.bk_cell _ _ rfl) (fun z e o=>one o oM) (.d4 P) oM rfl ?_ (.inl ⟨oM,by simp[cnt]⟩);simpa using uQ (s:=2) (m:=H) V O oM K
  .obtain⟨A,w',es,f,⟨rfl,rfl⟩,I⟩:=k w (RW.refl w);exact N f (.d3 I) rfl
 |d4 h=>
  rcases Goes.cases h with n| ⟨E,rfl,k⟩
  .have⟨_,al,hx⟩:=n w (RW.refl w);obtain⟨V,K,rfl,rfl⟩:=p.isLast O oM;simp only[M] at l;have⟨A,f,q,S⟩:=hx (by simpa using l);have a3:A.status=.running:=by
    cases q with
    |zero=>exact absurd S.2 dC
    |succ q=>
     rcases S with x|x
     .exact absurd x.2 dC
     .exact x.1
   refine U f (aside_setCell w (smA c.Wg) _) (l.setSm 1) Go.ConcN.bk_sem ?_ (.quit S) oM (by simp[deafBehind,semEvents]) ?_ (.inl ⟨oM,by simp[cnt]⟩)
   .intro z e o;match z,o with
    |0,o=>simp[semEvents] at o;subst o;exact .inl rfl
    |1,_=>exact .inr (by simp[deafBehind,semEvents])
    |2,_=>exact .inr (by simp[deafBehind,semEvents])
    |3,o=>simp[semEvents] at o;subst o;exact .inl rfl
    |z+4,o=>simp[semEvents] at o
   .intro C ht hw;have b0:=hw al a3;have e3:C=.w3:=by
     rcases ht with rfl| ⟨_,rfl⟩
     .cases C<;>first|rfl|exact V.elim|exact absurd rfl b0
     .rfl
    subst e3;simp only[if_true];refine .sema fun a ha=>?_;by_cases e:a=c.o+i
    .subst e;rw[upd_same]
    .rw[upd_ne D _ e];exact K a ha e
  .obtain⟨A,w',es,f,⟨rfl,rfl⟩,I⟩:=k w (RW.refl w);exact N f (.d4 I) rfl
 |quit h=>
  cases m with
  |zero=>rw[h.1] at R;cases R
  |succ q=>
   rcases h with⟨hf,_⟩| ⟨_,A,es,W,k,S⟩
   .rw[hf] at R;cases R
   .refine y (k w) (.refl c.Wg w) l (fun e o=>Go.ConcR.bk_of_mute (W e o)) (fun z e o=>.inl (touch_mute (W e (aBu o)))) (.quit S) oM rfl ?_ (.inr ⟨rfl,rfl⟩);have:=p.same (i:=c.o+i) q (deafBehind Y es);rwa[M] at this
def KQ{D:Nat->WD}{RB:Nat->Nat->Prop}{tag:CTag}(G:Geo c)(E:c.o+c.n<2147483647)(z:gs[0]?=some a)(l:CX c Low tag j f0 d0 a w)(d:Com c w0 t0 Low j gs w t D Lw Bo RB d0)(n:WgAt c.ty c.Wg w st sm)(e:Go.ConcN.Mode (c.o+j) D tag st sm)(v:gs[k+1]?=some g)(o:g.status=.running):
  jZ c w0 t0 t (phi (c.o+c.n) (Vc (c.o+j) D) tag+Ssum (c.o+j) D,f0+2*Fsum (c.o+j) D) (runT c.P (crowd gs w sl) (k+1)):=by
 have A:k+1<gs.size:=(aAu.1 v).1;rw[d.size] at A;by_cases B:k<c.o
 .exact jd G z l d n e B v o
 .obtain⟨i,rfl⟩:∃i,k=c.o+i:=⟨k - c.o,oM⟩;have⟨C,f,x⟩:=d.wk i oM;rw[v] at f;cases f;generalize q:(D (c.o+i)).stage=s at x;generalize u:(D (c.o+i)).fuel=m at x;generalize r:(D (c.o+i)).deaf=H at x;generalize p:Bo i=I at x;cases x with
  |a h=>exact zT G z l d n e oM v q (by rw[p,u,r];exact .a h)
  |b h=>exact zT G z l d n e oM v q (by rw[p,u,r];exact .b h)
  |c F h y=>exact WZ G E z l d n e oM v o p q u r F h y
end
section
open Go.Conc Go.Lift
open Go.ConcN (WgLive PayAt Has AtR0 AtK1 WSit RW CTag CT RelBy WD upd upd_same upd_ne Vc Ssum Fsum phi pend cnt sumTo sumTo_upd_out OpenSt AllQuit isW3 isOpen Vc_upd Vc_le le_sumTo ShN)
open Go.ConcR (KK wgBlock WgAt stA smA rd wr mk Payload Bk g_of_ofEvents)
variable [Payload]
structure Done (c:iF) (w0:WR) (a:K2) (w:WR):Prop where
 Qi:c.Then a w
 out:∀i,i<c.n->∃b,c.base<=b/\jN c w b/\c.Out i b w
 pay:PayAt c.C c.n w
 wg:WgAt c.ty c.Wg w 0 0
 frame:∀b,b<c.base->w.heap[b]?=w0.heap[b]?
 tidy:Tidy c w
 os:w.os=w0.os/\w.output=w0.output
 low:c.base<=w.heap.size/\c.Wg<w.heap.size/\c.C<w.heap.size
def mH(c:iF)(l:Loc):Prop:=c.Shun l\/ShN c.Wg l
def RV(c:iF)(w0:WR)(m:Machine)(t:Trace):Prop:=∃a w,Done c w0 a w/\fB c.P (mH c) w.heap.size (c.o+c.n+1) a w m t
def Ends(c:iF)(w0:WR)(t:Trace)(s:Stepped×Array MemOp):Prop:=∃a b,s=(.next a,b)/\RV c w0 a (t++b)
def KR{D:Nat->WD}{RB:Nat->Nat->Prop}{tag b:CTag}(k:Com c w0 t0 Low j gs w t D Lw Bo RB d0)(n:gs[0]?=some a)(m:stepG c.P true a w=.go a' w' es)(e:Com c w0 t0 Low j ((gs.map (woken c.P a a' w')).setIfInBounds 0 a') w' (t++MemOp.ofEvents 0 a.frame.fn a.frame.place es) D Lw Bo RB (deafBehind d0 es))(i:CX c Low b j f' (deafBehind d0 es) a' w')(f:WgAt c.ty c.Wg w' st' sm')(d:Go.ConcN.Mode (c.o+j) D b st' sm')(l:phi (c.o+c.n) (Vc (c.o+j) D) b<phi (c.o+c.n) (Vc (c.o+j) D) tag\/(phi (c.o+c.n) (Vc (c.o+j) D) b=phi (c.o+c.n) (Vc (c.o+j) D) tag/\f'<f0)):
  jZ c w0 t0 t (phi (c.o+c.n) (Vc (c.o+j) D) tag+Ssum (c.o+j) D,f0+2*Fsum (c.o+j) D) (runT c.P (crowd gs w sl) 0):=by
 have g:=runT_crowd_go (P:=c.P) (sl:=sl) (i:=0) n m;refine⟨_,_,(phi (c.o+c.n) (Vc (c.o+j) D) b+Ssum (c.o+j) D,f'+2*Fsum (c.o+j) D),g,?_,
  _,w',sl,Low,j,D,Lw,Bo,RB,b,f',deafBehind d0 es,a',st',sm',rfl,kU _ _ _ (by rw[k.size];omega),i,e,f,d,rfl⟩
 rcases l with h| ⟨o,p⟩
 .exact Prod.Lex.left _ _ oM
 .rw[o];exact Prod.Lex.right _ oM
def idle0{D:Nat->WD}{RB:Nat->Nat->Prop}{tag:CTag}(G:Geo c)(d:Com c w0 t0 Low j gs w t D Lw Bo RB d0)(B:gs[0]?=some a)(p:WgAt c.ty c.Wg w st sm)(k:Go.ConcN.Mode (c.o+j) D tag st sm)(o:stepG c.P true a w=.go a' w' es)(g:D0 c Low w w' es)(m:CX c Low tag j f' d0 a' w')(z:f'<f0):
  jZ c w0 t0 t (phi (c.o+c.n) (Vc (c.o+j) D) tag+Ssum (c.o+j) D,f0+2*Fsum (c.o+j) D) (runT c.P (crowd gs w sl) 0):=by
 have C:=d.lH;have l:∀b,b<Low->w'.heap[b]?=w.heap[b]?:=fun b h=>g.eT b oM (.inl h);have s:∀b,jN c w b->w'.heap[b]?=w.heap[b]?:=fun b h=>g.eT b h.lt (.inr h);have f:WgAt c.ty c.Wg w' st sm:=p.of_block (l _ d.BR);have r:PayAt c.C c.n w':=let⟨v,y,u⟩:=d.pay;⟨v,(l _ d.BS).tr y,u⟩
 have n:deafBehind d0 es=d0:=pK (fun e q=>(DV (g.ev e q)).2) d0;refine KR d B o (d.step0 G ⟨g.size,fun b h=>h.of_block (s b h),fun b h=>l b (by have:=d.GO;omega),g.tidy,g.os⟩ (fun b h _ _ h4 x=>h4 (x.of_block (l b h).symm))
  (fun i A=>⟨g.size,fun b h _ _ _=>l b (by have:=d.low i A;omega),fun b h=>s b (d.bs i b h).2.2,fun _=>⟨_,_,f⟩,fun _=>r,Go.ConcN.cell_of_block (l _ d.BS) i⟩) (fun e q=>.inl (g.ev e q)) r ⟨_,_,f⟩) (by rw[n];exact m) f k (.inr ⟨rfl,z⟩)
def book0{D:Nat->WD}{RB:Nat->Nat->Prop}{tag tag':CTag}(G:Geo c)(d:Com c w0 t0 Low j gs w t D Lw Bo RB d0)(o:gs[0]?=some a)(m:stepG c.P true a w=.go a' w' es)(n:Aside c.Wg w w')(f:WgAt c.ty c.Wg w' st' sm')(l:∀e∈es,Bk c.Wg e)(i:CX c Low tag' j f' (deafBehind d0 es) a' w')(g:Go.ConcN.Mode (c.o+j) D tag' st' sm')(k:phi (c.o+c.n) (Vc (c.o+j) D) tag'<phi (c.o+c.n) (Vc (c.o+j) D) tag\/(phi (c.o+c.n) (Vc (c.o+j) D) tag'=phi (c.o+c.n) (Vc (c.o+j) D) tag/\f'<f0)):
  jZ c w0 t0 t (phi (c.o+c.n) (Vc (c.o+j) D) tag+Ssum (c.o+j) D,f0+2*Fsum (c.o+j) D) (runT c.P (crowd gs w sl) 0):=by
 have⟨t1,t2,t3,t4,t5⟩:=RU G d n ⟨_,_,f⟩;exact KR d o m (d.step0 G t2 (fun b h=>t3 b (by have:=d.lH;omega)) t4 (fun e p=>.inr (.inl (l e p))) t5 ⟨_,_,f⟩) i f g k
def uj{D:Nat->WD}{RB:Nat->Nat->Prop}(G:Geo c){r:Nat}(P:r<c.n)(d:Com c w0 t0 Low (c.n - (r+1)) gs w t D Lw Bo RB 0)(M:gs[0]?=some a)(v:WgAt c.ty c.Wg w st sm)(o:Go.ConcN.Mode (c.o+(c.n - (r+1))) D (.sp r 2) st sm)(p:AtGo c (c.n - (r+1)) (Spawns c r) a w):
  jZ c w0 t0 t (phi (c.o+c.n) (Vc (c.o+(c.n - (r+1))) D) (.sp r 2)+Ssum (c.o+(c.n - (r+1))) D,f0+2*Fsum (c.o+(c.n - (r+1))) D) (runT c.P (crowd gs w sl) 0):=by
 have⟨_,a',l,F,_,y,m⟩:=p;have⟨z,H,C⟩:=y d.pay;obtain⟨L,rfl,rfl,_⟩:=o.open_inv trivial;have h:=runT_crowd_spawn (P:=c.P) (sl:=sl) (i:=0) M F;rw[d.size] at h;have b:=d.spawn G (a':=a') (x:={g:=0,fn:=a.frame.fn,pos:=a.frame.place,act:=.go (c.o+(c.n - (r+1))+1)}) (y:={g:=c.o+(c.n - (r+1))+1,fn:=l.frame.fn,pos:=a.frame.place,act:=.start}) ⟨rfl,rfl⟩ ⟨rfl,rfl⟩ C;generalize E:(⟨7,z+H+1,0⟩:WD)=x at b;generalize O:c.o+(c.n - (r+1))=k at*;have B:c.o+(c.n - r)=k+1:=oM
 have K:c.n - (r+1)+1=c.n - r:=oM
 rw[K] at b;have I:Vc (k+1) (upd D k x)=Vc k D+1:=by simp only[Vc,sumTo,upd_same];rw[sumTo_upd_out D x cnt lR,<-E];rfl
 have N:Ssum (k+1) (upd D k x)=Ssum k D+7:=by simp only[Ssum,sumTo,upd_same];rw[sumTo_upd_out D x WD.stage lR,<-E]
 have u:OpenSt (k+1) (upd D k x):=fun i Q=>by
  by_cases e:i=k
  .subst e;rw[upd_same,<-E];exact .inl rfl
  .rw[upd_ne D _ e];exact L i oM
 have s:((gs.setIfInBounds 0 a').push l)[0]?=some a':=by rw[aBF (by simp[d.size]),<-aAN];simp[d.size]
 have q:∀j,pend j=0->((Vc k D+pend (.sp r 2):Nat):Int)*KK=((Vc (k+1) (upd D k x)+pend j:Nat):Int)*KK:=fun j J=>by rw[I,J];simp[pend]
 cases r with
 |zero=>
  have⟨f,n⟩:=m;refine⟨_,_,(phi (c.o+c.n) (Vc (k+1) (upd D k x)) .kd+Ssum (k+1) (upd D k x),f+2*Fsum (k+1) (upd D k x)),h,Prod.Lex.left _ _ sQ6,
   _,w,sl,w.heap.size,c.n - 0,upd D k x,_,_,_,.kd,f,0,a',_,_,rfl,s,.kd n,b,v,?_,by rw[B]⟩
  rw[q .kd rfl,B];exact .opn trivial u sI
 |succ A=>
  have⟨f,n⟩:=m;refine⟨_,_,(phi (c.o+c.n) (Vc (k+1) (upd D k x)) (.sp A 5)+Ssum (k+1) (upd D k x),f+2*Fsum (k+1) (upd D k x)),h,Prod.Lex.left _ _ sQ6,
   _,w,sl,w.heap.size,c.n - (A+1),upd D k x,_,_,_,.sp A 5,f,0,a',_,_,rfl,s,.skd oM n,b,v,?_,by rw[B]⟩
  rw[q (.sp A 5) rfl,B];exact .opn trivial u sI
def RY{D:Nat->WD}{RB:Nat->Nat->Prop}(G:Geo c)(y:c.o+c.n<2147483647)(d:Com c w0 t0 Low c.n gs w t D Lw Bo RB 1)(q:gs[0]?=some a)(g:WgAt c.ty c.Wg w st sm)(b:Go.ConcN.Mode (c.o+c.n) D .w1 st sm)(h:Goes c.P true (R0 c) (D0 c Low) (AtW1 c Low) f0 a w):
  jZ c w0 t0 t (phi (c.o+c.n) (Vc (c.o+c.n) D) .w1+Ssum (c.o+c.n) D,f0+2*Fsum (c.o+c.n) D) (runT c.P (crowd gs w sl) 0):=by
 rcases Goes.cases h with j| ⟨x,rfl,i⟩
 .have⟨_,k⟩:=j w (.refl w);obtain⟨u,rfl,rfl,_⟩:=b.open_inv trivial;have z:=Vc_le (c.o+c.n) D;have⟨a',f,r,n⟩:=k (Vc (c.o+c.n) D) oM (by simpa[pend] using g);by_cases m:Vc (c.o+c.n) D=0
  .have⟨l,p⟩:=r m;refine book0 G d q f (.refl c.Wg w) g Go.ConcN.bk_rd (tag':=.ke) (.ke p) ?_ (.inl sQ6);have e:((Vc (c.o+c.n) D+pend .w1:Nat):Int)*KK=0:=by rw[m];simp[pend]
   rw[e];exact .fin trivial (Go.ConcN.allQuit_of u m)
  .have⟨l,p⟩:=n m;exact book0 G d q f (.refl c.Wg w) g Go.ConcN.bk_rd (tag':=.w2 (Vc (c.o+c.n) D)) (.w2 p) (b.reopen trivial trivial rfl (fun v e=>by cases e;omega)) (.inl sQ6)
 .have⟨a',w',es,f,s,o⟩:=i w (.refl w);exact idle0 G d q g b f s (.w1 o) oM
end
section
open Go.Conc Go.Lift
open Go.ConcN (WgLive PayAt Has AtR0 AtK1 WSit RW CTag CT RelBy WD upd upd_same upd_ne Vc Ssum Fsum phi pend cnt sumTo OpenSt AllQuit isW3 isOpen Vc_le ShN)
open Go.ConcR (KK wgBlock WgAt stA smA rd wr mk Payload Bk g_of_ofEvents)
variable [Payload]
def Dp(c:iF)(t:Trace):Prop:=∃q,t.act? q=some (.mark (.acquire (stA c.Wg)))/\t.g? q=some 0/\t.heard q/\∀i,i<c.n->∃r,RelBy (stA c.Wg) t (c.o+i+1) r/\r<q
def finish{D:Nat->WD}{RB:Nat->Nat->Prop}(J:gZ c.Shun B0 (c.o+1) t0)(d:Com c w0 t0 Low c.n gs w t D Lw Bo RB 0)(hq:AllQuit (c.o+c.n) D)(a4:WgAt c.ty c.Wg w 0 0)(ha:gs[0]?=some a)(L:c.Then a w)(hJ:Dp c t):RV c w0 (crowd gs w sl) t:=by
 have⟨q,a2,R,a3,W⟩:=hJ;have⟨zq,a0,a1⟩:=aAU.1 R;have⟨u,o,hu⟩:=d.tr;have U:∀i r,i<c.n->RelBy (stA c.Wg) t (c.o+i+1) r->r<q->HappensBefore t r q:=fun i r _ N H=>.single (.inr ⟨.marked H (.inr N.act) a2 (fun k _ _=>d.norel k),N.heard,a3⟩);have n:∀k op,t[k]?=some op->c.o<op.g->t.counts k->HappensBefore t k q:=by
  intro k op j M O;have a6:=d.ct.gs k op j;obtain⟨i,B⟩:∃i,op.g=c.o+i+1:=⟨op.g - c.o - 1,oM⟩;have⟨r,N,H⟩:=W i oM;have V:t.g? k=some (c.o+i+1):=by simp[Trace.g?,j,B]
  have a6:k<=r:=Nat.le_of_not_lt fun f=>N.after k f V O;have e:=U i r oM N H;rcases aCi k r with f|a7
  .exact .trans (.single (.inl ⟨f,_,V,N.g⟩)) e
  .obtain rfl:k=r:=oM
   exact e
 have a8:∀k,k<t0.size->t[k]?=t0[k]?:=fun k j=>by rw[o];exact getElem?_append_old j
 have split:∀k op,t[k]?=some op->(k<t0.size/\t0[k]?=some op)\/WV c w.heap.size op:=by
  intro k op j;rw[o] at j;rcases getElem?_append_cases j with⟨G,Q⟩| ⟨_,Q⟩
  .exact .inl ⟨G,Q⟩
  .exact .inr (hu op Q)
 have K:∀i x,touchAt t i=some x->x.loc.isMemory=true->Knows t 0 i\/(mH c x.loc/\x.kind=.atomic):=by
  intro i x F hm;have⟨op,E,l⟩:=touch_of F;rcases split i op E with⟨f,p⟩|C
  .rcases J.tY.known i x (by rw[touchAt_of p];exact l) hm with h| ⟨G,Q⟩
   .left;rw[o];exact h.app u
   .exact .inr ⟨.inl G,Q⟩
  .rcases C.1 with y|y|y
   .have:=knows_own E;rw[y] at this;exact .inl this
   .by_cases j:x.kind=.atomic
    .exact .inr ⟨.inr ((C.2.1 x l).2 j),j⟩
    .exact .inl ⟨q,zq,a0,a1,.inr (n i op E y ⟨x,F,hm,.inl j⟩)⟩
   .rw[y] at l;cases l
 have S:t.HandedOver:=by
  intro i g M P O;obtain⟨op,E,rfl⟩:=aAU.1 M;rcases split i op E with⟨f,p⟩|C
  .have⟨k,j,hb⟩:=J.tY.over i op.g (by simp[Trace.g?,p]) P (by rw[o] at O;exact(counts_old f).1 O);have Z:k<t0.size:=by have⟨z,hz,_⟩:=aAU.1 j;exact lt_size_of_getElem? hz
   refine⟨k,?_,?_⟩
   .rw[o,g?_old Z];exact j
   .rw[o];exact hb_app u hb
  .rcases C.1 with y|y|y
   .exact absurd y P
   .exact⟨q,R,n i op E y O⟩
   .have⟨x,F,_⟩:=O;have⟨a9,p,l⟩:=touch_of F;rw[E] at p;cases p;rw[y] at l;cases l
 refine⟨a,w,⟨L,fun i B=>?_,d.pay,a4,d.frame,d.tidy,d.os,aAw d.GO d.lH,aAy d.BR d.lH,aAy d.BS d.lH⟩,gs,sl,fun i=>(D (i - 1)).fuel,rfl,d.size,ha,⟨fun i g B M=>?_,fun k j=>?_⟩,⟨⟨d.ct.nr,K,S,d.deaf0,d.seen⟩,?_,?_,?_⟩⟩
 .have⟨g,_,v⟩:=d.wk i B;have G:=hq (c.o+i) oM;generalize(D (c.o+i)).stage=s at v G;generalize(D (c.o+i)).fuel=m at v;generalize(D (c.o+i)).deaf=dd at v;generalize T:Bo i=bo at v;cases v with
  |a _=>omega
  |b _=>omega
  |c _ _ X=>exact⟨_,(d.bs i _ T).2.1,(d.bs i _ T).2.2,X⟩
 .obtain⟨k,rfl⟩:∃k,i=k+1:=⟨i - 1,oM⟩;have f:k+1<gs.size:=(aAu.1 M).1;rw[d.size] at f;rw[d.deafW k oM];simp only[Nat.add_sub_cancel];by_cases a5:k<c.o
  .have⟨g',A,_,Y⟩:=d.old k a5;rw[M] at A;cases A;exact Y
  .obtain⟨i,rfl⟩:∃i,k=c.o+i:=⟨k - c.o,oM⟩;have⟨g',A,v⟩:=d.wk i oM;rw[M] at A;cases A;have G:=hq (c.o+i) oM;generalize(D (c.o+i)).stage=s at v G;generalize(D (c.o+i)).fuel=m at v⊢;generalize(D (c.o+i)).deaf=dd at v⊢;generalize Bo i=bo at v;cases v with
   |a _=>omega
   |b _=>omega
   |c _ h _=>exact h.quits G
 .rw[d.size] at j;exact Go.ConcN.Deaf_absent fun i op E e=>by have:=d.ct.gs i op E;omega
 .intro i op x B F v;refine d.ct.quiet i op x B F ?_;rcases v with h|h
  .exact .inr h
  .exact .inl h
 .intro op I;have⟨i,B⟩:=aCK.1 I;have:=d.ct.gs i op B;omega
 .intro op I x F;have⟨i,B⟩:=aCK.1 I;rcases split i op B with⟨_,h⟩|h
  .exact J.mem op (aBu h) x F
  .exact(h.2.1 x F).1
def GQ{D:Nat->WD}{RB:Nat->Nat->Prop}{tag:CTag}(G:Geo c)(Q:gZ c.Shun B0 (c.o+1) t0)(Y:c.o+c.n<2147483647)(U:∀L g w,c.Anch L g w->∃m,Goes c.P true (R0 c) (D0 c L) (AtW1 c L) m g w)(q:gs[0]?=some a)(R:CX c Low tag j f0 d0 a w)(d:Com c w0 t0 Low j gs w t D Lw Bo RB d0)(n:WgAt c.ty c.Wg w st sm)(b:Go.ConcN.Mode (c.o+j) D tag st sm)(M:a.status=.running):
  Ends c w0 t (runT c.P (crowd gs w sl) 0)\/jZ c w0 t0 t (phi (c.o+c.n) (Vc (c.o+j) D) tag+Ssum (c.o+j) D,f0+2*Fsum (c.o+j) D) (runT c.P (crowd gs w sl) 0):=by
 have a1:=Vc_le (c.o+j) D;cases R with
 |skd v h=>
  rcases Goes.cases h with f| ⟨y,rfl,k⟩
  .have⟨_,a',l,p,u⟩:=f w (.refl w);exact .inr (book0 G d q l (.refl c.Wg w) n Go.ConcN.bk_dis (.sa1 v u) (b.reopen trivial trivial rfl sI) (.inl sQ6))
  .have⟨a',w',es,l,s,o⟩:=k w (.refl w);exact .inr (idle0 G d q n b l s (.skd v o) oM)
 |sa1 v h=>
  rename_i r;rcases Goes.cases h with f| ⟨y,rfl,k⟩
  .have⟨_,x⟩:=f w (.refl w);obtain⟨O,rfl,rfl,_⟩:=b.open_inv trivial;have⟨a',l,p,u⟩:=x (Vc (c.o+(c.n - (r+1))) D) oM (by simpa[pend] using n);refine .inr (book0 G d q l (aside_setCell w (stA c.Wg) _) (n.setSt _) Go.ConcN.bk_rw (.ske v u) ?_ (.inl sQ6));have e:(((Vc (c.o+(c.n - (r+1))) D:Nat):Int)+1)*KK=((Vc (c.o+(c.n - (r+1))) D+pend (.sp r 3):Nat):Int)*KK:=by simp[pend]
   rw[e];exact .opn trivial O sI
  .have⟨a',w',es,l,s,o⟩:=k w (.refl w);exact .inr (idle0 G d q n b l s (.sa1 v o) oM)
 |ske v h=>
  rcases Goes.cases h with f| ⟨y,rfl,k⟩
  .have⟨_,a',l,p,u⟩:=f w (.refl w);exact .inr (book0 G d q l (.refl c.Wg w) n Go.ConcN.bk_en (.sgo v u) (b.reopen trivial trivial rfl sI) (.inl sQ6))
  .have⟨a',w',es,l,s,o⟩:=k w (.refl w);exact .inr (idle0 G d q n b l s (.ske v o) oM)
 |sgo v h=>
  rcases Goes.cases h with f| ⟨y,rfl,k⟩
  .exact .inr (uj G v d q n b (f w (.refl w)))
  .have⟨a',w',es,l,s,o⟩:=k w (.refl w);exact .inr (idle0 G d q n b l s (.sgo v o) oM)
 |kd h=>
  rcases Goes.cases h with f| ⟨y,rfl,k⟩
  .have⟨_,a',l,p,u⟩:=f w (.refl w);exact .inr (book0 G d q l (.refl c.Wg w) n Go.ConcN.bk_dis (.anch u) (b.reopen trivial trivial rfl sI) (.inl sQ6))
  .have⟨a',w',es,l,s,o⟩:=k w (.refl w);exact .inr (idle0 G d q n b l s (.kd o) oM)
 |anch h=>
  rcases Goes.cases h with f| ⟨y,rfl,k⟩
  .have⟨p,u⟩:=U _ a w (f w (.refl w));have⟨K,T,S,A,E,h3⟩:=RY (sl:=sl) G Y d q n (b.reopen trivial trivial rfl sI) u;exact .inr ⟨K,T,S,A,Go.ConcN.lt2_trans E (Prod.Lex.left _ _ sQ6),h3⟩
  .have⟨a',w',es,l,s,o⟩:=k w (.refl w);exact .inr (idle0 G d q n b l s (.anch o) oM)
 |w1 h=>exact .inr (RY G Y d q n b h)
 |w2 h=>
  rename_i V;rcases Goes.cases h with f| ⟨y,rfl,k⟩
  .have⟨_,x⟩:=f w (.refl w);obtain⟨O,rfl,rfl,N⟩:=b.open_inv trivial;have⟨a0,A⟩:=N V rfl;have⟨J,F⟩:=x (Vc (c.o+c.n) D) oM (by simpa[pend] using n);by_cases e:Vc (c.o+c.n) D=V
   .have⟨a',l,p,u⟩:=J e;exact .inr (book0 G d q l (aside_setCell w (stA c.Wg) _) (n.setSt _) Go.ConcN.bk_rw (.w3 u) (.reg trivial O oM) (.inl sQ6))
   .have⟨a',l,p,u⟩:=F e;exact .inr (book0 G d q l (.refl c.Wg w) n Go.ConcN.bk_rd (.anch u) (b.reopen trivial trivial rfl sI) (.inl sQ6))
  .have⟨a',w',es,l,s,o⟩:=k w (.refl w);exact .inr (idle0 G d q n b l s (.w2 o) oM)
 |w3 h=>
  rcases Goes.cases h with f| ⟨y,rfl,k⟩
  .have⟨_,W,z,B⟩:=f w (.refl w);cases b with
   |opn A _ _=>exact A.elim
   |reg A E h3=>exact .inr (book0 G d q (z ⟨_,n⟩) (.refl c.Wg w) n sI (.blk f) (.reg trivial E h3) (.inr ⟨rfl,oM⟩))
   |last L A E h3 h4=>exact .inr (book0 G d q (z ⟨_,n⟩) (.refl c.Wg w) n sI (.blk f) (.last L trivial E h3 h4) (.inr ⟨rfl,oM⟩))
   |sema E=>
    have⟨a',l,p,u⟩:=B n;exact .inr (book0 G d q l (aside_setCell w (smA c.Wg) _) (n.setSm 0) Go.ConcN.bk_sem (.w4 u) (.fin trivial E) (.inl sQ6))
   |fin A _=>exact A.elim
  .have⟨a',w',es,l,s,o⟩:=k w (.refl w);exact .inr (idle0 G d q n b l s (.w3 o) oM)
 |blk h=>simp at M
 |w4 h=>
  rcases Goes.cases h with f| ⟨y,rfl,k⟩
  .have⟨_,Z⟩:=f w (.refl w);obtain⟨I,rfl,rfl⟩:=b.fin_inv trivial;have⟨a',l,p,u⟩:=Z n;exact .inr (book0 G d q l (.refl c.Wg w) n Go.ConcN.bk_rd (.ke u) (.fin trivial I) (.inl sQ6))
  .have⟨a',w',es,l,s,o⟩:=k w (.refl w);exact .inr (idle0 G d q n b l s (.w4 o) oM)
 |ke h=>
  rcases Goes.cases h with f| ⟨y,rfl,k⟩
  .have⟨_,a',l,p,u⟩:=f w (.refl w);obtain⟨I,rfl,rfl⟩:=b.fin_inv trivial;exact .inr (book0 G d q l (.refl c.Wg w) n Go.ConcN.bk_en (.acq u) (.fin trivial I) (.inl sQ6))
  .have⟨a',w',es,l,s,o⟩:=k w (.refl w);exact .inr (idle0 G d q n b l s (.ke o) oM)
 |acq h=>
  rcases Goes.cases h with f| ⟨y,rfl,k⟩
  .have⟨_,a',l,H⟩:=f w (.refl w);obtain⟨I,rfl,rfl⟩:=b.fin_inv trivial;have C:=d.step0 G (a:=a) (a':=a') (fn:=a.frame.fn) (pos:=a.frame.place) (es:=#[mk (.acquire (stA c.Wg))]) (KO w) (fun _ _ _ _ h=>h) (fun i _=>RX.refl w) (fun e X=>by simp at X;subst X;exact .inr (.inr rfl)) d.pay d.live;refine .inl ⟨_,_,runT_crowd_go (P:=c.P) (sl:=sl) (i:=0) q l,finish Q C I n (kU _ _ _ (by rw[d.size];omega)) H ?_⟩;have P:MemOp.ofEvents 0 a.frame.fn a.frame.place #[mk (.acquire (stA c.Wg))]=#[{g:=0,fn:=a.frame.fn,pos:=a.frame.place,act:=.mark (.acquire (stA c.Wg))}]:=by rw[ofEvents_eq];simp[Go.ConcR.ofEvent_mk]
   have hy:(t++#[({g:=0,fn:=a.frame.fn,pos:=a.frame.place,act:=.mark (.acquire (stA c.Wg))}:MemOp)])[t.size]?=some {g:=0,fn:=a.frame.fn,pos:=a.frame.place,act:=.mark (.acquire (stA c.Wg))}:=sI
   refine⟨t.size,by rw[P,act?_of hy],by rw[P];simp[Trace.g?],by rw[P];exact⟨0,by simp[Trace.g?],by rw[deaf_old lR];exact d.deaf0⟩,fun i hi=>?_⟩;have⟨r,v⟩:=d.rel i hi (by rw[I _ oM];omega);exact⟨r,v.appOther g_of_ofEvents oM,lt_of_act? v.act⟩
  .have⟨a',w',es,l,s,o⟩:=k w (.refl w);exact .inr (idle0 G d q n b l s (.acq o) oM)
def uk{D:Nat->WD}{RB:Nat->Nat->Prop}{tag:CTag}(G:Geo c)(v:gs[0]?=some a)(p:CX c Low tag j f0 d0 a w)(e:Com c w0 t0 Low j gs w t D Lw Bo RB d0)(f:Go.ConcN.Mode (c.o+j) D tag st sm):∃(i:Nat) (g:K2),gs[i]?=some g/\g.status=.running:=by
 have d:∀k,k<c.o+j->2<=(D k).stage->∃(i:Nat) (g:K2),gs[i]?=some g/\g.status=.running:=by
  intro k z o;by_cases q:k<c.o
  .have⟨_,_,n,_⟩:=e.old k q;omega
  .obtain⟨i,rfl⟩:∃i,k=c.o+i:=⟨k - c.o,oM⟩;have⟨g,r,l⟩:=e.wk i oM;refine⟨_,g,r,?_⟩;generalize(D (c.o+i)).stage=s at l o;generalize(D (c.o+i)).fuel=m at l;generalize(D (c.o+i)).deaf=B at l;generalize Bo i=C at l;cases l with
   |a h=>exact Goes.running (fun _ _ x=>x.1) w (RX.refl w) h
   |b h=>exact Goes.running (fun _ _ x=>x.1.elim fun _ y=>y.1) w (RX.refl w) h
   |c _ h _=>exact h.running_of oM
 rcases p.status G.anch with⟨l,_⟩| ⟨_,rfl⟩
 .exact⟨0,a,v,l⟩
 .cases f with
  |opn n _ _=>exact n.elim
  |reg _ _ h3=>
   have⟨i,u,A⟩:=Go.ConcN.exists_counted h3;exact d i u oM
  |last L _ o h3 _=>exact d L o oM
  |fin n _=>exact n.elim
def XA{D:Nat->WD}{RB:Nat->Nat->Prop}{tag:CTag}(G:Geo c)(r:gs[0]?=some a)(m:CX c Low tag j f0 d0 a w)(b:Com c w0 t0 Low j gs w t D Lw Bo RB d0):∀g∈gs,awake g:=by
 intro g o;have⟨i,f⟩:=aCK.1 o;cases i with
 |zero=>
  rw[r] at f;cases f;rcases m.status G.anch with⟨e,_⟩| ⟨e,_⟩
  .exact awake_of (.inl e)
  .exact awake_of (.inr (.inl e))
 |succ k=>
  have l:=(aAu.1 f).1;rw[b.size] at l;have e:g.status=.running\/g.status=.finished:=by
   by_cases n:k<c.o
   .have⟨q,d,_,p⟩:=b.old k n;rw[f] at d;cases d;exact p.status
   .obtain⟨i,rfl⟩:∃i,k=c.o+i:=⟨k - c.o,oM⟩;have⟨q,d,e⟩:=b.wk i oM;rw[f] at d;cases d;exact e.status
  rcases e with h|h
  .exact awake_of (.inl h)
  .exact awake_of (.inr (.inr h))
def jh(G:Geo c)(z:gZ c.Shun B0 (c.o+1) t0)(F:c.o+c.n<2147483647)(C:∀L g w,c.Anch L g w->∃m,Goes c.P true (R0 c) (D0 c L) (AtW1 c L) m g w)(u:Nat×Nat):
  ∀(m:Machine) (t:Trace),Inv c w0 t0 u m t->Runs c.P m t (RV c w0):=by
 have wf:WellFounded Lt2:=(Prod.lex Nat.lt_wfRel Nat.lt_wfRel).wf;induction wf.apply u with
 |intro u _ H=>
  rintro m t ⟨gs,w,sl,Low,j,D,Lw,Bo,RB,tag,f0,d0,a,st,sm,rfl,r,q,e,E,b,rfl⟩;have⟨i,g,d,s,x,l,p⟩:=crowd_pick (P:=c.P) (w:=w) (sl:=sl) (XA G r q e) (uk G r q e b);have o:=q.rely (R0.at w d);have f:=e.at G d;have h:WgAt c.ty c.Wg (w.at d) st sm:=E;have key:Ends c w0 t (stepT c.P (crowd gs w sl))\/jZ c w0 t0 t (phi (c.o+c.n) (Vc (c.o+j) D) tag+Ssum (c.o+j) D,f0+2*Fsum (c.o+j) D) (stepT c.P (crowd gs w sl)):=by
   rw[p];cases i with
   |zero=>
    rw[r] at x;cases x;exact GQ (sl:=s) G z F C r o f h b l
   |succ k=>exact .inr (KQ (sl:=s) G F r o f h b x l)
  rcases key with⟨n,B,y,v⟩| ⟨n,B,A,y,v,h3⟩
  .exact .step y (.here v)
  .exact .step y (H A v n _ h3)
end
section
open Go.Conc Go.Lift
open Go.ConcN (WgLive PayAt CTag CT RelBy WD Vc Ssum Fsum phi pend cnt sumTo OpenSt ShN)
open Go.ConcR (KK wgBlock WgAt stA smA Payload)
variable [Payload]
def um{D:Nat->WD}(h:∀i,(D i).stage=1):∀J,Vc J D=0:=by
 intro J;induction J with
 |zero=>rfl
 |succ J a=>
  have:cnt (D J)=0:=by simp[cnt,h J]
  simp only[Vc,sumTo] at a⊢;omega
def zV(G:Geo c)(X:c.o+c.n<2147483647)(P:∀L g w,c.Anch L g w->∃m,Goes c.P true (R0 c) (D0 c L) (AtW1 c L) m g w){m:Machine}(hB:B0<=c.Wg)(z:c.base<=w.heap.size)(R:c.C<w.heap.size)(n:WgAt c.ty c.Wg w 0 0)(E:PayAt c.C c.n w)(K:Tidy c w)(o:Spawns c c.n a w)(H:fB c.P c.Shun B0 (c.o+1) a w m t):Runs c.P m t (RV c w):=by
 obtain⟨gs,sl,q,rfl,M,Q,W,d⟩:=H;have T:c.Wg<w.heap.size:=(aAu.1 n).1;have p:Com c w t w.heap.size 0 gs w t (fun i=>⟨1,q (i+1),Deaf t (i+1)⟩) (fun _=>0) (fun _=>none) (fun _ _=>False) 0:=by
  refine⟨by rw[M],fun i j=>?_,fun i j=>oM,fun i j=>oM,aAz _,T,R,z,(fun i b h=>by cases h),(fun i Z b h=>by cases h),fun i b h=>h.elim,fun i b h=>oM,⟨_,_,n⟩,E,⟨?_,?_,?_,?_,?_,d.tY.clean,?_⟩,?_,d.tY.hears,fun i _=>rfl,fun i j=>oM,fun _ _=>rfl,⟨#[],sI,fun op v=>by simp at v⟩,fun op v=>MemAct.low_mono oM (d.tY.seen op v),K,rfl,rfl⟩
  .have C:i+1<gs.size:=oM
   exact⟨gs[i+1],aAN C,rfl,W.old (i+1) _ oM (aAN C)⟩
  .intro i op x j s A;rcases A with⟨a',e,Y⟩|A
   .have:=DT (d.tY.seen op (aBu j)) s e;omega
   .exact d.quiet i op x j s A
  .rintro k k1 U l ⟨i,a',rfl,_⟩;omega
  .rintro k k1 U l ⟨i,a',rfl,_⟩;omega
  .intro l A _ i x s e;have⟨op,D,y⟩:=touch_of s;rcases d.tY.known i x s (d.mem op (aBu D) x y) with h| ⟨h,_⟩
   .exact h
   .exact absurd (.inr (e▸h)) A
  .intro l A _ i x s e _;have⟨op,D,y⟩:=touch_of s;rcases d.tY.known i x s (d.mem op (aBu D) x y) with h| ⟨h,_⟩
   .exact h
   .exact absurd (.inr (e▸h)) A
  .intro i op j;have:=d.Kz op (aBu j);omega
  .intro i j;have⟨op,D,N⟩:=aAU.1 j;have:=d.tY.seen op (aBu D);rw[N] at this;have:c.Wg<B0:=this;omega
 have f:∀tag,Go.ConcN.isOpen tag->pend tag=0->(∀I,tag≠.w2 I)->Go.ConcN.Mode (c.o+0) (fun i=>(⟨1,q (i+1),Deaf t (i+1)⟩:WD)) tag 0 0:=fun tag V S h3=>by have:=Go.ConcN.Mode.opn (j:=c.o+0) (D:=fun i=>(⟨1,q (i+1),Deaf t (i+1)⟩:WD)) V (fun i j=>.inr (.inr (.inr rfl))) fun I e=>absurd e (h3 I);rw[um (fun _=>rfl),S] at this;simpa using this
 have O:∃F,Inv c w t F (crowd gs w sl) t:=by
  cases B:c.n with
  |zero=>
   rw[B] at o;have⟨k,J⟩:=o;have u:CX c w.heap.size .kd 0 k 0 a w:=by have:=CX.kd J;rwa[B] at this
   exact⟨_,gs,w,sl,w.heap.size,0,_,_,_,_,.kd,k,0,a,0,0,rfl,Q,u,p,n,f .kd trivial rfl sI,rfl⟩
  |succ r=>
   rw[B] at o;have⟨k,J⟩:=o;have u:CX c w.heap.size (.sp r 5) 0 k 0 a w:=by have:=CX.skd (show r<c.n by omega) J;rwa[show c.n - (r+1)=0 by omega] at this
   exact⟨_,gs,w,sl,w.heap.size,0,_,_,_,_,.sp r 5,k,0,a,0,0,rfl,Q,u,p,n,f (.sp r 5) trivial rfl sI,rfl⟩
 have⟨F,O⟩:=O;exact jh G d X P F _ _ O
#print axioms zV
end
end Go.Phase
namespace Go.Walk
section
open Go.Conc
section
structure Env (R:World->World->Prop) (D:World->World->Array Event->Prop) (F:World->Prop):Prop where
 cl:∀w w₁,F w->R w w₁->F w₁
 nil:∀w,D w w #[]
def cO(P:K5)(main:Bool)(R:WR->K6)(D:WU)(Stop:WM)(F:K6)(n:Nat)(g:K2):Prop:=∀w,F w->Goes P main R D Stop n g w
section
variable {P:Program} {main:Bool} {R:World->World->Prop} {D:World->World->Array Event->Prop} {Stop:Goroutine->World->Prop} {F:World->Prop} {n:Nat} (E:Env R D F)
 {b:Frame} {a:Act} {k:List Item} {cs:List Frame}
theorem dU(E:Env R D F){g c:K2}(i:g.status=.running)(h:∀w,F w->stepG P main g w=.go c w #[])(f:cO P main R D Stop F n c):cO P main R D Stop F (n+1) g:=
 fun w e=>Goes.step i fun b a=>by have d:=E.cl _ _ e a;rw[h b d];exact⟨E.nil _,f _ d⟩
theorem yo(E:Env R D F){g e:K2}{d:aA}(j:g.status=.running)(h:∀w,F w->stepG P main g w=.go e w d)(k:∀w,F w->D w w d)(i:cO P main R D Stop F n e):cO P main R D Stop F (n+1) g:=
 fun w f=>Goes.step j fun a b=>by have c:=E.cl _ _ f b;rw[h a c];exact⟨k a c,i _ c⟩
theorem cD(E:Env R D F){g:K2}(h:∀w,F w->Stop g w):cO P main R D Stop F n g:=fun _ c=>Goes.stop fun b a=>h b (E.cl _ _ c a)
theorem bU(E:Env R D F){x y:Code}(h:cO P main R D Stop F n (G (b.at a (.code x::.code y::k)) cs)):cO P main R D Stop F (n+1) (G (b.at a (.code (.seq x y)::k)) cs):=dU E rfl (fun _ _=>stepG_seq) h
theorem cX(E:Env R D F)(h:cO P main R D Stop F n (G (b.at a k) cs)):cO P main R D Stop F (n+1) (G (b.at a (.code .skip::k)) cs):=dU E rfl (fun _ _=>stepG_skip) h
theorem cJ(E:Env R D F){id:Nat}(h:cO P main R D Stop F n (G (b.at a k) cs)):cO P main R D Stop F (n+1) (G (b.at a (.inBlock id::k)) cs):=dU E rfl (fun _ _=>stepG_inBlock) h
theorem cU(E:Env R D F){id:Nat}{c:Code}(h:cO P main R D Stop F n (G (b.at a (.code c::.inBlock id::k)) cs)):cO P main R D Stop F (n+1) (G (b.at a (.code (.block id c)::k)) cs):=dU E rfl (fun _ _=>stepG_block) h
theorem GS(E:Env R D F){c:Code}(h:cO P main R D Stop F n (G (b.at a (.code c::.inLoop c::k)) cs)):cO P main R D Stop F (n+1) (G (b.at a (.code (.loop c)::k)) cs):=dU E rfl (fun _ _=>stepG_loop) h
theorem cP(E:Env R D F){c:Code}(h:cO P main R D Stop F n (G (b.at a (.code c::.inLoop c::k)) cs)):cO P main R D Stop F (n+1) (G (b.at a (.inLoop c::k)) cs):=dU E rfl (fun _ _=>stepG_inLoop) h
theorem RZ(E:Env R D F){id:Nat}{c:List Item}(e:exitTo id k=some c)(h:cO P main R D Stop F n (G (b.at a c) cs)):cO P main R D Stop F (n+1) (G (b.at a (.code (.exit id)::k)) cs):=dU E rfl (fun _ _=>stepG_exit e) h
theorem fF(E:Env R D F){id:Nat}{ops:DQ}{l:K4}(e:List.range ops.size=l)(h:cO P main R D Stop F n (G (b.at a (.inRegion ops l::k)) cs)):cO P main R D Stop F (n+1) (G (b.at a (.code (.region id ops false)::k)) cs):=dU E rfl (fun _ _=>by rw[stepG_region,e]) h
theorem bD(E:Env R D F){id:Nat}{c:Oper}(h:cO P main R D Stop F n (G (b.at a (.inRegion #[c] [0]::k)) cs)):cO P main R D Stop F (n+1) (G (b.at a (.code (.region id #[c] false)::k)) cs):=fF E rfl h
theorem bI(E:Env R D F){id:Nat}{c d:Oper}(h:cO P main R D Stop F n (G (b.at a (.inRegion #[c,d] [0,1]::k)) cs)):cO P main R D Stop F (n+1) (G (b.at a (.code (.region id #[c,d] false)::k)) cs):=fF E rfl h
theorem cY(E:Env R D F){id:Nat}{c e d:Oper}(h:cO P main R D Stop F n (G (b.at a (.inRegion #[c,e,d] [0,1,2]::k)) cs)):cO P main R D Stop F (n+1) (G (b.at a (.code (.region id #[c,e,d] false)::k)) cs):=fF E rfl h
theorem cC(E:Env R D F){id:Nat}{c f e d:Oper}(h:cO P main R D Stop F n (G (b.at a (.inRegion #[c,f,e,d] [0,1,2,3]::k)) cs)):cO P main R D Stop F (n+1) (G (b.at a (.code (.region id #[c,f,e,d] false)::k)) cs):=fF E rfl h
theorem cE(E:Env R D F){id:Nat}{c g f d e:Oper}(h:cO P main R D Stop F n (G (b.at a (.inRegion #[c,g,f,d,e] [0,1,2,3,4]::k)) cs)):cO P main R D Stop F (n+1) (G (b.at a (.code (.region id #[c,g,f,d,e] false)::k)) cs):=fF E rfl h
theorem cF(E:Env R D F){id:Nat}{c i g d f e:Oper}(h:cO P main R D Stop F n (G (b.at a (.inRegion #[c,i,g,d,f,e] [0,1,2,3,4,5]::k)) cs)):cO P main R D Stop F (n+1) (G (b.at a (.code (.region id #[c,i,g,d,f,e] false)::k)) cs):=fF E rfl h
theorem bL(E:Env R D F){id:Nat}{c j i d g e f:Oper}(h:cO P main R D Stop F n (G (b.at a (.inRegion #[c,j,i,d,g,e,f] [0,1,2,3,4,5,6]::k)) cs)):cO P main R D Stop F (n+1) (G (b.at a (.code (.region id #[c,j,i,d,g,e,f] false)::k)) cs):=fF E rfl h
theorem eQ(E:Env R D F){id:Nat}{c l j d i e f g:Oper}(h:cO P main R D Stop F n (G (b.at a (.inRegion #[c,l,j,d,i,e,f,g] [0,1,2,3,4,5,6,7]::k)) cs)):cO P main R D Stop F (n+1) (G (b.at a (.code (.region id #[c,l,j,d,i,e,f,g] false)::k)) cs):=fF E rfl h
theorem gW(E:Env R D F){id:Nat}{d o m e l f i j c g:Oper}(h:cO P main R D Stop F n (G (b.at a (.inRegion #[d,o,m,e,l,f,i,j,c,g] [0,1,2,3,4,5,6,7,8,9]::k)) cs)):cO P main R D Stop F (n+1) (G (b.at a (.code (.region id #[d,o,m,e,l,f,i,j,c,g] false)::k)) cs):=fF E rfl h
theorem dO(E:Env R D F){id:Nat}{e p o f m g j l d i c:Oper}(h:cO P main R D Stop F n (G (b.at a (.inRegion #[e,p,o,f,m,g,j,l,d,i,c] [0,1,2,3,4,5,6,7,8,9,10]::k)) cs)):cO P main R D Stop F (n+1) (G (b.at a (.code (.region id #[e,p,o,f,m,g,j,l,d,i,c] false)::k)) cs):=fF E rfl h
theorem jK(E:Env R D F){id:Nat}{f q p g o i l m e j d c:Oper}(h:cO P main R D Stop F n (G (b.at a (.inRegion #[f,q,p,g,o,i,l,m,e,j,d,c] [0,1,2,3,4,5,6,7,8,9,10,11]::k)) cs)):cO P main R D Stop F (n+1) (G (b.at a (.code (.region id #[f,q,p,g,o,i,l,m,e,j,d,c] false)::k)) cs):=fF E rfl h
theorem aP(E:Env R D F){ops:DQ}(h:cO P main R D Stop F n (G (b.at a k) cs)):cO P main R D Stop F (n+1) (G (b.at a (.inRegion ops []::k)) cs):=dU E rfl (fun _ _=>stepG_region_end) h
theorem SA(E:Env R D F){x y:Code}{c:Operand}{t:Bool}(e:a.eval c=.bool t)(h:cO P main R D Stop F n (G (b.at a (.code (if t then x else y)::k)) cs)):cO P main R D Stop F (n+1) (G (b.at a (.code (.cond c x y)::k)) cs):=dU E rfl (fun _ _=>stepG_cond e) h
theorem bM(E:Env R D F){x y:Code}{c:Operand}(e:a.eval c=.bool true)(h:cO P main R D Stop F n (G (b.at a (.code x::k)) cs)):cO P main R D Stop F (n+1) (G (b.at a (.code (.cond c x y)::k)) cs):=SA E e h
theorem bZ(E:Env R D F){x y:Code}{c:Operand}(e:a.eval c=.bool false)(h:cO P main R D Stop F n (G (b.at a (.code y::k)) cs)):cO P main R D Stop F (n+1) (G (b.at a (.code (.cond c x y)::k)) cs):=SA E e h
theorem eI(E:Env R D F)(h:cO P main R D Stop F n (G {b.at a (.code .ret::k) with mode:=.returning} cs)):cO P main R D Stop F (n+1) (G (b.at a (.code .ret::k)) cs):=dU E rfl (fun _ _=>stepG_ret') h
theorem PI(E:Env R D F)(h:cO P main R D Stop F n (G {b.at a [] with mode:=.returning} cs)):cO P main R D Stop F (n+1) (G (b.at a []) cs):=dU E rfl (fun _ _=>stepG_end) h
section
variable {ops:DQ} {i:Nat} {rest:K4} {o:Oper}
theorem cH(E:Env R D F)(d:ops[i]?=some o)(c:Region.wanted o (yielded ops a.tmps)=false)(h:cO P main R D Stop F n (G (b.at (a.put o.dst ud) (.inRegion ops rest::k)) cs)):cO P main R D Stop F (n+1) (G (b.at a (.inRegion ops (i::rest)::k)) cs):=dU E rfl (fun _ _=>stepG_unwanted d c) h
theorem Dq(E:Env R D F){v:vZ}(f:ops[i]?=some o)(d:Region.wanted o (yielded ops a.tmps)=true)(e:b.kind≠.early)(j:∀w,F w->(execOp a.eval o).run P w=.ok (.value v) w)(g:∀w,F w->(execOp a.eval o).events P w #[]=#[])(h:cO P main R D Stop F n (G (b.at (a.put o.dst v) (.inRegion ops rest::k)) cs)):cO P main R D Stop F (n+1) (G (b.at a (.inRegion ops (i::rest)::k)) cs):=
 dU E rfl (fun w c=>by rw[stepG_value f d e (j w c)];unfold listed;rw[g w c,seen_none]) h
theorem bV(E:Env R D F)(m:ops[i]?=some o)(j:Region.wanted o (yielded ops a.tmps)=true)(l:b.kind≠.early)(h:∀w,F w->∀K:Fi,(∀f,(execOp a.eval o).events P w #[]=#[]->cO P main R D Stop F n (G (b.at f (.inRegion ops rest::k)) cs)->K f w)->uponK o a K ((execOp a.eval o).run P w)):cO P main R D Stop F (n+1) (G (b.at a (.inRegion ops (i::rest)::k)) cs):=
 fun _ e=>Goes.step rfl fun c d=>goes_oper_k m j l fun r g=>h c (E.cl _ _ e d) r fun f p q=>g f c ⟨by unfold listed;rw[p,seen_none];exact E.nil _,q c (E.cl _ _ e d)⟩
theorem pL(E:Env R D F){g c t:Fh}{x:Operand}{l:Addr}(z:ops[i]?=some o)(y:Region.wanted o (yielded ops a.tmps)=true)(u:b.kind≠.early)(d:o.op=.convert g c x)(r:a.eval x=.pointer (some l))(q:P.underlying g=some (.pointer t))(p:P.underlying c=some .unsafePointer)(f:(P.info? t).map (fun i=>decide (i.size=0))=some false)(s:∀w,F w->∃v,w.cell? l=some v)(h:cO P main R D Stop F n (G (b.at (a.put o.dst (.pointer (some l))) (.inRegion ops rest::k)) cs)):cO P main R D Stop F (n+1) (G (b.at a (.inRegion ops (i::rest)::k)) cs):=
 Dq E z y u (fun w j=>by
  have⟨v,m⟩:=s w j;unfold execOp;simp only[d,r];rw[Sem.run_bind,run_convert_to_unsafe q p f m];rfl) (fun w j=>by
  have⟨v,m⟩:=s w j;unfold execOp;simp only[d,r];have e:=events_convert_to_unsafe (P:=P) (w:=w) q p f m #[];simp[go_sem,e]) h
theorem eY(E:Env R D F){f:FuncId}{fn:Func}{c:Code}{args:Array Operand}{j:Array TypeId}(r:ops[i]?=some o)(m:Region.wanted o (yielded ops a.tmps)=true)(p:b.kind≠.early)(l:o.op=.call {callee:=.value (.func f),args,argTypes:=j})(q:P.funcs[f]?=some fn)(d:(fn.name== "runtime.NumGoroutine")=false)(s:fn.body=some c)(h:cO P main R D Stop F n (G ((base f).at {tmps:=args.map a.eval++Array.replicate (fn.ntmps - (args.map a.eval).size) ud,defers:=[]} [.code c]) (b.at a (.inRegion ops (i::rest)::k)::cs))):cO P main R D Stop F (n+1) (G (b.at a (.inRegion ops (i::rest)::k)) cs):=
 fun _ g=>Goes.step rfl fun _ e=>goes_call r m p l q d s ⟨E.nil _,h _ (E.cl _ _ g e)⟩
theorem xB(E:Env R D F)(v:Value){f:FuncId}{fn:Func}{d:Array Operand}{e:Array TypeId}(m:ops[i]?=some o)(j:Region.wanted o (yielded ops a.tmps)=true)(l:b.kind≠.early)(g:o.op=.call {callee:=.value (.func f),args:=d,argTypes:=e})(p:P.funcs[f]?=some fn)(c:(fn.name== "runtime.NumGoroutine")=false)(r:fn.body.isNone=true)(s:Extern.findNext fn=none)(q:Extern.find fn=some (fun _=>pure v))(h:cO P main R D Stop F n (G (b.at (a.put o.dst v) (.inRegion ops rest::k)) cs)):cO P main R D Stop F (n+1) (G (b.at a (.inRegion ops (i::rest)::k)) cs):=
 dU E rfl (fun _ _=>stepG_entry_pure v m j l g p c r s q) h
theorem ji(E:Env R D F){f:FuncId}{c:Array Operand}{d:Array Fh}(l:ops[i]?=some o)(g:Region.wanted o (yielded ops a.tmps)=true)(j:b.kind≠.early)(e:o.op=.defer {callee:=.value (.func f),args:=c,argTypes:=d})(h:cO P main R D Stop F n (G (b.at (Act.put ⟨a.tmps,dcall f (c.map a.eval)::a.defers⟩ o.dst ud) (.inRegion ops rest::k)) cs)):cO P main R D Stop F (n+1) (G (b.at a (.inRegion ops (i::rest)::k)) cs):=
 dU E rfl (fun _ _=>stepG_defer l g j e) h
end
section
variable {ops:DQ} {i:Nat} {rest:K4} {b₀:Frame} {a₀:Act} {fn:Func} {todo:List Item}
theorem eP(E:Env R D F){t:Tmp}(j:b.kind=.normal)(d:a.defers=[])(f:P.funcs[b.fn]?=some fn)(g:fn.results=#[.tmp t])(h:cO P main R D Stop F n (G (b₀.at (a₀.put ((ops[i]?).bind (·.dst)) (a.tmps.getD t ud)) (.inRegion ops rest::k)) cs)):cO P main R D Stop F (n+1) (G {b.at a todo with mode:=.returning} (b₀.at a₀ (.inRegion ops (i::rest)::k)::cs)):=
 fun _ e=>Goes.step rfl fun _ c=>goes_leave1 j d f g ⟨E.nil _,h _ (E.cl _ _ e c)⟩
theorem jO(E:Env R D F)(j:b.kind=.normal)(d:a.defers=[])(f:P.funcs[b.fn]?=some fn)(g:fn.results=#[])(h:cO P main R D Stop F n (G (b₀.at (a₀.put ((ops[i]?).bind (·.dst)) (.tuple #[])) (.inRegion ops rest::k)) cs)):cO P main R D Stop F (n+1) (G {b.at a todo with mode:=.returning} (b₀.at a₀ (.inRegion ops (i::rest)::k)::cs)):=
 fun _ e=>Goes.step rfl fun _ c=>goes_leave0 j d f g ⟨E.nil _,h _ (E.cl _ _ e c)⟩
end
end
end
end
end Go.Walk
namespace Go.Phase
variable{Wg:Nat}{ty:Fh}{w:WR}
section
open Go.Conc Go.Walk
open Go.ConcN (WgLive)
open Go.ConcR (WgAt stA smA Payload)
variable [Payload]
def Iq(c:iF)(b:Nat){X:K6}(f:∀w a,X w->R0 c w a->X a):Env (R0 c) (D0 c b) (fun w=>X w/\WgLive c.ty c.Wg w):=
 ⟨fun w a h r=>⟨f w a h.1 r,r.live h.2⟩,fun w=>⟨aAz _,fun _ _ _=>rfl,(fun e d=>by simp at d),id,rfl,rfl⟩⟩
def zW{c:iF}{a:WR}(h:Aside c.Wg w a)(d:WgLive c.ty c.Wg a):R0 c w a:=⟨aBz h.size.symm,fun b _ e _ _=>h.block b e,fun _=>d⟩
def uo(c:iF)(b:Nat)(w:WR)(a:Addr)(h:a.block=c.Wg):D0 c b w w #[⟨.mark (.read a),false,true⟩]:=⟨aAz _,fun _ _ _=>rfl,(fun e d=>by rw[aBH] at d;subst d;exact .inr (.inl ⟨a,.inl rfl,h⟩)),id,rfl,rfl⟩
def jj(c:iF)(b:Nat)(w:WR)(a:Addr)(h:a.block=c.Wg):D0 c b w w #[⟨.mark (.write a),false,true⟩]:=⟨aAz _,fun _ _ _=>rfl,(fun e d=>by rw[aBH] at d;subst d;exact .inr (.inl ⟨a,.inr rfl,h⟩)),id,rfl,rfl⟩
def SB(h:WgLive ty Wg w):∃v,w.cell? ⟨Wg,0,none⟩=some v:=let⟨_,_,x⟩:=h;⟨_,x.cellSt⟩
def yp(h:WgLive ty Wg w):∃v,w.cell? ⟨Wg,1,none⟩=some v:=let⟨_,_,x⟩:=h;⟨_,x.cellSm⟩
end
section
open Go.Conc Go.Walk Go.Lift
open Go.ConcN (WgLive)
open Go.ConcR (Payload)
def qT(w a:WR)(b:aA):Prop:=a=w/\b=#[]
def Is[Payload](c:iF){X:K6}(b:∀w a,X w->R0 c w a->X a):Env AtRel qT (fun w=>X w/\WgLive c.ty c.Wg w):=
 ⟨fun w a h r=>by obtain⟨d,rfl⟩:=r;exact⟨b _ _ h.1 (R0.at w d),h.2⟩,fun w=>⟨rfl,rfl⟩⟩
end
end Go.Phase
