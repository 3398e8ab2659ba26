import Derived.Test.YtbephahokhnccaaGreatDoorJ26
import Derived.Test.YtbephahokhnccaaGreatDoorJ31
set_option linter.all false
set_option maxRecDepth 100000
set_option maxHeartbeats 4000000
namespace Go
theorem gdS{a:Type}{x y:a}:(some x).getD y=x:=rfl
end Go
namespace Go.Mark
open Go.RowKit Go.Proofs Go.Proofs.Tryz
variable{a a₀:Act}{h0:Array Obj}{ops0 ops:DQ}{c:Ff}{b₀:Frame}{fn:Func}{g:K2}{L:List (Int×Nat×Ac)}{ds:List (bF×SV)}{cs:eX}{k₀:List Item}{rest0:K4}{m:Machine}{B cap n b o i₀ N off:Nat}{f:Nat×Nat}{aa:yj}{P:K5}{qa:Rw}{t:Trace}{e:Fh}{v w u w1 w2 v1 v2 w' x v':WR}
section
open Go.Lift Go.Conc
variable [aB]
section
def IsMap:Obj->Prop
 |.map _ _=>True
 |_=>False
structure Tw (v u:WR):Prop where
 size:v.heap.size<=u.heap.size
 obj:∀(b:Nat) (o:Obj),v.heap[b]?=some o->dE o\/IsMap o->u.heap[b]?=some o
def Tw.refl(v:WR):Tw v v:=⟨aAz _,fun _ _ h _=>h⟩
def Tw.trans(h:Tw v u)(k:Tw u x):Tw v x:=⟨aAw h.size k.size,fun b o c a=>k.obj b o (h.obj b o c a) a⟩
def Tw.tr(h:Tw v u)(k:Tw u x):Tw v x:=Tw.trans h k
def kh(h:Bw v u):Tw v u:=⟨h.size,fun b _ a _=>(h.block b (aAu.1 a).1).tr a⟩
def Tw.cell(h:Tw v u){a:Addr}{x:vZ}(b:v.cell? a=some x):u.cell? a=some x:=by
 unfold World.cell? at b⊢;cases d:v.heap[a.block]? with
 |none=>rw[d] at b;cases b
 |some o=>
  rw[d] at b;cases o with
  |cells c e f=>rw[h.obj a.block _ d (.inl trivial)];exact b
  |_=>cases b
def cI.tw{l:K3}(c:cI v b o l)(h:Tw v u):cI u b o l:=fun j x a=>h.cell (c j x a)
def cR.tw{a:Type}{b:a->vZ}{r:Nat}{l:List (a×vZ)}(d:cR b v r l)(h:Tw v u):cR b u r l:=let⟨g,c,f,e⟩:=d;⟨g,c,h.obj r _ f (.inr trivial),e⟩
def Ec{base size:Nat}{x:vZ}{c:K3}(b:v.ownsRow base e size x n c)(h:Tw v u):u.ownsRow base e size x n c:=by refine⟨b.1,b.2.imp id ?_⟩;rintro⟨g,cap,a,f,d,h3,h4⟩;exact⟨g,cap,a,f,d,h.obj g _ h3 (.inl trivial),h4⟩
def uE.tw{a:yj}(c:uE v a ds)(h:Tw v u):uE u a ds:=
 ⟨c.acc.imp id fun⟨b,o,f,e⟩=>⟨b,o,f,fun i p d=>(e i p d).tw h⟩,fun p d=>⟨(c.sl p d).1,(c.sl p d).2.imp id fun⟨b,o,f,e⟩=>⟨b,o,f,fun i q g=>(e i q g).tw h⟩⟩,c.bal,c.num,c.key,c.len⟩
def LG.tw{l m:Nat}{d:Dm}{c:Int}{J:K3}(a:LG v l m d c L J)(h:Tw v u):LG u l m d c L J:=by have⟨g,f,e⟩:=a.lj.ex;exact⟨⟨a.lj.lo,g,h.obj _ _ f (.inl trivial),Ec e h⟩,a.map.tw h,a.iZ.tw h,fun q b=>h.obj _ _ (a.acc q b) (.inl trivial),fun q b=>(a.slot q b).tw h,a.nd,a.AJ,a.bal,a.key,a.IX,a.UN,a.MA,a.UO,a.pf,a.lo,a.wT⟩
structure wC (W:WR)(pl:Nat)(ds:List (bF×SV))(L:List (Int×Nat×Ac)):Prop where
 lg:∃m dmb,LG W pl m ⟨dmb,[]⟩ 0 L []
 len:L.length=ds.length
 mu:∀(i:Nat) (d:bF),(ds[i]?).map (fun p:bF×SV=>p.1)=some d->∃pa ms bb,L[i]?=some (oK d ⟨some ⟨bb,0,none⟩,d.code.size,d.code.size⟩ pa ms)/\W.heap[bb]?=ob (marks d.code d.code.size 0 (fI d.code.size)) 4
def wC.tw{b:Nat}(a:wC v b ds L)(h:Tw v u):wC u b ds L:=
 ⟨let⟨m,d,e⟩:=a.lg;⟨m,d,e.tw h⟩,a.len,fun i d c=>let⟨g,ms,k,j,f⟩:=a.mu i d c;⟨g,ms,k,j,h.obj _ _ f (.inl trivial)⟩⟩
def pN{D a:Nat->Prop}{o:Obj}:kF (cM D) o ↔ kF (cM a) o:=by cases o<;>exact Iff.rfl
def LN{D:Nat->Prop}{o:Obj}(h:¬kF (cM D) o):¬dE o/\¬IsMap o:=
 ⟨fun a=>by cases o<;>first|exact a.elim|exact h trivial,fun a=>by cases o<;>first|exact a.elim|exact h trivial⟩
def Dk(B:Nat)(D:Nat->Prop)(w:WR):Prop:=∀b,D b->(B<=b/\∃c e,e<1000/\w.heap[b]?=some (.cells c e))\/(b<B/\∃o,w.heap[b]?=some o/\¬kF (cM D) o/\¬eZ o)
def Jc{D:Nat->Prop}(h:Dk B D w)(b:Nat)(a:D b):(∃c e,w.heap[b]?=some (.cells c e))\/∃o,w.heap[b]?=some o/\¬kF (cM D) o/\¬eZ o:=
 (h b a).imp (fun⟨_,c,e,_,k⟩=>⟨c,e,k⟩) (·.2)
def LO{D:Nat->Prop}{z:Prop}{x y l:Option Obj}(h:MC z x y)(k:MC z x l)(q:z->(∃c e,x=some (.cells c e))\/∃o,x=some o/\¬kF (cM D) o/\¬eZ o){o:Obj}(f:y=some o)(a:dE o\/IsMap o):l=some o:=by
 cases h with
 |gP b=>
  cases f;cases k with
  |gP _=>rfl
  |shut _ n=>exact absurd trivial n
  |view i=>exact i.elim
  |same g=>exact absurd trivial ((g _ rfl).2 b)
 |shut b n=>
  cases f;rcases a with a|a<;>exact a.elim
 |view i p=>
  cases f;cases o<;>first|exact p.elim| (rcases a with a|a<;>exact a.elim)
 |same g=>
  subst f;have d:¬z:=fun b=>by
   rcases q b with⟨c,e,j⟩| ⟨r,j,m,_⟩
   .cases j;exact(g _ rfl).2 b trivial
   .cases j;rcases a with a|a
    .exact(LN m).1 a
    .exact(LN m).2 a
  cases k with
  |gP b=>exact absurd b d
  |shut b=>exact absurd b d
  |view i=>exact absurd i (g _ rfl).1
  |same _=>rfl
def mZ{D:Nat->Prop}(c:Dk B D w)(h:Rel (cM D) w v)(a:Rel (cM D) w u):Tw v u:=
 ⟨by rw[h.size,a.size];exact aAz _,fun b o e d=>LO (h.look b) (a.look b) (Jc c b) e d⟩
def SM{D:Nat->Prop}(h:Rel (cM D) w v)(i:v.heap[b]?=some (.cells c e f))(g:0<c.size):w.heap[b]?=some (.cells c e f):=by
 have d:=h.look b;rw[i] at d;generalize k:w.heap[b]?=x at d;cases d with
 |gP j=>simp at g
 |view _ a=>exact a.elim
 |same _=>rfl
open Go.Walk Go.Phase
end
end
section
open Go.Conc Go.Walk Go.Phase Go.Conc.Lib Go.ConcR.Gen Go.ConcN.Gen Go.Lift
open Go.ConcN (WgLive Has RW DWs AtR0 PayAt)
open Go.ConcR (KK WgAt stA smA rd wr mk Payload)
variable [aB]
noncomputable def SN:DQ:=match Tryz.f35.body with
 |some (.seq _ (.seq (.region _ o _) _))=>o
 |_=>#[]
def vo:cO Tryz.prog true AtRel kD (fun g w=>g=G ((base 60).at ⟨#[.slice aa n cap]++Array.replicate 21 ud,[]⟩ [.code (Tryz.f60.body.getD .skip)]) ((base 35).at ⟨#[.slice aa n cap,ud,.pointer none,ud,ud,ud,ud,.slice aa n cap,ud,ud,ud,ud,ud,ud,ud,ud,ud,ud,ud,ud,ud,ud,ud,ud,ud,ud,ud,ud,ud,ud,ud,ud,ud,ud,ud,ud,ud,ud,ud,ud,ud,ud,ud,ud,ud,ud],[]⟩ (.inRegion SN [1,2]::[.code JR])::cs)/\w.heap=h0) (fun w=>w.heap=h0) 30
   (G ((base 35).at ⟨#[.slice aa n cap]++Array.replicate 45 ud,[]⟩ [.code (Tryz.f35.body.getD .skip)]) cs):=by
 have E:=nK h0;obtain⟨h,b⟩:∃c,c=JR:=⟨_,rfl⟩;have a:=b;simp only[JR,Tryz.f35] at a;rw[<-b];simp only[Tryz.f35,aAK];rw[<-a]
 walk_nrm
 repeat (first
  |refine bU E ?_
  |refine aP E ?_
  |refine bD E ?_
  |refine cY E ?_
  | (refine bV E rfl rfl sQ2 (fun w f K d=>?_);go_simp;refine d _ sQ1 ?_;clear d K f w;try w_num))
 refine eY E rfl rfl sQ2 rfl Tryz.func60 kR (c:=Tryz.f60.body.getD .skip) rfl ?_
 walk_nrm
 exact cD E (fun w e=>⟨by rw[b];rfl,e⟩)
def Jd{a:Nat}:cO Tryz.prog true AtRel kD (fun g w=>g=G ((base 35).at ⟨#[.slice aa n cap,ud,.pointer none,sl a n,ud,ud,ud,.slice aa n cap,sl a n,ud,ud,ud,ud,ud,ud,ud,ud,ud,ud,ud,ud,ud,ud,ud,ud,ud,ud,ud,ud,ud,ud,ud,ud,ud,ud,ud,ud,ud,ud,ud,ud,ud,ud,ud,ud,ud],[]⟩ [.code JR]) cs/\w.heap=h0) (fun w=>w.heap=h0) 30
  (G ((base 35).at ⟨#[.slice aa n cap,ud,.pointer none,ud,ud,ud,ud,.slice aa n cap,sl a n,ud,ud,ud,ud,ud,ud,ud,ud,ud,ud,ud,ud,ud,ud,ud,ud,ud,ud,ud,ud,ud,ud,ud,ud,ud,ud,ud,ud,ud,ud,ud,ud,ud,ud,ud,ud,ud],[]⟩ (.inRegion SN [2]::[.code JR])) cs):=by
 have E:=nK h0;obtain⟨h,b⟩:∃c,c=JR:=⟨_,rfl⟩;rw[<-b];simp only[SN,Tryz.f35];refine bV E rfl rfl sQ2 fun w f K d=>?_;go_simp;refine d _ sQ1 ?_;clear d K f w;refine aP E ?_;exact cD E fun w e=>⟨rfl,e⟩
def HA{D:Nat->Prop}(h:Rel (cM D) w v)(j:w.heap[b]?=some (.cells c e f))(g:¬D b):v.heap[b]?=some (.cells c e f):=by
 have a:=h.look b;rw[j] at a;generalize v.heap[b]?=x at a;cases a with
 |gP d=>exact absurd d g
 |shut d=>exact absurd d g
 |view i=>exact i.elim
 |same _=>rfl
def ki{D:Nat->Prop}(m:Dk B D w)(h:Rel (cM D) w v)(b:Nat)(j:D b):(B<=b/\∃e,e<1000/\v.heap[b]?=some (.cells #[] e))\/(b<B/\v.heap[b]?=some (.coro none)):=by
 rcases m b j with⟨g,c,e,d,s⟩| ⟨g,o,p,k,i⟩
 .refine .inl ⟨g,?_⟩;have a:=h.look b;rw[s] at a;generalize v.heap[b]?=x at a;cases a with
  |gP n=>exact⟨_,d,rfl⟩
  |shut _ r=>exact absurd trivial r
  |view i=>exact i.elim
  |same l=>exact absurd trivial ((l _ rfl).2 j)
 .refine .inr ⟨g,?_⟩;have a:=h.look b;rw[p] at a;generalize q:v.heap[b]?=x at a;cases a with
  |gP n=>exact absurd trivial k
  |shut=>rfl
  |view f=>exact absurd f i
  |same l=>exact absurd (h.code b o q) k
structure SO (B:Nat)(D':Nat->Prop)(w w' v':WR):Prop where
 rel:Rel (cM D') w' v'
 dk:Dk B D' w'
 kw:∀b,b<B->w'.heap[b]?=w.heap[b]?
 os:w'.os=w.os/\w'.output=w.output
 up:w.heap.size<=w'.heap.size
structure sZ (B:Nat)(mH:yi)(D':Nat->Prop)(w w' v v':WR):Prop extends SO B D' w w' v' where
 hid:jU (cM D') mH
 tw:Tw v v'
def SO.trans{D1 c:Nat->Prop}(h:SO B D1 w w1 v1)(k:SO B c w1 w2 v2):SO B c w w2 v2:=
 ⟨k.rel,k.dk,fun b a=>(k.kw b a).tr (h.kw b a),⟨k.os.1.tr h.os.1,k.os.2.tr h.os.2⟩,aAw h.up k.up⟩
def SO.tr{D1 a:Nat->Prop}(h:SO B D1 w w1 v1)(k:SO B a w1 w2 v2):SO B a w w2 v2:=SO.trans h k
def sZ.trans{S1 a:yi}{D1 b:Nat->Prop}(h:sZ B S1 D1 w w1 v v1)(k:sZ B a b w1 w2 v1 v2):sZ B a b w w2 v v2:=
 ⟨h.toSO.tr k.toSO,k.hid,h.tw.tr k.tw⟩
def sZ.tr{S1 a:yi}{D1 b:Nat->Prop}(h:sZ B S1 D1 w w1 v v1)(k:sZ B a b w1 w2 v1 v2):sZ B a b w w2 v v2:=sZ.trans h k
def kl{D:Nat->Prop}(p:Dk B D w)(j:Rel (cM D) w u)(k:Rel (cM D) w' v')(r:pY w w' v')(I:B<=w.heap.size)(v:∀b,b<B->v'.heap[b]?=u.heap[b]?)(F:∀(b:Nat) (e:Fh),u.heap[b]?=some (.cells #[] e)->v'.heap[b]?=some (.cells #[] e))(q:u.heap.size<=v'.heap.size)(z:v'.os=u.os/\v'.output=u.output):SO B D w w' v':=by
 have A:∀b,b<B->w'.heap[b]?=w.heap[b]?:=fun b m=>by
  have lY:∀o,v'.heap[b]?=some o->¬QD o->¬D b:=fun o l a d=>by
   rcases ki p j b d with⟨h,_⟩| ⟨_,h⟩
   .omega
   .rw[<-v b m,l] at h;cases h;exact a (.inr rfl)
  cases l:v'.heap[b]? with
  |none=>
   have:=aCc.1 l;have:=j.size;omega
  |some o=>
   by_cases a:QD o
   .exact r b o l a oM
   .have n:=lY o l a;have i:=k.look b;have g:=j.look b;rw[<-v b m] at g;rw[l] at i g;generalize w'.heap[b]?=x at i⊢;generalize w.heap[b]?=y at g⊢;cases i with
    |gP d=>exact absurd d n
    |shut d=>exact absurd d n
    |view _ f=>exact absurd (Or.inl (by cases o<;>first|exact f.elim|trivial)) a
    |same _=>
     cases g with
     |gP d=>exact absurd d n
     |shut d=>exact absurd d n
     |view _ f=>exact absurd (Or.inl (by cases o<;>first|exact f.elim|trivial)) a
     |same _=>rfl
 refine⟨k,fun b d=>?_,A,⟨by rw[<-k.os,z.1,j.os],by rw[<-k.out,z.2,j.out]⟩,by rw[<-k.size,<-j.size];exact q⟩;rcases p b d with⟨h,c,e,C,H⟩| ⟨h,o,t,h3,h4⟩
 .rcases ki p j b d with⟨_,E,s,G⟩| ⟨t,_⟩
  .refine .inl ⟨h,?_⟩;have i:=k.look b;rw[F b E G] at i;generalize w'.heap[b]?=x at i;cases i with
   |gP _=>exact⟨_,_,s,rfl⟩
   |view _ f=>exact f.elim
   |same r=>exact absurd trivial ((r _ rfl).2 d)
  .omega
 .exact .inr ⟨h,o,(A b h).tr t,h3,h4⟩
def jP{a:yi}{D:Nat->Prop}(h:Dk B D w)(f:Rel (cM D) w v)(d:jU (cM D) a)(l:B<=w.heap.size)(g:Rel (cM D) w u)(k:Rel (cM D) w' v')(m:pY w w' v')(c:Bw u v'):sZ B a D w w' v v':=
 ⟨kl h g k m l (fun b j=>c.block b (by rw[g.size];omega)) (fun b e i=>(c.block b (aAu.1 i).1).tr i) c.size ⟨c.os,c.output⟩,d,(mZ h f g).tr (kh c)⟩
def dQ{c:yi}{D:Nat->Prop}(h:Dk B D w)(a:Rel (cM D) w v)(e:jU (cM D) c)(d:w'.heap=w.heap)(f:w'.os=w.os/\w'.output=w.output):sZ B c D w w' v v:=
 ⟨⟨⟨by rw[d];exact a.size,fun b g=>by rw[d];exact a.low b g,fun b=>by rw[d];exact a.look b,a.code,by rw[f.1];exact a.os,by rw[f.2];exact a.out⟩,fun b g=>by rw[d];exact h b g,fun b _=>by rw[d],f,by rw[d];exact aAz _⟩,e,Tw.refl v⟩
def Ed{D:Nat->Prop}{b:yi}(f:Rel (cM D) w v)(d:jU (cM D) b):∀l,b l->∃a:Addr,l=.cell a/\a.block<w.heap.size:=fun l c=>by have⟨a,e,g⟩:=d l c;exact⟨a,e,f.low _ g⟩
def Nx:bQ Tryz.prog JR=true:=kR
def D1(D:Nat->Prop)(g:Nat)(b:Nat):Prop:=D b\/b=g
def S1(a:yi)(g:Nat)(l:Loc):Prop:=a l\/Go.ConcN.ShN g l
def Ee{D:Nat->Prop}{b:yi}{g:Nat}(h:jU (cM D) b):jU (cM (D1 D g)) (S1 b g):=fun l c=>by
 rcases c with c| ⟨a,e,d⟩
 .have⟨a,e,f⟩:=h l c;exact⟨a,e,.inl f⟩
 .exact⟨a,e,.inr d⟩
def XL{i:yi}{D:Nat->Prop}{code:Nat->Lp}(M:B<=w.heap.size)(g:Rel (cM D) w v)(G:Dk B D w)(r:jU (cM D) i)(d:Found n code w w'):
  ∃u,sZ B (S1 i (w.heap.size+2)) (D1 D (w.heap.size+2)) w w' v u:=by
 have I:=d.grown;have s:Dk B (D1 D (w.heap.size+2)) w':=fun b a=>by
  rcases a with a|rfl
  .rcases G b a with⟨l,c,e,y,t⟩| ⟨l,o,k,h3,h4⟩
   .exact .inl ⟨l,c,e,y,(d.frame b (g.low b a)).tr t⟩
   .exact .inr ⟨l,o,(d.frame b (g.low b a)).tr k,fun h=>h3 (pN.1 h),h4⟩
  .have m:w.heap.size+2<w'.heap.size:=oM
   have⟨x,F⟩:=d.wg;exact .inl ⟨oM,x,189,dC,F⟩
 obtain⟨u,E⟩:∃u,Rel (cM (D1 D (w.heap.size+2))) w' u:=by
  refine yD (fun b a=>?_) (fun b o C J H=>?_) fun b c e f a t=>?_
  .rcases a with a|rfl
   .have:=g.low b a;omega
   .omega
  .by_cases m:b<w.heap.size
   .rw[d.frame b m] at C;have q:=g.look b;rw[C] at q;generalize F:v.heap[b]?=x at q;cases q with
    |gP A=>exact .inl A
    |shut A=>exact .inl A
    |view z=>exact absurd z J
    |same _=>exact absurd (pN.1 (g.code b o F)) H
   .obtain⟨x,e,rfl⟩:=d.tidy b o oM C;exact absurd trivial H
  .rcases s b a with⟨_,K,L,_,p⟩| ⟨_,o,k,h3,_⟩
   .rw[t] at p;cases p;rfl
   .rw[t] at k;cases k;exact absurd trivial h3
 refine⟨u,⟨E,s,fun b a=>d.frame b oM,d.os,oM⟩,Ee r,⟨by rw[g.size,E.size];omega,fun b o l k=>?_⟩⟩;have a:b<w.heap.size:=by rw[<-g.size];exact(aAu.1 l).1
 have q:=g.look b;have j:=E.look b;rw[d.frame b a] at j;have e:(cM (D1 D (w.heap.size+2))) b=(cM D) b:=by show(D b\/b=w.heap.size+2)=D b;exact propext ⟨fun h=>h.elim id (fun h=>oM),.inl⟩
 rw[e] at j;exact LO q j (Jc G b) l k
def dR{a:yi}{S:WM}{I:K6}(h:cO Tryz.prog true AtRel kD S I n g)(f:I w)(b:fB Tryz.prog a B N g w m t):
  Runs Tryz.prog m t fun j i=>∃d w',S d w'/\(w'.os=w.os/\w'.output=w.output)/\fB Tryz.prog a B N d w' j i:=
 xE (D:=kD) (β:=fun _=>B) (fun _ _=>rfl) (fun _ _ k h=>⟨aAz _,fun e c=>by rw[h.1] at c;simp at c⟩) (fun _ _ _ h=>h.2) (h w f) b
def eM{a:yi}{D:Nat->Prop}{S:WM}(d:jU (cM D) a)(h:nR Tryz.prog (kY (cM D)) S g w)(b:fB Tryz.prog a w.heap.size N g w m t):
  Runs Tryz.prog m t fun f e=>∃c w',S c w'/\fB Tryz.prog a w'.heap.size N c w' f e:=
 tZ (β:=fun w=>w.heap.size) (fun _ _=>rfl) (NT d) h ⟨w.drawn,rfl⟩ b
def BV{R g:Ending->K6}(h:∀e w,R e w->g e w){e:Exit}(b:bodyPost P fn R e a w):bodyPost P fn g e a w:=by
 cases e with
 |normal=>exact⟨b.1,let⟨v,f,d⟩:=b.2;⟨v,f,h _ _ d⟩⟩
 |ret=>exact⟨b.1,let⟨v,f,d⟩:=b.2;⟨v,f,h _ _ d⟩⟩
 |panic c=>exact⟨b.1,h _ _ b.2⟩
 |outgrown=>exact h _ _ b
 |_=>exact b.elim
def PT{g:yi}{D:Nat->Prop}(hB:B<=w.heap.size)(b9:aB.b0<=v.heap.size)(q:Rel (cM D) w v)(a7:Dk B D w)(z:jU (cM D) g)(n:v.heap[qa.b]?=some (.cells qa.x qa.e qa.f))(a6:qa.e≠4)(a4:ds=[]\/aa=some (ad qa.b off))(Z:0<qa.x.size)(hX:off+ds.length*8<=qa.x.size)(hI:uE v aa ds)(J:gM (ds.map (·.1)))(ho:o+64<2147483647)(Y:b₀.kind=.normal)(a5:a₀.defers=[])(b5:jS prog ops0=true)(V:∀x∈k₀,dY prog x=true)(b8:fB prog g w.heap.size (o+1) (G ((base 35).at ⟨#[.sl aa ds.length cap]++Array.replicate 45 ud,[]⟩ [.code (f35.body.getD .skip)]) (b₀.at a₀ (.inRegion ops0 (i₀::rest0)::k₀)::cs)) w m t):
  Runs prog m t fun m' t'=>∃w' v' pl L,sZ B (S1 g (w.heap.size+2)) (D1 D (w.heap.size+2)) w w' v v'/\wC v' pl ds L/\v.heap.size<=pl/\
   fB prog (S1 g (w.heap.size+2)) w'.heap.size (o+ds.length+1) (G (after b₀ a₀ ops0 i₀ rest0 k₀ (pq pl 0)) cs) w' m' t':=by
 obtain⟨b,X,ty,fz⟩:=qa;simp only at n a6 a4 Z hX;have bs:ds.length<=64:=by simpa using J.1
 have y:∀i p,ds[i]?=some p->cI v b (off+i*8) (aV p.1 p.2):=fun i p hp=>by have⟨b',o',e,y⟩:=hI.acc.resolve_left (fun h=>by rw[h] at hp;simp at hp);have e2:=a4.resolve_left (fun h=>by rw[h] at hp;simp at hp);rw[e] at e2;cases e2;exact y i p hp
 have a0:=SM q n Z;have bc:¬D b:=fun P=>by
  rcases ki a7 q b P with⟨_,e,_,he⟩| ⟨_,he⟩
  .rw[n] at he;cases he;simp at Z
  .rw[n] at he;cases he
 obtain⟨code,U⟩:∃code:Nat->Lp,code=fun i=>((ds[i]?).map (·.1.code)).getD ByteArray.empty:=⟨_,rfl⟩;have E:∀i (f:i<ds.length),code i=ds[i].1.code:=fun i f=>by rw[U];simp[f]
 have H:Eb g ⟨b,X,ty,fz⟩ aa off ds.length code w:=by
  refine⟨a0,a6,a4.imp (fun h=>by rw[h];rfl) id,hX,fun k x h1 h2 hx=>?_,fun i f=>?_,fun i f=>?_,oM,fun a ha hS=>?_,Ed q z⟩
  .have f:(k - off) / 8<ds.length:=oM
   have h8:(k - off) % 8<(aV (ds[(k - off) / 8]).1 (ds[(k - off) / 8]).2).length:=aBE _ dC;have:=y _ _ (aAG f) ((k - off) % 8) _ (aAG h8);rw[cell_of_row v b _ X ty fz n,show off+(k - off) / 8*8+(k - off) % 8=k by exact oM] at this;change X[k]?=some x at hx;rw[hx] at this;cases this;exact FH _ _ _ (aBf h8)
  .have:=(y i _ (aAG f)) 6 _ rfl;rw[cell_of_row v b _ X ty fz n] at this;show X[off+i*8+6]?=_;rw[this,E i f]
  .rw[E i f];have:=(J.2.1 _ (aAI (aBf f))).2.2.2.2.1;exact oM
  .have⟨a',e,hz⟩:=z _ hS;cases e;have bo:_=b:=ha;exact bc (bo▸hz)
 refine(dR (vo (h0:=w.heap)) rfl b8).then fun m1 t1 h2=>?_;obtain⟨a1,w1,⟨rfl,I⟩,bg,M⟩:=h2;have r:w1.heap.size=w.heap.size:=by rw[I]
 have bf:Eb g ⟨b,X,ty,fz⟩ aa off ds.length code w1:=⟨by rw[I];exact H.row,H.ty,H.at',H.size,H.one,H.Lm,H.short,H.n31,H.sh,fun l hl=>by rw[I];exact H.low l hl⟩;rw[<-r] at M;refine(AB bf oM M).then fun m2 t2 h3=>?_;obtain⟨w2,hF,R⟩:=h3;have N:(Act.put ⟨#[.sl aa ds.length cap,ud,.pointer none,ud,ud,ud,ud,.sl aa ds.length cap,ud,ud,ud,ud,ud,ud,ud,ud,ud,ud,ud,ud,ud,ud,ud,ud,ud,ud,ud,ud,ud,ud,ud,ud,ud,ud,ud,ud,ud,ud,ud,ud,ud,ud,ud,ud,ud,ud],[]⟩ ((SN[1]?).bind (·.dst)) (sl w1.heap.size ds.length))=⟨#[.sl aa ds.length cap,ud,.pointer none,ud,ud,ud,ud,.sl aa ds.length cap,sl w1.heap.size ds.length,ud,ud,ud,ud,ud,ud,ud,ud,ud,ud,ud,ud,ud,ud,ud,ud,ud,ud,ud,ud,ud,ud,ud,ud,ud,ud,ud,ud,ud,ud,ud,ud,ud,ud,ud,ud,ud],[]⟩:=rfl;rw[N] at R;clear N;have C:=dQ (w':=w1) a7 q z I bg;have⟨u2,s⟩:=XL (by rw[r];exact hB) C.rel C.dk z hF;rw[r] at s;refine(dR (Jd (h0:=w2.heap)) rfl R).then fun m3 t3 h4=>?_;obtain⟨a3,w3,⟨rfl,F⟩,bj,K⟩:=h4;have al:w3.heap.size=w2.heap.size:=by rw[F]
 have c:=(C.tr s).tr (dQ (w':=w3) s.dk s.rel s.hid F bj);have br:=hF.grown;have S:=DF (D:=D1 D (w.heap.size+2)) (f:=35) (fn:=f35) (c:=JR) (b:=base 35) (b₀:=b₀) (a₀:=a₀) (ops0:=ops0) (i₀:=i₀) (rest0:=rest0) (k₀:=k₀) (cw:=cs) (w:=w3)
  (Ψ:=fun val v'=>∃u,Rel (cM (D1 D (w.heap.size+2))) w3 u/\∃L j,val=pq (u.heap.size+2) 0/\KM u v' ds j ds.length L/\∀i,i<ds.length->∃A,j i=⟨some ⟨A,0,none⟩,(code i).size,(code i).size⟩/\u.heap[A]?=ob (marks (code i) (code i).size 0 (fI (code i).size)) 4)
  rfl (qz func35) rfl rfl Nx Y a5 b5 V ⟨_,c.rel⟩ (a:=⟨#[.sl aa ds.length cap,ud,.pointer none,sl w1.heap.size ds.length,ud,ud,ud,.sl aa ds.length cap,sl w1.heap.size ds.length,ud,ud,ud,ud,ud,ud,ud,ud,ud,ud,ud,ud,ud,ud,ud,ud,ud,ud,ud,ud,ud,ud,ud,ud,ud,ud,ud,ud,ud,ud,ud,ud,ud,ud,ud,ud,ud],[]⟩) (fun u O=>?_)
 ·
  rw[r] at K;have ar:fB Tryz.prog (S1 g (w.heap.size+2)) w3.heap.size (o+ds.length+1) (G ((base 35).at ⟨#[.slice aa ds.length cap,undef,.pointer none,sl w1.heap.size ds.length,undef,undef,undef,.slice aa ds.length cap,sl w1.heap.size ds.length,undef,undef,undef,undef,undef,undef,undef,undef,undef,undef,undef,undef,undef,undef,undef,undef,undef,undef,undef,undef,undef,undef,undef,undef,undef,undef,undef,undef,undef,undef,undef,undef,undef,undef,undef,undef,undef],[]⟩ [.code JR]) (b₀.at a₀ (.inRegion ops0 (i₀::rest0)::k₀)::cs)) w3 m3 t3:=by rw[al,r];exact K
  refine(eM c.hid S ar).mono fun m5 t5 h5=>?_;obtain⟨g5,w5,⟨val,v5,rfl,bd,b7,u,O,L,j,rfl,hN,hM⟩,b2⟩:=h5;have b0:=jP c.dk c.rel c.hid (aAw hB c.up) O bd b7 hN.below;have W:=c.tw.tr (mZ c.dk c.rel O);refine⟨w5,v5,u.heap.size+2,L,c.tr b0,⟨⟨_,_,hN.lg (hI.tw W) J (aAw b9 W.size)⟩,hN.len,fun i d P=>?_⟩,?_,b2⟩
  .have f:i<ds.length:=by
    rcases aCi i ds.length with h|h
    .exact h
    .rw[List.getElem?_eq_none h] at P;cases P
   have⟨pa,ms,d',a8,hL⟩:=hN.mu i f;rw[P] at a8;cases a8;have bi:code i=d.code:=by rw[E i f];rw[aAG f] at P;simp only[aAX,aAF] at P;rw[P]
   have⟨A,b1,ac⟩:=hM i f;rw[bi] at b1 ac;exact⟨pa,ms,A,by rw[hL,b1],bk hN.below ac⟩
  .have:=W.size;exact oM
 .have bl:uE u aa ds:=hI.tw (c.tw.tr (mZ c.dk c.rel O));have b4:¬D1 D (w.heap.size+2) w1.heap.size:=fun h=>by
   rcases h with h|h
   .have:=q.low _ h;exact oM
   .omega
  have⟨b3,a2,bw⟩:=hF.pay;rw[<-F] at a2;have bm:=HA O a2 b4;have T:∀i,i<ds.length->∃A,u.heap[A]?=ob (marks (code i) (code i).size 0 (fI (code i).size)) 4/\u.cA w1.heap.size i=some (.sl (some (ad A 0)) (code i).size (code i).size):=fun i f=>by
   have⟨A,bv,b6,hc,bt⟩:=hF.cell i f;rw[cell_of_row w2 _ i b3 132 (0,0) (by rw[<-F];exact a2)] at hc;refine⟨A,HA O (by rw[F];exact b6) (fun h=>?_),(cell_of_row u _ i b3 132 (0,0) bm).tr hc⟩;rcases h with h|h
   .have:=q.low _ h;exact oM
   .omega
  have a9:∃j:Nat->SV,∀i,i<ds.length->(u.cA w1.heap.size i=some (.sl (j i).a (j i).n (j i).c))/\∃A,j i=⟨some ⟨A,0,none⟩,(code i).size,(code i).size⟩/\u.heap[A]?=ob (marks (code i) (code i).size 0 (fI (code i).size)) 4:=by refine⟨fun i=>if h:i<ds.length then⟨some ⟨(T i h).choose,0,none⟩,(code i).size,(code i).size⟩ else⟨none,0,0⟩,fun i f=>?_⟩;dsimp only;rw[dif_pos f];exact⟨(T i f).choose_spec.2,_,rfl,(T i f).choose_spec.1⟩
  obtain⟨j,Q⟩:=a9;have bn:=Io ds aa cap w1.heap.size ds.length j u bl (fun i f=>(Q i f).1) (by rw[O.size];exact oM) J;refine Code.wp_mono ?_ bn;intro e a' v' bh;exact BV (fun e v' ⟨val,h1,L,h2,h3⟩=>⟨val,h1,u,O,L,j,h2,h3,fun i f=>(Q i f).2⟩) bh
def qF{D:Nat->Prop}{f:FuncId}{c:Code}{l:K4}{b:Frame}{cw:eX}{Ψ:vZ->K6}(C:b.fn=f)(J:zQ.prog.funcs[f]?=some fn)(N:b.kind=.normal)(U:a.defers=[])(S:jS Tryz.prog ops=true)(V:bQ Tryz.prog c=true)(t:b₀.kind=.normal)(j:a₀.defers=[])(E:jS Tryz.prog ops0=true)(u:∀x∈k₀,dY Tryz.prog x=true)(K:∃v,Rel (cM D) w v)(M:∀v,Rel (cM D) w v->wpOps zQ.prog ops (fun e k v'=>e=.normal/\c.wp zQ.prog (bodyPost zQ.prog fn fun e v'=>∃val,e=.returned val/\Ψ val v') k v') l a v):
  nR Tryz.prog (kY (cM D)) (fun g w'=>∃val v',g=G (after b₀ a₀ ops0 i₀ rest0 k₀ val) cw/\Rel (cM D) w' v'/\pY w w' v'/\Ψ val v') (G (b.at a (.inRegion ops l::[.code c])) (b₀.at a₀ (.inRegion ops0 (i₀::rest0)::k₀)::cw)) w:=by
 have O:∀k,k.defers=[]->∀l,dK Tryz.prog (b₀.at k (.inRegion ops0 l::k₀)):=fun k F l=>jJ t F (fun x s=>by rcases List.mem_cons.1 s with rfl|s;exact E;exact u x s);refine mD ?_ (lift (fair D) (cw:=cw) (S:=fun fr p v=>∃val,fr=after b₀ a₀ ops0 i₀ rest0 k₀ val/\p=[]/\Ψ val v) (fr:=b.at a (.inRegion ops l::[.code c])) (frs:=[b₀.at a₀ (.inRegion ops0 (i₀::rest0)::k₀)]) (w:=w)
  (jJ N U (fun x s=>by rcases List.mem_cons.1 s with rfl|s;exact S;rw[List.mem_singleton.1 s];exact V)) (fun f J=>by rw[List.mem_singleton.1 J];exact O a₀ j _) K (fun v T=>?_))
 .rintro g w' ⟨fr,p,v,rfl,q,L,val,rfl,rfl,d⟩;exact⟨val,v,rfl,q,L,d⟩
 .obtain⟨W,R,v1,⟨rfl,B⟩,I⟩:=wp_ops _ _ _ (M v T) b [.code c] (b₀.at a₀ (.inRegion ops0 (i₀::rest0)::k₀)::[dJ FQ.size]);obtain⟨e,k,v',z,P⟩:=B b [] (b₀.at a₀ (.inRegion ops0 (i₀::rest0)::k₀)::[dJ FQ.size]);have H:Steps zQ.prog (lone (b.at a (.inRegion ops l::[.code c])) (b₀.at a₀ (.inRegion ops0 (i₀::rest0)::k₀)::[dJ FQ.size]) v) (lone (b.at R [.code c]) (b₀.at a₀ (.inRegion ops0 (i₀::rest0)::k₀)::[dJ FQ.size]) v1):=I;have fin:∀val,(b₀.at a₀ (.inRegion ops0 (i₀::rest0)::k₀)).finish val=after b₀ a₀ ops0 i₀ rest0 k₀ val:=fun val=>Frame.finish_at _ _ _ _ _ _ _;have key:∀val,(∃i,Steps zQ.prog (lone (b.at R [.code c]) (b₀.at a₀ (.inRegion ops0 (i₀::rest0)::k₀)::[dJ FQ.size]) v1) (lone {b.at k i with mode:=.returning} (b₀.at a₀ (.inRegion ops0 (i₀::rest0)::k₀)::[dJ FQ.size]) v'))->k.defers=[]->(results fn k.tmps).run zQ.prog v'=.ok val v'->Ψ val v'->
    ∃n r m A,runN (strip Tryz.prog FQ) n (lone (b.at a (.inRegion ops l::[.code c])) ([b₀.at a₀ (.inRegion ops0 (i₀::rest0)::k₀)]++[dJ FQ.size]) v)=.next (lone r (m++[dJ FQ.size]) A)/\dK Tryz.prog r/\∃val,r=after b₀ a₀ ops0 i₀ rest0 k₀ val/\m=[]/\Ψ val A:=by
   rintro val ⟨i,L⟩ y q d;obtain⟨n,Q⟩:=(H.trans L).trans (vX (todo:=i) C N J y q);rw[fin,Ra] at Q;exact⟨n,_,[],v',Q,O _ (RL _ _ _ j) _,val,rfl,rfl,d⟩
  cases e with
  |normal=>
   obtain⟨y,x,q,val,o,d⟩:=z;cases o;exact key _ ⟨[],P.trans (.one step_end)⟩ y q d
  |ret=>
   obtain⟨y,x,q,val,o,d⟩:=z;cases o;exact key _ P y q d
  |panic X=>obtain⟨_,_,h,_⟩:=z;cases h
  |outgrown=>obtain⟨_,h,_⟩:=z;cases h
  |_=>exact z.elim
noncomputable def c8:Code:=match Tryz.f16.body with
 |some (.seq _ (.seq c _))=>c
 |_=>.skip
noncomputable def d8:Code:=match Tryz.f16.body with
 |some (.seq _ (.seq _ c))=>c
 |_=>.skip
noncomputable def e8:Code:=match d8 with
 |.seq _ c=>c
 |_=>.skip
noncomputable def AD:DQ:=match d8 with
 |.seq (.region _ o _) _=>o
 |_=>#[]
def Ny:bQ Tryz.prog c8=true:=kR
def Nz:dY Tryz.prog (.code d8)=true:=kR
def Je:bQ Tryz.prog e8=true:=kR
def Jf:jS Tryz.prog AD=true:=kR
def Ef:cO Tryz.prog true AtRel kD (fun g w=>g=G ((base 16).at ⟨#[.slice aa n cap,ud,.pointer none,.nilIface,ud,ud,ud,ud,ud,ud,ud,ud,ud],[]⟩ [.code c8,.code d8]) cs/\w.heap=h0) (fun w=>w.heap=h0) 30
   (G ((base 16).at ⟨#[.slice aa n cap]++Array.replicate 12 ud,[]⟩ [.code (Tryz.f16.body.getD .skip)]) cs):=by
 have E:=nK h0;obtain⟨j,e⟩:∃c,c=c8:=⟨_,rfl⟩;have b:=e;obtain⟨be,d⟩:∃c,c=d8:=⟨_,rfl⟩;have a:=d;simp only[c8,Tryz.f16] at b;simp only[d8,Tryz.f16] at a;rw[<-e,<-d];simp only[Tryz.f16,aAK];rw[<-b,<-a]
 walk_nrm
 repeat (first
  |refine bU E ?_
  |refine aP E ?_
  |refine bI E ?_
  | (refine bV E rfl rfl sQ2 (fun w i K f=>?_);go_simp;refine f _ sQ1 ?_;clear f K i w;try w_num))
 exact cD E fun w h=>⟨rfl,h⟩
def N0:cO Tryz.prog true AtRel kD (fun g w=>g=G ((base 35).at ⟨#[.slice aa n cap]++Array.replicate 45 ud,[]⟩ [.code (Tryz.f35.body.getD .skip)]) ((base 16).at ⟨#[.slice aa n cap,ud,.pointer none,.nilIface,.slice aa n cap,.bool true,.bool false,ud,ud,.slice aa n cap,ud,ud,ud],[]⟩ (.inRegion AD [1,2,3,4,5]::[.code e8])::cs)/\w.heap=h0) (fun w=>w.heap=h0) 30
   (G ((base 16).at ⟨#[.slice aa n cap,ud,.pointer none,.nilIface,.slice aa n cap,.bool true,.bool false,ud,ud,ud,ud,ud,ud],[]⟩ [.code d8]) cs):=by
 have E:=nK h0;obtain⟨be,e⟩:∃c,c=e8:=⟨_,rfl⟩;have a:=e;simp only[e8,d8,Tryz.f16] at a;obtain⟨j,d⟩:∃c,c=Tryz.f35.body.getD .skip:=⟨_,rfl⟩;rw[<-e,<-d];simp only[AD,d8,Tryz.f16];rw[<-a]
 walk_nrm
 repeat (first
  |refine bU E ?_
  |refine cF E ?_
  | (refine bV E rfl rfl sQ2 (fun w k K h=>?_);go_simp;refine h _ sQ1 ?_;clear h K k w;try w_num))
 have f:(Tryz.f35.name== "runtime.NumGoroutine")=false:=kR
 have b:Tryz.f35.body=some j:=by rw[d];kernel_rfl
 refine eY E rfl rfl sQ2 rfl Tryz.func35 f b ?_;rw[Tryz.ntmps35];clear f b d e a
 walk_nrm
 exact cD E fun w i=>⟨rfl,i⟩
def N3(ds:List (bF×SV))(v v':WR)(val:vZ):Prop:=
 (gM (ds.map (·.1))/\∃a b L,val=.tuple #[pq a 0,.nilIface]/\v'.heap[a]?=ob #[pq b 0] 87/\wC v' b ds L/\v.heap.size<=b/\v.heap.size<=a)\/
 (¬gM (ds.map (·.1))/\val=.tuple #[.pointer none,.iface 90 (.agg #[.int .i64 1])])
def AE{Q:Fg}(l:List Oper)(k n:Nat)(c:l.length=n)(b:∀j,l[j]?=ops[k+j]?)(h:wpList P ops Q l a w):wpOps P ops Q (List.range' k n) a w:=by rw[<-c,wpOps_eq_wpList l k b];exact h
def N4:bQ Tryz.prog (Tryz.f16.body.getD .skip)=true:=kR
def Jg(u:WR)(g:uE u aa ds)(c:gM (ds.map (·.1)))(d:Fi)(a:∀v',Bw u v'->d ⟨#[.sl aa ds.length cap,ud,.pointer none,.nilIface,.sl aa ds.length cap,.bool true,.bool false,ud,ud,ud,ud,ud,ud],[]⟩ v'):
  c8.wp zQ.prog (fun e f v'=>e=.normal/\f.defers=[]/\d f v') ⟨#[.sl aa ds.length cap,ud,.pointer none,.nilIface,ud,ud,ud,ud,ud,ud,ud,ud,ud],[]⟩ u:=by
 have b:=LQ ds aa cap u g;rw[decide_eq_true c] at b;dsimp only[c8,f16];go_wp2_with fail;refine b.mono ?_;rintro e w1 ⟨rfl,h⟩;have:=a _ h;clear a;go_wp2_with fail;exact this
def Ql(u:WR)(f:uE u aa ds)(c:¬gM (ds.map (·.1)))(d:vZ->K6)(b:∀v',Bw u v'->d (.tuple #[.pointer none,.iface 90 (.agg #[vI 1])]) v'):
  (Tryz.f16.body.getD .skip).wp zQ.prog (bodyPost zQ.prog Tryz.f16 fun e v'=>∃val,e=.returned val/\d val v') ⟨#[.slice aa ds.length cap]++Array.replicate 12 ud,[]⟩ u:=by
 have a:=LQ ds aa cap u f;rw[decide_eq_false c] at a;dsimp only[Tryz.f16,gdS];go_wp2_with fail;refine a.mono ?_;rintro e w1 ⟨rfl,g⟩;go_wp2;simp[bodyPost,results,go_sem];exact b _ g
theorem Jh(u:WR)(pl:Nat)(Ψ:vZ->K6)(hΨ:∀v',v'.heap[u.heap.size]?=ob #[pq pl 0] 87->Below u.heap.size u v'->Ψ (.tuple #[pq u.heap.size 0,.nilIface]) v'):
  wpOps zQ.prog AD (fun e a' v'=>e=.normal/\e8.wp zQ.prog (bodyPost zQ.prog Tryz.f16 fun e v'=>∃val,e=.returned val/\Ψ val v') a' v') [2,3,4,5] ⟨#[.slice aa ds.length cap,undef,.pointer none,.nilIface,.slice aa ds.length cap,.bool true,.bool false,undef,undef,.slice aa ds.length cap,pq pl 0,undef,undef],[]⟩ u:=by
 obtain⟨fn,hfn⟩:∃fn,fn=Tryz.f16:=⟨_,rfl⟩;have hres:fn.results=#[ResultVar.tmp 2,ResultVar.tmp 3]:=by rw[hfn];exact Tryz.results16
 rw[<-hfn];clear hfn;obtain⟨l,hl⟩:∃l,l=AD.toList.drop 2:=⟨_,rfl⟩;have hl':=hl;simp only[AD,d8,Tryz.f16,List.drop_succ_cons,List.drop_zero] at hl';refine AE l 2 4 (by rw[hl'];rfl) (fun j=>by rw[hl];simp) ?_;rw[hl'];dsimp only[e8,AD,d8,Tryz.f16];clear hl' hl l;go_wp2;simp[bodyPost,results,hres,go_sem];exact hΨ _ (aM u _) ba
def EE{p:yi}{D:Nat->Prop}(W:B<=w.heap.size)(a3:aB.b0<=v.heap.size)(f:Rel (cM D) w v)(F:Dk B D w)(c:jU (cM D) p)(T:v.heap[qa.b]?=some (.cells qa.x qa.e qa.f))(Z:qa.e≠4)(ac:ds=[]\/aa=some ⟨qa.b,off,none⟩)(a8:0<qa.x.size)(hX:off+ds.length*8<=qa.x.size)(hI:uE v aa ds)(ho:o+64<2147483647)(k:b₀.kind=.normal)(q:a₀.defers=[])(M:jS Tryz.prog ops0=true)(j:∀x∈k₀,dY Tryz.prog x=true)(O:fB Tryz.prog p w.heap.size (o+1) (G ((base 16).at ⟨#[.slice aa ds.length cap]++Array.replicate 12 ud,[]⟩ [.code (Tryz.f16.body.getD .skip)]) (b₀.at a₀ (.inRegion ops0 (i₀::rest0)::k₀)::cs)) w m t):
  Runs Tryz.prog m t fun m' t'=>∃w' v' mH D' o' val,sZ B mH D' w w' v v'/\N3 ds v v' val/\o'<=o+64/\
   fB Tryz.prog mH w'.heap.size (o'+1) (G (after b₀ a₀ ops0 i₀ rest0 k₀ val) cs) w' m' t':=by
 by_cases g:gM (ds.map (·.1))
 rotate_left
 .have e:=DF (D:=D) (f:=16) (fn:=Tryz.f16) (c:=Tryz.f16.body.getD .skip) (b:=base 16) (b₀:=b₀) (a₀:=a₀) (ops0:=ops0) (i₀:=i₀) (rest0:=rest0) (k₀:=k₀) (cw:=cs) (w:=w)
   (Ψ:=fun val v'=>∃u,Rel (cM D) w u/\val=.tuple #[.pointer none,.iface 90 (.agg #[vI 1])]/\Bw u v')
   rfl (qz func16) rfl rfl N4 k q M j ⟨v,f⟩ (a:=⟨#[.slice aa ds.length cap]++Array.replicate 12 ud,[]⟩) (fun u h=>Ql u (hI.tw (mZ F f h)) g _ (fun v' s=>⟨u,h,rfl,s⟩))
  refine(eM c e O).mono fun m5 t5 h5=>?_;obtain⟨g5,w5,⟨val,v5,rfl,J,H,u,h,l,s⟩,r⟩:=h5;exact⟨w5,v5,p,D,o,val,jP F f c W h J H s,.inr ⟨g,l⟩,oM,r⟩
 have al:ds.length<=64:=by simpa using g.1
 refine(dR (Ef (h0:=w.heap)) rfl O).then fun m1 t1 h2=>?_;obtain⟨a1,w1,⟨rfl,N⟩,a7,A⟩:=h2;have b:=dQ (w':=w1) F f c N a7;have e:=mE (D:=D) (c:=c8) (b:=base 16) (k:=[.code d8]) (cw:=b₀.at a₀ (.inRegion ops0 (i₀::rest0)::k₀)::cs) (w:=w1) (a:=⟨#[.slice aa ds.length cap,ud,.pointer none,.nilIface,ud,ud,ud,ud,ud,ud,ud,ud,ud],[]⟩)
  (Φ:=fun a' v'=>a'=⟨#[.slice aa ds.length cap,ud,.pointer none,.nilIface,.slice aa ds.length cap,.bool true,.bool false,ud,ud,ud,ud,ud,ud],[]⟩/\∃u,Rel (cM D) w1 u/\Bw u v') rfl rfl Ny (fun x hx=>by rw[aAB.1 hx];exact Nz) ⟨_,b.rel⟩
  (fun u h=>Jg u (hI.tw (mZ b.dk b.rel h)) g _ (fun v' s=>⟨rfl,u,h,s⟩))
 have Q:w1.heap.size=w.heap.size:=by rw[N]
 rw[<-Q] at A;refine(eM c e A).then fun m2 t2 h3=>?_;obtain⟨g2,w2,⟨a2,v2,rfl,X,a0,_,rfl,u2,Y,a5⟩,V⟩:=h3;have n:=b.trans (jP b.dk b.rel c (aAw W b.up) Y X a0 a5);refine(dR (N0 (h0:=w2.heap)) rfl V).then fun m3 t3 h4=>?_;obtain⟨g3,w3,⟨rfl,U⟩,a9,z⟩:=h4;have a:=n.trans (dQ (w':=w3) n.dk n.rel c U a9);have R:w3.heap.size=w2.heap.size:=by rw[U]
 rw[<-R] at z;have a4:uE v2 aa ds:=hI.tw a.tw;refine(PT (o:=o) (b₀:=base 16) (a₀:=⟨#[.slice aa ds.length cap,ud,.pointer none,.nilIface,.slice aa ds.length cap,.bool true,.bool false,ud,ud,.slice aa ds.length cap,ud,ud,ud],[]⟩) (ops0:=AD) (i₀:=1) (rest0:=[2,3,4,5]) (k₀:=[.code e8]) (aAw W a.up) (aAw a3 a.tw.size) a.rel a.dk c (a.tw.obj qa.b _ T (.inl trivial)) Z ac a8 hX a4 g ho rfl rfl Jf (fun x hx=>by rw[aAB.1 hx];exact Je) z).then fun m4 t4 h5=>?_;obtain⟨w4,v4,K,L,d,S,a6,C⟩:=h5;have P:after (base 16) ⟨#[.slice aa ds.length cap,ud,.pointer none,.nilIface,.slice aa ds.length cap,.bool true,.bool false,ud,ud,.slice aa ds.length cap,ud,ud,ud],[]⟩ AD 1 [2,3,4,5] [.code e8] (pq K 0)=(base 16).at ⟨#[.slice aa ds.length cap,ud,.pointer none,.nilIface,.slice aa ds.length cap,.bool true,.bool false,ud,ud,.slice aa ds.length cap,pq K 0,ud,ud],[]⟩ (.inRegion AD [2,3,4,5]::[.code e8]):=rfl;rw[P] at C;have y:=qF (D:=D1 D (w3.heap.size+2)) (f:=16) (fn:=Tryz.f16) (c:=e8) (ops:=AD) (l:=[2,3,4,5]) (b:=base 16) (b₀:=b₀) (a₀:=a₀) (ops0:=ops0) (i₀:=i₀) (rest0:=rest0) (k₀:=k₀) (cw:=cs) (w:=w4) (a:=⟨#[.slice aa ds.length cap,ud,.pointer none,.nilIface,.slice aa ds.length cap,.bool true,.bool false,ud,ud,.slice aa ds.length cap,pq K 0,ud,ud],[]⟩)
  (Ψ:=fun val v'=>∃u,Rel (cM (D1 D (w3.heap.size+2))) w4 u/\val=.tuple #[pq u.heap.size 0,.nilIface]/\v'.heap[u.heap.size]?=ob #[pq K 0] 87/\Bw u v')
  rfl (qz func16) rfl rfl Jf Je k q M j ⟨_,d.rel⟩ (fun u h=>Jh u K _ (fun v' hc s=>⟨u,h,rfl,hc,s⟩))
 refine(eM d.hid y C).mono fun m5 t5 h6=>?_;obtain⟨g5,w5,⟨val,v5,rfl,J,H,u,h,l,I,s⟩,r⟩:=h6;have i:=a.trans d;have E:=jP d.dk d.rel d.hid (aAw W i.up) h J H s;have ad:v4.heap.size=u.heap.size:=by rw[d.rel.size,h.size]
 exact⟨w5,v5,_,_,o+ds.length,val,i.trans E,.inl ⟨g,_,K,L,l,I,S.tw E.tw,aAw a.tw.size a6,by rw[<-ad];exact i.tw.size⟩,oM,r⟩
end
end Go.Mark
