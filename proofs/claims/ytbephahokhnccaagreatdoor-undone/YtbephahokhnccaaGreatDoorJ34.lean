import Derived.Test.YtbephahokhnccaaGreatDoorJ33
set_option linter.all false
set_option maxHeartbeats 16000000
set_option maxRecDepth 100000
namespace Go.Mark
open Go.RowKit Go.Proofs Go.Proofs.Tryz
variable{A:AM}{a:Act}{dp li:Addr}{h0:Array Obj}{ops:DQ}{T:Ff}{gd:Bool}{cr:Int}{L:List (Int×Nat×Ac)}{os:List (bF×SV)}{cs cw:eX}{k:List Item}{l2:K4}{B b n bo g c pw pl cap x q l m:Nat}{o:Od}{aa:yj}{P:K5}{v:SV}{x7 x8 x9 y:vZ}{W W' w u:WR}{d d1 d2:bF}
section
open Go.Lift
variable [aB]
def PV(h:Bw W W')(r:Option Nat):W.grownBy W' r:=⟨h.os,h.tape,h.output,h.size,fun k a _=>h.block k a⟩
def nC{V U:WR}{c:Nat}(h:W.grownBy V (some g))(k:V.grownBy U (some c))(f:c=g\/W.heap.size<=c):W.grownBy U (some g):=
 ⟨k.os.tr h.os,k.tape.tr h.tape,k.output.tr h.output,aAw h.size k.size,fun b d a=>(k.block b (aAy d h.size) (fun e=>by
  cases e;rcases f with e|e
  .exact a (by rw[e])
  .omega)).tr (h.block b d a)⟩
def dD.kept(h:dD B W v os)(d:W.grownBy W' (some g))(f:g<B):dD B W' v os:=
 ⟨iK h.own d (fun b e a=>by have:=nX h.own b e;cases a;omega),fun p c=>iK (h.sl p c) d (fun b e a=>by have:=nX (h.sl p c) b e;cases a;omega),h.HI,h.apart⟩
def vq(d:bF)(x:Nat):(sW d x).bal=(d.bal+M - x) % M:=by unfold sW;generalize(d.bal+M - x) % M=y;rfl
def ln(d:bF)(x:Nat):(sW d x).bE=d.bE:=by unfold sW;generalize(d.bal+M - x) % M=y;rfl
def El(d:bF)(s:SV)(a:(d.bal+M - x) % M=q):lZ (aV {d with nonce:=d.nonce+1} s) 1 [.int .u64 (aI q 0),.int .u64 (aI q 1),.int .u64 (aI q 2),.int .u64 (aI q 3)]=aV (sW d x) s:=by unfold sW;rw[a];rfl
def dD.src{N:Nat}{s:SV}(h:dD B W ⟨some ⟨g,0,none⟩,N,c⟩ os)(a:os[n]?=some ({d with nonce:=d.nonce+1},s))(b:(d.bal+M - x) % M=q):
  dD B (W.setCells g (n*8+1) [vL q 0,vL q 1,vL q 2,vL q 3]) ⟨some ⟨g,0,none⟩,N,c⟩ (os.set n (sW d x,s))/\W.grownBy (W.setCells g (n*8+1) [vL q 0,vL q 1,vL q 2,vL q 3]) (some g):=
 h.upd (o:=1) (cs:=[vL q 0,vL q 1,vL q 2,vL q 3]) (p':=(sW d x,s)) a sI (El d s b) rfl (ln d x)
def Em{T:List bF}(h:Td A T)(b:Ok A o){k:Int}(c:Lj T o.src k):∃n:Nat,k=(n:Int)/\∃d,T[n]?=some d/\d.id=o.src:=by
 rcases c with⟨_,a⟩|c
 .have f:=b.has;have⟨d,g,e⟩:=h.all o.src (fun e=>by rw[e] at f;cases f);exact absurd e (a d g)
 .exact c
def Oi{rb:Nat}{vw vn:SV}{lv:SV}{f:List (bF×SV)}{T':List bF}{A':AM}(hT:G6 T bo rb vw vn .nilIface)(W:WR)(t:W.heap[bo]?=ob o.cs 43)(br:W.heap[rb]?=ob (fM false o.bP 0 lv ⟨#[]⟩) 34)(bv:lv.n=0)(hL:dD B W vw f)(hB:B<=W.heap.size)(H:Td A (f.map (·.1)))(a9:Tb (f.map (·.1)))(Z:Td A' T')(x:Ok A o)(X:yd A o A')(ac:f.length<100000000)(Φ:Fi)(b2:∀T2 b0 Y w' g,E6 T2 b0 vn->vw.blk=some g->dD B w' b0 Y->(Y.map (·.1)).Perm T'->W.grownBy w' (some g)->Φ ⟨T2,[]⟩ w'):
  (eR 7).wp zQ.prog (fun e a w=>e=.normal/\Φ a w) ⟨T,[]⟩ W:=by
 obtain⟨c,hc,bj⟩:=Og;rw[hc];clear hc;subst bj;refine LS ?_;refine Oh hT W _ fun T1 bn bm=>wp_cond_true (Ek bm) ?_;rw[Ej];refine LS (wp_mono (Jo bn W t br bv (S:=fun n=>∃d,(f.map (·.1))[n]?=some d/\d.id=o.src) ((PF hL.rl o.src oM).mono fun e w' ⟨k,E,s,h3⟩=>?_) (fun a w=>(Code.seq (xF 2) (.seq (xF 3) (.seq (xF 4) (.seq (xF 5) (nL 6 SP))))).wp zQ.prog (fun e a w=>e=.normal/\Φ a w) a w) (fun T2 n bb hn=>?_)) (fun e a w ⟨E,s⟩=>⟨E,LS s⟩))
 .obtain⟨n,rfl,G⟩:=Em H x s;exact⟨n,E,G,h3⟩
 obtain⟨d,G,P⟩:=hn;obtain⟨p,hp,rfl⟩:∃p,f[n]?=some p/\p.1=d:=by
  rw[aBy] at G;cases s:f[n]? with
  |none=>rw[s] at G;cases G
  |some p=>rw[s] at G;exact⟨p,rfl,by simpa using G⟩
 obtain⟨h,F⟩:=p;simp only at P G;obtain⟨va,N,cv⟩:=vw;obtain⟨g,bx,rfl,hN,b8,bz,C,b6⟩:=hL.row hp;have⟨l,i,hg,O,I,Q⟩:=x.nat;have L:o.bP.toNat*o.bK.toNat=l*i:=by rw[hg,O];rfl
 have b4:=a9 h (aAI (aBj hp));have hz:l*i<M:=aBV (aCG I Q) dC;have bh:l*i % M=l*i:=aBS hz;have a1:0<=h.nonce/\h.nonce<9223372036854775807:=by have⟨b,v,q1,q2⟩:=H.of h (aAI (aBj hp));have E:=x.nonce;have s:=x.nl;have h3:=x.ok;obtain⟨_,_,_,_,_,_,_,_,_,h4⟩:=h3;rw[P] at q1;unfold gt at E;rw[q1] at E;change o.nonce=v.nonce at E;rw[q2.nonce];omega
 have c5:W.cA g (n*8+5)=some (vI h.nonce):=(aJ C _).tr (b6 5 _ rfl);refine LS (Jp bb W b8 c5 (aQ C _) a1 _ (fun T3 bf=>?_));have E:=hL.upd (o:=5) (cs:=[vI (h.nonce+1)]) (p':=({h with nonce:=h.nonce+1},F)) hp sI rfl rfl rfl;change dD B (W.setCell ⟨g,n*8+5,none⟩ (vI (h.nonce+1))) ⟨some ⟨g,0,none⟩,N,cv⟩ _/\W.grownBy (W.setCell ⟨g,n*8+5,none⟩ (vI (h.nonce+1))) (some g) at E;have a5:bo≠g:=fun e=>by rw[e,C] at t;cases t
 have al:=aG t;generalize W.setCell ⟨g,n*8+5,none⟩ (.int .i64 (h.nonce+1))=W1 at E⊢;obtain⟨a2,a6⟩:=E;have U:=(a6.block bo al (fun e=>a5 (aAv e))).tr t;have S:(f.set n ({h with nonce:=h.nonce+1},F))[n]?=some ({h with nonce:=h.nonce+1},F):=by rw[List.getElem?_set_self oM]
 have⟨g',bw,e,_,_,_,z,y⟩:=a2.row S;cases e;obtain⟨q,hq⟩:∃q,(h.bal+M - l*i) % M=q:=⟨_,rfl⟩;refine LS (Jq (o:=o) (gn:=l) (pn:=i) (y:=h.bal) (z:=l*i) (q:=q) bf W1 b8 U z (fun j hj=>?_) (fun V=>by rw[hg];exact HB l oM V) (fun V=>by rw[O];exact HB i oM V) (fun V=>by have:=Ji l i (aBV I dC) (aBV Q dC) V;rw[bh] at this;exact this) (fun V=>by have:=Oa _ _ b4.1 hz V;rw[hq] at this;exact this) _ (fun T4 w1 bs a8=>?_))
 .refine y (1+j) _ ?_;rcases j with _|_|_|_|j
  .rfl
  .rfl
  .rfl
  .rfl
  .omega
 have s:=(a2.below a8).src S hq;rw[List.set_set] at s;have u:=nC (nC a6 (PV a8 (some g)) (.inl rfl)) s.2 (.inl rfl);obtain⟨J,_⟩:=s;generalize w1.setCells g (n*8+1) [.int .u64 (aI q 0),.int .u64 (aI q 1),.int .u64 (aI q 2),.int .u64 (aI q 3)]=W2 at J u⊢;clear a2 a6 a8 z y U;have m:=(u.block bo al (fun e=>a5 (aAv e))).tr t;have bi:B<=W2.heap.size:=aAw hB u.size;have bl:(f.set n (sW h (l*i),F)).length<100000000:=by rw[aCk];exact ac
 have R:(f.map (·.1)).set n (sW h (l*i))=(f.set n (sW h (l*i),F)).map (·.1):=by rw[aDh]
 have b7:Tb ((f.map (·.1)).set n (sW h (l*i))):=fun e he=>by
  rcases aCw he with he|rfl
  .exact a9 e he
  .exact⟨by rw[vq];exact aBE _ dC,by rw[ln];exact b4.2⟩
 refine LS (Js bs W2 m (S:=fun k=>Lj ((f.map (·.1)).set n (sW h (l*i))) o.aS k) ((PF J.rl o.aS oM).mono fun e w' ⟨k,q1,q2,q3⟩=>⟨k,q1,by rw[R];exact q2,q3⟩) _ (fun T5 k b3 hF=>?_));rcases hF with⟨rfl,a1⟩| ⟨nm,rfl,em,r,b1⟩
 .refine LS (Ei b3 W2 m J bi oM _ (fun T6 g2 c2 w3 a3 bc K bg D=>?_));have ar:W2.grownBy w3 (some g):=⟨K.os,K.tape,K.output,K.size,fun b hb b9=>bg b hb (fun e=>b9 (by cases e;rfl))⟩;have b5:=aG m;have ad:=(ar.block bo b5 (fun e=>a5 (aAv e))).tr m;have bt:(f.set n (sW h (l*i),F)++[(PG o.aS,(⟨none,0,0⟩:SV))])[N]?=some (PG o.aS,⟨none,0,0⟩):=by rw[aBn (by rw[aCk];omega)];simp[hN]
  refine LU a3 w3 ad bc bt hg O I Q (by show 0<M;decide) Φ fun T7 w4 hE a7 a0 a4=>?_;refine b2 T7 _ _ _ g hE rfl a0 ?_ (nC (nC (nC u ar (.inl rfl)) (PV a7 (some g)) (.inl rfl)) a4 ?_)
  .have e:(f.set n (sW h (l*i),F)++[(PG o.aS,(⟨none,0,0⟩:SV))]).set N (WS (PG o.aS) (l*i),⟨none,0,0⟩)=f.set n (sW h (l*i),F)++[(WS (PG o.aS) (l*i),(⟨none,0,0⟩:SV))]:=by rw[aCP _ _ (by rw[aCk];omega)];simp[hN]
   rw[e,aBc,<-R];have:=ug H Z X G P (by rw[L];exact a1);rw[L] at this;exact this
  .rcases D with D|D
   .exact .inl (aAv D).symm
   .exact .inr (aAw u.size D)
 .refine LS (Eh b3 W2 _ (fun T6 a3=>?_));obtain⟨pm,bd,rfl⟩:∃pm,(f.set n (sW h (l*i),F))[nm]?=some pm/\pm.1=em:=by
   rw[R,aBy] at r;cases s:(f.set n (sW h (l*i),F))[nm]? with
   |none=>rw[s] at r;cases r
   |some pm=>rw[s] at r;exact⟨pm,rfl,by simpa using r⟩
  refine LU a3 W2 m J bd hg O I Q (b7 _ (aBj r)).1 Φ fun T7 w4 hE a7 a0 a4=>?_;refine b2 T7 _ _ _ g hE rfl a0 ?_ (nC (nC u (PV a7 (some g)) (.inl rfl)) a4 (.inl rfl));rw[aDh,<-R];have:=uh H Z X G P (n:=nm) (e:=pm.1) (by rw[L];exact r) b1;rw[L] at this;exact this
end
section
open Go.Conc Go.Walk Go.Phase Go.Conc.Lib Go.ConcR.Gen Go.ConcN.Gen Go.Lift
theorem EG{P:K5}{ops:DQ}{Φ:Fi}{l2:K4}:∀(l:K4) (a:Act) (w:WR),wpOps P ops (fun e n q=>e=.normal/\Φ n q) l a w->∀(b:Frame) (k:List Item) (cs:eX),∃n q,Φ n q/\Steps P (lone (b.at a (.inRegion ops (l++l2)::k)) cs w) (lone (b.at n (.inRegion ops l2::k)) cs q)
 | [],a,w,h,_,_,_=>⟨a,w,h.2,Steps.refl _ _⟩
 |i::c,a,w,h,b,k,cs=>by
  have z:=EG (P:=P) (ops:=ops) (Φ:=Φ) (l2:=l2) c;rw[List.cons_append];simp only[wpOps] at h;cases x:ops[i]? with
  |none=>
   simp only[x] at h;obtain⟨n,q,p,g⟩:=z a w h b k cs;have B:=step_op_skip (P:=P) (b:=b) (a:=a) (k:=k) (cs:=cs) (w:=w) (ops:=ops) (i:=i) (rest:=c++l2) (by simp[x]);simp only[x,Option.bind_none,Act.put] at B;exact⟨n,q,p,(Steps.one B).trans g⟩
  |some o=>
   simp only[x] at h;by_cases D:Region.wanted o (yielded ops a.tmps)=true
   .simp only[D,if_true] at h;rcases h with h| ⟨_,_,_,p,_⟩;case inr=>cases p
    simp only[Oper.wp,Oper.upon] at h;have A:=stepG_op (P:=P) (b:=b) (k:=k) (cs:=cs) (w:=w) (rest:=c++l2) x D;have s:∀v,(b.at a (.inRegion ops (i::(c++l2))::k)).finish v=b.at (a.put o.dst v) (.inRegion ops (c++l2)::k):=by
     intro v;rw[Frame.finish_at,x];rfl
    split at h
    .rename_i v q y;obtain⟨n,r,p,g⟩:=z _ _ h b k cs;refine⟨n,r,p,(Steps.one (step_lone_go ?_)).trans g⟩;rw[A,<-s];simp[stepG.apply,y]
    .rename_i q y;obtain⟨n,r,p,g⟩:=z _ _ h b k cs;refine⟨n,r,p,(Steps.one (step_lone_go ?_)).trans g⟩;rw[A,<-s];simp[stepG.apply,y]
    .rename_i d q y;obtain⟨n,r,p,g⟩:=z _ _ h b k cs;refine⟨n,r,p,(Steps.one (step_lone_go ?_)).trans g⟩;have:({b.at a (.inRegion ops (i::(c++l2))::k) with defers:=d::a.defers}:Frame).finish undef=
       b.at ({a with defers:=d::a.defers}.put o.dst undef) (.inRegion ops (c++l2)::k):=by
      have:=Frame.finish_at b {a with defers:=d::a.defers} ops i (c++l2) k undef;rw[x] at this;exact this
     rw[A];simp only[stepG.apply,Sem.runT_eq,y,GStep.bare_after];exact congrArg (fun fr=>GStep.go {frame:=fr,callers:=cs,status:=.running,dying:=none} q) this
    .rename_i f args q y;obtain⟨e,r,fr,C,j,_,u⟩:=h (b.at a (.inRegion ops (i::(c++l2))::k)::cs);have m:step P (lone (b.at a (.inRegion ops (i::(c++l2))::k)) cs w)=
       .next (lone (Frame.enter P f args .normal) (b.at a (.inRegion ops (i::(c++l2))::k)::cs) q):=
      step_lone_go (by rw[A];simp[stepG.apply,y,Frame.at])
     cases e with
     |returned v=>
      obtain⟨n,t,p,g⟩:=z _ _ C b k cs;refine⟨n,t,p,(Steps.head m (j.trans (.one ?_))).trans g⟩;rw[<-s];exact step_leave_returned u
     |panicked chain=>cases C.1
     |outgrown=>
      obtain⟨_,_,p,_⟩:=C;cases p
    .rename_i row args q y;obtain⟨v,r,C,j⟩:=h (b.at a (.inRegion ops (i::(c++l2))::k)) cs;have m:step P (lone (b.at a (.inRegion ops (i::(c++l2))::k)) cs w)=
       .next (lone (Frame.ofRow P row args .normal) (b.at a (.inRegion ops (i::(c++l2))::k)::cs) q):=
      step_lone_go (by rw[A];simp[stepG.apply,y,Frame.at])
     obtain⟨n,t,p,g⟩:=z _ _ C b k cs;refine⟨n,t,p,(Steps.head m ?_).trans g⟩;rw[<-s];exact j
    .cases h.1
    .exact h.elim
   .simp only[D,if_false,Bool.false_eq_true] at h;obtain⟨n,q,p,g⟩:=z _ _ h b k cs;have B:=step_op_skip (P:=P) (b:=b) (a:=a) (k:=k) (cs:=cs) (w:=w) (ops:=ops) (i:=i) (rest:=c++l2)
     (by simp[x];simpa using D)
    simp only[x,Option.bind_some] at B;exact⟨n,q,p,(Steps.one B).trans g⟩
def lq{D:Nat->Prop}{l:K4}{b:Frame}{Φ:Fi}(u:b.kind=.normal)(F:a.defers=[])(z:jS Tryz.prog ops=true)(y:∀x∈k,dY Tryz.prog x=true)(o:∃v,Rel (cM D) w v)(q:∀v,Rel (cM D) w v->wpOps zQ.prog ops (fun e c d=>e=.normal/\c.defers=[]/\Φ c d) l a v):
  nR Tryz.prog (kY (cM D)) (fun g m=>∃c d,g=G (b.at c (.inRegion ops l2::k)) cw/\Rel (cM D) m d/\pY w m d/\c.defers=[]/\Φ c d) (G (b.at a (.inRegion ops (l++l2)::k)) cw) w:=by
 have s:∀c:Act,c.defers=[]->∀l,dK prog (b.at c (.inRegion ops l::k)):=fun c r l=>jJ u r (fun x p=>by rcases aAx.1 p with rfl|p;exact z;exact y x p);refine mD ?_ (lift (fair D) (cw:=cw) (S:=fun fr i v=>∃c,fr=b.at c (.inRegion ops l2::k)/\i=[]/\c.defers=[]/\Φ c v) (fr:=b.at a (.inRegion ops (l++l2)::k)) (frs:=[]) (w:=w)
  (s a F _) (fun f A=>by simp at A) o (fun v E=>?_))
 .rintro g m ⟨fr,i,v,rfl,B,C,c,rfl,rfl,j,h⟩;exact⟨c,v,rfl,B,C,j,h⟩
 .have⟨c,d,⟨j,h⟩,n,t⟩:=EG (l2:=l2) l a v (q v E) b k [dJ FQ.size];rw[Ra] at t;exact⟨n,b.at c (.inRegion ops l2::k),[],d,t,s c j _,c,rfl,rfl,j,h⟩
def chain:List Code->Code->Code
 | [],c=>c
 |d::l,c=>.seq d (chain l c)
def kV(P:K5)(Q:Fi):List Code->Fi
 | [],a,w=>Q a w
 |d::l,a,w=>d.wp P (fun e c b=>e=.normal/\kV P Q l c b) a w
theorem wD{P:K5}{m:Fi}(c:Code):∀(l:List Code) (a:Act) (w:WR),kV P m l a w->∀(b:Frame) (k:List Item) (cs:eX),∃g f,m g f/\Steps P (lone (b.at a (.code (chain l c)::k)) cs w) (lone (b.at g (.code c::k)) cs f)
 | [],a,w,h,_,_,_=>⟨a,w,h,Steps.refl _ _⟩
 |d::l,a,w,h,b,k,cs=>by
  obtain⟨e,p,w1,⟨rfl,n⟩,o⟩:=h b (.code (chain l c)::k) cs;obtain⟨g,f,i,j⟩:=wD c l p w1 n b k cs;exact⟨g,f,i,(Steps.head step_seq o).trans j⟩
def qW{D:Nat->Prop}{l:List Code}{c:Code}{b:Frame}{Φ:Fi}(s:b.kind=.normal)(C:a.defers=[])(E:bQ Tryz.prog (chain l c)=true)(p:bQ Tryz.prog c=true)(t:∀x∈k,dY Tryz.prog x=true)(q:∃v,Rel (cM D) w v)(r:∀v,Rel (cM D) w v->kV zQ.prog (fun d e=>d.defers=[]/\Φ d e) l a v):
  nR Tryz.prog (kY (cM D)) (fun g o=>∃d e,g=G (b.at d (.code c::k)) cw/\Rel (cM D) o e/\pY w o e/\d.defers=[]/\Φ d e) (G (b.at a (.code (chain l c)::k)) cw) w:=by
 refine mD ?_ (lift (fair D) (cw:=cw) (S:=fun fr i v=>∃d,fr=b.at d (.code c::k)/\i=[]/\d.defers=[]/\Φ d v) (fr:=b.at a (.code (chain l c)::k)) (frs:=[]) (w:=w)
  (jJ s C (fun x j=>by rcases aAx.1 j with rfl|j;exact E;exact t x j)) (fun f y=>by simp at y) q (fun v B=>?_))
 .rintro g o ⟨fr,i,v,rfl,z,A,d,rfl,rfl,m,h⟩;exact⟨d,v,rfl,z,A,m,h⟩
 .have⟨d,e,⟨m,h⟩,n,u⟩:=wD c l a v (r v B) b k [dJ FQ.size];rw[Ra] at u;exact⟨n,b.at d (.code c::k),[],e,u,jJ s m (fun x j=>by rcases aAx.1 j with rfl|j;exact p;exact t x j),d,rfl,rfl,m,h⟩
end
section
open Go.Lift
variable [aB]
def dD.px{T:K4}(h:dD B W v os)(a:Px T W W')(d:52∉T)(c:72∉T):dD B W' v os:=
 ⟨jX h.own a d,fun p b=>jX (h.sl p b) a c,h.HI,h.apart⟩
def Ep{T:List bF}(h:Td A T)(f:∀i b v,A i=some (b,v)->jI W v c)(k:d∈T):d.bE.length<=c:=by
 have⟨b,v,l,g⟩:=h.of d k;have⟨j,k1,o⟩:=(f _ _ _ l).sup;have n:(d.bE.map (·.1)).Nodup:=by have:=g.up;exact aBw.2 (aCH (fun h e=>by simp only[e] at h;omega) this)
 have:=pJ n (ks:=j) (fun a q=>by obtain⟨p,m,rfl⟩:=aAJ.1 q;have:=(g.sl p.1 p.2).1 m;exact o _ (by rw[this.1];exact this.2))
 rw[aBB] at this;omega
structure vr (B:Nat)(o:Od)(gd:Bool)(T:Ff)(W:WR):Prop where
 ex:∃(bo rb:Nat) (vw vn:SV) (osw osn:List (bF×SV)) (cB:Bool) (k id:Int) (lv:SV) (s:Lp) (A A':AM) (Bn:Nat),
  W.heap[bo]?=ob o.cs 43/\W.heap[rb]?=ob (fM cB k id lv s) 34/\dD B W vw osw/\dD Bn W vn osn/\(∀g,vw.blk=some g->g<Bn)/\Bn<=W.heap.size/\
  Td A (osw.map (·.1))/\Tb (osw.map (·.1))/\Td A' (osn.map (·.1))/\Tb (osn.map (·.1))/\osw.length<100000000/\osn.length<100000000/\(∀p∈osn,p.1.bE.length<200000000)/\
  ((∃y,G6 T bo rb vw vn (.iface 90 y)/\A'=A/\gd=false)\/(G6 T bo rb vw vn .nilIface/\Ok A o/\(o.at:Int)<=2*k/\k<=o.bP/\cB=gd/\(gd=true\/k=o.bP/\id=0/\lv.n=0/\s=⟨#[]⟩/\yd A o A')))
 le:B<=W.heap.size
def SQ{e s:Nat}{x:vZ}{a:K3}(h:W.ownsRow b e s x n a)(i:Tw W W'):W'.ownsRow b e s x n a:=
 dM h fun g f=>by have⟨d,c⟩:=cL h g f;exact(i.obj _ _ c (.inl trivial)).tr c.symm
def dD.tw(h:dD B W v os)(a:Tw W W'):dD B W' v os:=
 ⟨SQ h.own a,fun p b=>SQ (h.sl p b) a,h.HI,h.apart⟩
def vr.tw(h:vr B o gd T W)(a:Tw W W'):vr B o gd T W':=by have⟨bo,u,m,v,i,d,j,k,id,lv,s,A,r,y,n,l,h3,h4,q,w,p,t,x,e,g,f,b,c⟩:=h.ex;exact⟨⟨bo,u,m,v,i,d,j,k,id,lv,s,A,r,y,a.obj _ _ n (.inl trivial),a.obj _ _ l (.inl trivial),h3.tw a,h4.tw a,q,aAw w a.size,p,t,x,e,g,f,b,c⟩,aAw h.le a.size⟩
def Ju{d:Nat}(hT:F6 T bo pw)(hR:RP u l m d cr A dp li c)(a0:aB.b1<=u.heap.size)(hc:c<10000000)(x:u.heap[pw]?=ob #[pq l 0] 87)(I:u.heap[bo]?=ob o.cs 43)(hv:o.val<M)(G:Fi)(P:∀gd T' W,vr u.heap.size o gd T' W->Px TT u W->G ⟨T',[]⟩ W):
  kV zQ.prog (fun O v'=>O.defers=[]/\G O v') [eR 0,eR 1,eR 2,eR 3,eR 4,eR 5] ⟨T,[]⟩ u:=by
 refine Oe (o:=o) hT u
  (S:=fun v w=>∃os,Bw u w/\dD u.heap.size w v os/\Td A (os.map (·.1))/\Tb (os.map (·.1))/\os.length<100000000)
  (R:=fun v h k id lv s n w=>∃os w0,Bw u w0/\dD u.heap.size w v os/\Td A (os.map (·.1))/\Tb (os.map (·.1))/\os.length<100000000/\Pt w0 l m d A dp li c o h k id lv s n w)
  (Q:=fun v h k id lv s n X B w=>∃os f r C,w.heap[bo]?=ob o.cs 43/\w.heap[X]?=ob (fM h k id lv s) 34/\dD u.heap.size w v os/\dD C w B f/\(∀g,v.blk=some g->g<C)/\C<=w.heap.size/\
   Td A (os.map (·.1))/\Tb (os.map (·.1))/\Td r (f.map (·.1))/\Tb (f.map (·.1))/\os.length<100000000/\f.length<100000000/\(∀p∈f,p.1.bE.length<200000000)/\Px TT u w/\
   ((∃y:vZ,n=.iface 90 y/\r=A)\/(n=.nilIface/\Ok A o/\(o.at:Int)<=2*k/\k<=o.bP/\(h=true\/h=false/\k=o.bP/\id=0/\lv.n=0/\s=⟨#[]⟩/\yd A o r))))
  ((Il hR oM ((aJ x 0).tr rfl)).mono fun e w' ⟨v,os,E,D,h3,h4,V,Y⟩=>⟨v,E,os,D,h3,h4,V,Y⟩)
  (fun v w ⟨os,k1,U,k3,k4,k5⟩=>⟨bk k1 I,?_⟩)
  (fun v h k id lv s n w ⟨os,w0,k1,U,k3,k4,k5,k6⟩=>?_)
  (fun a w=>kV zQ.prog (fun O v'=>O.defers=[]/\G O v') [eR 5] a w) (fun T1 v h k id lv s n X B w hG hQ=>?_)
 .apply(Qm (hR.below k1) (aAw a0 k1.size) hc (bk k1 x) o hv).mono;rintro e w' ⟨h,k,id,lv,s,n,rfl,hD⟩;have j:Px TT w w':=let⟨_,_,_,_,_,hp,_⟩:=hD;hp
  exact⟨h,k,id,lv,s,n,rfl,os,w,k1,U.px j dC dC,k3,k4,k5,hD⟩
 .obtain⟨a1,r,c',r1,r2,r3,r4⟩:=k6;have i:Bw w (w.nc (fM h k id lv s) 34):=ba;have Q:=aM w (.ce (fM h k id lv s) 34);have z:Px TT u w:=(Px.aF k1 _).tr r3;have K:=bk i (z.row x dC);have L:=z.row I dC;apply(Il (r1.below i) oM ((aJ K 0).tr rfl)).mono;rintro e w' ⟨B,f,rfl,R,q3,q4,q5,q6⟩;refine⟨B,rfl,os,f,r,(w.nc (fM h k id lv s) 34).heap.size,?_,bk R Q,(U.below i).below R,q3,fun g hg=>?_,R.size,k3,k4,q4,q5,k5,q6,fun p hp=>?_,((z.tr (Px.aF i _)).tr (Px.aF R _)),r4⟩
  .have:=bk i L;exact bk R this
  .have:=iJ U.own g hg;have:=i.size;omega
  .have:=Ep q4 r1.av (aAI (f:=fun p:bF×SV=>p.1) hp);omega
 .obtain⟨os,f,r,C,E,D,h3,h4,V,Y,h7,h8,h9,J,S,N,F,j,Z⟩:=hQ;rcases Z with⟨y,rfl,hA⟩| ⟨rfl,H,ha,hb,hE⟩
  .refine Jk hG w E D (fun a w=>a.defers=[]/\G a w) fun T2 w2 t b=>⟨rfl,P false T2 w2 ?_ (j.tr (Px.aF b _))⟩;refine⟨⟨bo,X,v,B,os,f,h,k,id,lv,s,A,r,C,bk b E,bk b D,h3.below b,h4.below b,V,aAw Y b.size,h7,h8,h9,J,S,N,F,.inl ⟨y,t,hA,rfl⟩⟩,aAw j.size b.size⟩
  .have⟨_,g1,_,_,g4,_⟩:=H.ok;refine Jj hG w E D oM g1 ha hb (fun a w=>a.defers=[]/\G a w) fun T2 w2 t b=>⟨rfl,P h T2 w2 ?_ (j.tr (Px.aF b _))⟩;refine⟨⟨bo,X,v,B,os,f,h,k,id,lv,s,A,r,C,bk b E,bk b D,h3.below b,h4.below b,V,aAw Y b.size,h7,h8,h9,J,S,N,F,.inr ⟨t,H,ha,hb,rfl,hE.imp (fun q=>q) fun q=>q.2⟩⟩,aAw j.size b.size⟩
def Jv(h:vr B o gd T W)(p:Fi)(l:∀b,vr B o gd b W->b.size=180->b[61]?=some (.bool gd)->p ⟨b,[]⟩ W):
  vp.wp zQ.prog (fun e z M=>e=.normal/\z.defers=[]/\p z M) ⟨T,[]⟩ W:=by
 have⟨bo,H,x,I,m,f,v,k,id,lv,s,A,F,L,C,q,h3,h4,E,J,D,G,K,g,j,i,d,r⟩:=h.ex;rcases r with⟨y,t,u,rfl⟩| ⟨t,u,N,q4,rfl,O⟩
 .exact Jm t W (fun a w=>a.defers=[]/\p a w) fun b n c=>⟨rfl,l b ⟨⟨bo,H,x,I,m,f,v,k,id,lv,s,A,F,L,C,q,h3,h4,E,J,D,G,K,g,j,i,d,.inl ⟨y,n,u,rfl⟩⟩,h.le⟩ n.sz c⟩
 .exact Jl t W q (fun a w=>a.defers=[]/\p a w) fun b n c=>⟨rfl,l b ⟨⟨bo,H,x,I,m,f,v,k,id,lv,s,A,F,L,C,q,h3,h4,E,J,D,G,K,g,j,i,d,.inr ⟨n,u,N,q4,rfl,O⟩⟩,h.le⟩ n.sz c⟩
def jL(W:WR):Bz W W:=⟨Below.refl _ _,fun _ _ _ h=>⟨_,_,h⟩⟩
def Jw(u:aB.b0<=B)(h:vr B o false T W)(j:Fi)(q:∀Z w',Z[4]?=some (.bool true)->Bz W w'->j ⟨Z,[]⟩ w'):
  kV zQ.prog (fun d x=>d.defers=[]/\j d x) [eR 7,eR 8,eR 9,eR 10] ⟨T,[]⟩ W:=by
 have⟨bo,rb,vw,vn,t,M,cB,k,id,lv,s,A,A',Bn,h1,h2,h3,h4,h5,h6,Q,h8,D,m,R,a3,l,E⟩:=h.ex;have f:=h.le;rcases E with⟨y,P,rfl,_⟩| ⟨P,q2,q3,q4,rfl,L⟩
 .refine Jn P W (fun a w=>kV zQ.prog (fun d x=>d.defers=[]/\j d x) [eR 8,eR 9,eR 10] a w) fun T1 I=>?_;have e:t.map (·.1)=M.map (·.1):=Q.eq D;exact Jt I W h3.rl h4.rl (by rw[e]) D.od m (fun p c=>h3.rs c) (fun p c=>h4.rs c) l oM (fun a w=>a.defers=[]/\j a w) fun T2 w2 F G=>⟨rfl,q T2 w2 F ((jL W).grow (aAw u f) G)⟩
 .rcases L with L| ⟨rfl,rfl,q6,rfl,q7⟩
  .cases L
  .refine Oi P W h1 h2 q6 h3 f Q h8 D q2 q7 R (fun a w=>kV zQ.prog (fun d x=>d.defers=[]/\j d x) [eR 8,eR 9,eR 10] a w) fun T1 a1 Y w1 g I H X c i=>?_;have U:=h5 g H;have a2:=nX h3.own g H;have hn:=h4.kept i U;have S:Bz W w1:=by
    refine⟨⟨i.os,i.tape,i.output,i.size,fun k hk=>i.block k oM (fun e=>by cases e;omega)⟩,fun b e _ C=>?_⟩;by_cases r:b=g
    .exfalso;have V:=q2.has;have⟨dd,K,_⟩:=Q.all o.src (fun e=>by rw[e] at V;cases V);have⟨pp,O,_⟩:=aAJ.1 K;have⟨n,J,e2⟩:=aBe.1 O;obtain⟨va,N,cv⟩:=vw;obtain⟨g',a0,rfl,_,_,_,v,z⟩:=h3.row (n:=n) (p:=t[n]) (aAG J);cases H;have h0:=z 0 _ rfl;rw[r,v] at C;cases C;simp at h0
    .exact⟨_,_,(i.block b (aG C) (fun e=>r (by cases e;rfl))).tr C⟩
   exact Jt I w1 X.rl hn.rl c D.od m (fun p c=>X.rs c) (fun p c=>hn.rs c) l oM (fun a w=>a.defers=[]/\j a w) fun T2 w2 F G=>⟨rfl,q T2 w2 F (S.grow (aAw u f) G)⟩
end
section
open Go.Conc Go.Walk Go.Phase Go.Conc.Lib Go.ConcR.Gen Go.ConcN.Gen Go.Lift
open Go.ConcN (WgLive Has RW DWs AtR0 PayAt)
open Go.ConcR (KK WgAt stA smA rd wr mk Payload)
section
def Oj:cO prog true AtRel kD (fun g w=>g=G ((base 12).at ⟨#[.bool false,uf,uf,uf,uf,uf,uf,uf,uf,uf,uf,uf,uf,uf,uf,uf,uf,uf,uf,uf,uf,uf,uf,uf,uf,uf,uf,uf,uf,uf,uf,uf,uf,uf,uf,uf,uf,uf,uf,uf]++#[uf,uf,uf,uf,uf,uf,uf,uf,uf,uf,uf,uf,uf,uf,uf,uf,uf,uf,uf,uf,uf,uf,uf,uf,uf,uf,uf,uf,uf,uf,uf,uf,uf,uf,uf,uf],[]⟩ (.inRegion fS ([0,1,2,3]++[4,5,6,7,8,9])::[.code AI])) cs/\w.heap=h0) (fun w=>w.heap=h0) 40
  (G ((base 12).at ⟨Array.replicate 76 uf,[]⟩ [.code (f12.body.getD .skip)]) cs):=by
 have E:=nK h0;obtain⟨h,b⟩:∃c,c=AI:=⟨_,rfl⟩;have a:=b;simp only[AI,f12] at a;rw[<-b];simp only[fS,f12,aAK];rw[<-a];clear b a
 walk_nrm
 refine bU E ?_;refine bD E ?_;refine bV E rfl rfl sQ2 fun w f K d=>?_;go_simp;refine d _ sQ1 ?_;clear d K f w;refine aP E ?_;refine bU E ?_;refine gW E ?_;exact cD E fun w e=>⟨rfl,e⟩
def Ol:cO prog true AtRel kD (fun g w=>g=G ((base 16).at ⟨#[.sl (some (ad b 0)) 2 2]++Array.replicate 12 uf,[]⟩ [.code (f16.body.getD .skip)]) (((base 12).at ⟨#[.bool false,uf,uf,uf,uf,uf,uf,x7,x8,x9,.sl (some (ad b 0)) 2 2,uf,uf,uf,uf,uf,uf,uf,uf,uf,uf,uf,uf,uf,uf,uf,uf,uf,uf,uf,uf,uf,uf,uf,uf,uf,uf,uf,uf,uf]++#[uf,uf,uf,uf,uf,uf,uf,uf,uf,uf,uf,uf,uf,uf,uf,uf,uf,uf,uf,uf,uf,uf,uf,uf,uf,uf,uf,uf,uf,uf,uf,uf,uf,uf,uf,uf],[]⟩ (.inRegion fS [4,5,6,7,8,9]::[.code AI]))::cs)/\w.heap=h0) (fun w=>w.heap=h0) 40
  (G ((base 12).at ⟨#[.bool false,uf,uf,uf,uf,uf,uf,x7,x8,x9,.sl (some (ad b 0)) 2 2,uf,uf,uf,uf,uf,uf,uf,uf,uf,uf,uf,uf,uf,uf,uf,uf,uf,uf,uf,uf,uf,uf,uf,uf,uf,uf,uf,uf,uf]++#[uf,uf,uf,uf,uf,uf,uf,uf,uf,uf,uf,uf,uf,uf,uf,uf,uf,uf,uf,uf,uf,uf,uf,uf,uf,uf,uf,uf,uf,uf,uf,uf,uf,uf,uf,uf],[]⟩ (.inRegion fS [4,5,6,7,8,9]::[.code AI])) cs):=by
 have E:=nK h0;obtain⟨j,f⟩:∃c,c=AI:=⟨_,rfl⟩;obtain⟨i,d⟩:∃c,c=f16.body.getD .skip:=⟨_,rfl⟩;rw[<-f,<-d];simp only[fS,f12]
 walk_nrm
 have e:(f16.name== "runtime.NumGoroutine")=false:=kR
 have a:Tryz.f16.body=some i:=by rw[d];kernel_rfl
 refine eY E rfl rfl sQ2 rfl func16 e a ?_;rw[ntmps16];clear e a d f
 walk_nrm
 exact cD E fun w h=>⟨rfl,h⟩
variable [aB]
theorem EH{P:K5}{ops:DQ}{Q:Fg}:∀(l:List Oper) (k:Nat),(∀j,j<l.length->l[j]?=ops[k+j]?)->wpOps P ops Q (List.range' k l.length)=wpList P ops Q l
 | [],k,_=>by funext a w;simp[wpOps,wpList]
 |o::l,k,h=>by
  have h0:ops[k]?=some o:=by simpa using(h 0 sI).symm
  have b:=EH (P:=P) (ops:=ops) (Q:=Q) l (k+1) (fun j c=>by have:=h (j+1) (by simpa using c);simpa[aBY,aDi 1 j] using this);funext a w;simp only[aBr,List.range'_succ,wpOps,h0,wpList,b]
def LV{Q:Fg}(l:List Oper)(n:Nat)(d:l.length=n)(b:∀j,j<l.length->l[j]?=ops[j]?)(h:wpList P ops Q l a w):wpOps P ops Q (List.range' 0 n) a w:=by rw[<-d,EH l 0 (fun j c=>by rw[aAM];exact b j c)];exact h
def AG(d1 d2:bF):Ff:=(aV d1 ⟨none,0,0⟩++aV d2 ⟨none,0,0⟩).toArray
def lr{v:WR}(h:v.heap[b]?=ob (AG d1 d2) 52)(g:d1.bE=[])(f:d2.bE=[])(k:d1.bal<M)(l:d2.bal<M):uE v (some ⟨b,0,none⟩) [(d1,⟨none,0,0⟩),(d2,⟨none,0,0⟩)]:=by
 refine⟨.inr ⟨b,0,rfl,fun i p a=>?_⟩,fun p a=>?_,fun p a=>?_,fun p a=>?_,fun p a q c=>?_,sI⟩
 .rw[aAM];rcases i with _|_|i
  .simp only[aAP,aAF] at a;subst a;intro j x d;rw[aCy,aAM,aJ h j];unfold AG;rw[aAY,aBI (aAO.1 d).1];exact d
  .simp only[aAM,aBb,aAP,aAF] at a;subst a;intro j x d;rw[aJ h];unfold AG;rw[aAY,aBn (by simp[aV])];have e:(0+1)*8+j - (aV d1 ⟨none,0,0⟩).length=j:=by simp[aV]
   rw[e];exact d
  .simp at a
 .simp only[aAx,aAC,or_false] at a;rcases a with rfl|rfl
  .exact⟨by simp[g],.inl g⟩
  .exact⟨by simp[f],.inl f⟩
 .simp only[aAx,aAC,or_false] at a;rcases a with rfl|rfl
  .exact k
  .exact l
 .simp only[aAx,aAC,or_false] at a;rcases a with rfl|rfl
  .simp[g]
  .simp[f]
 .simp only[aAx,aAC,or_false] at a;rcases a with rfl|rfl
  .rw[g] at c;cases c
  .rw[f] at c;cases c
attribute [local go_sem] wd
abbrev LW:bF:=⟨1,30000,0,⟨#[]⟩,[]⟩
abbrev LX:bF:=⟨2,0,0,⟨#[]⟩,[]⟩
def Jx(u:WR)(m:Fi)(c:∀x7 x8 x9 b h,Below u.heap.size u h->u.heap.size<=b->h.heap[b]?=ob (AG LW LX) 52->m ⟨#[.bool false,undef,undef,undef,undef,undef,undef,x7,x8,x9,.slice (some ⟨b,0,none⟩) 2 2,undef,undef,undef,undef,undef,undef,undef,undef,undef,undef,undef,undef,undef,undef,undef,undef,undef,undef,undef,undef,undef,undef,undef,undef,undef,undef,undef,undef,undef]++#[undef,undef,undef,undef,undef,undef,undef,undef,undef,undef,undef,undef,undef,undef,undef,undef,undef,undef,undef,undef,undef,undef,undef,undef,undef,undef,undef,undef,undef,undef,undef,undef,undef,undef,undef,undef],[]⟩ h):
  wpOps zQ.prog fS (fun e k h=>e=.normal/\k.defers=[]/\m k h) [0,1,2,3] ⟨#[.bool false,undef,undef,undef,undef,undef,undef,undef,undef,undef,undef,undef,undef,undef,undef,undef,undef,undef,undef,undef,undef,undef,undef,undef,undef,undef,undef,undef,undef,undef,undef,undef,undef,undef,undef,undef,undef,undef,undef,undef]++#[undef,undef,undef,undef,undef,undef,undef,undef,undef,undef,undef,undef,undef,undef,undef,undef,undef,undef,undef,undef,undef,undef,undef,undef,undef,undef,undef,undef,undef,undef,undef,undef,undef,undef,undef,undef],[]⟩ u:=by
 simp only[aBZ,aBi,aBW] at c⊢;obtain⟨o,d⟩:∃l,l=fS.toList.take 4:=⟨_,rfl⟩;have a:=d;simp only[fS,f12,List.take_succ_cons,List.take_zero] at a;refine LV o 4 (by rw[a];rfl) (fun j n=>by rw[d,aCg (by rw[a] at n;simpa using n)];simp) ?_;rw[a];dsimp only[fS,f12];clear a d o;have i:Cq 21 #[vI 30000] u _:=kv 30000 dC u;have g:=US c;clear c;go_wp2_with fail;apply i.mono;rintro e w1 ⟨rfl,f⟩;clear i;unfold wd;go_wp2_with fail;have e:AG LW LX=#[vI 1,vL 30000 0,vL 30000 1,vL 30000 2,vL 30000 3,vI 0,.string ⟨#[]⟩,.sl none 0 0,vI 2,vU 0,vU 0,vU 0,vU 0,vI 0,.string ⟨#[]⟩,.sl none 0 0]:=by simp[AG,aV,UT]
 exact g.out _ _ _ w1.heap.size _ (f.tr (bR.aL lR _|>.mono f.size)) f.size (by rw[e];exact aM w1 _)
def kE{D:Nat->Prop}{n k:WR}(v:Dk B D w)(m:Rel (cM D) w u)(q:Rel (cM D) n k)(z:pY w n k)(L:B<=w.heap.size)(p:Below B u k)(G:∀(b:Nat) (e:Fh),e<1000->u.heap[b]?=some (.cells #[] e)->∃c f,k.heap[b]?=some (.cells c e f)):SO B D w n k:=by
 have C:∀b,b<B->n.heap[b]?=w.heap[b]?:=fun b r=>by
  have lY:∀o,k.heap[b]?=some o->¬QD o->¬D b:=fun o j a d=>by
   rcases ki v m b d with⟨i,_⟩| ⟨_,i⟩
   .omega
   .rw[<-p.block b r,j] at i;cases i;exact a (.inr rfl)
  cases j:k.heap[b]? with
  |none=>
   have:=aCc.1 j;have:=m.size;have:=p.size;omega
  |some o=>
   by_cases a:QD o
   .exact z b o j a oM
   .have t:=lY o j a;have l:=q.look b;have h:=m.look b;rw[<-p.block b r] at h;rw[j] at l h;generalize n.heap[b]?=x at l⊢;generalize w.heap[b]?=y at h⊢;cases l with
    |gP d=>exact absurd d t
    |shut d=>exact absurd d t
    |view _ g=>exact absurd (Or.inl (by cases o<;>first|exact g.elim|trivial)) a
    |same _=>
     cases h with
     |gP d=>exact absurd d t
     |shut d=>exact absurd d t
     |view _ g=>exact absurd (Or.inl (by cases o<;>first|exact g.elim|trivial)) a
     |same _=>rfl
 refine⟨q,fun b d=>?_,C,⟨by rw[<-q.os,p.os,m.os],by rw[<-q.out,p.output,m.out]⟩,by rw[<-q.size,<-m.size];exact p.size⟩;rcases v b d with⟨i,c,e,E,J⟩| ⟨i,o,A,h3,h4⟩
 .rcases ki v m b d with⟨_,F,s,H⟩| ⟨A,_⟩
  .refine .inl ⟨i,?_⟩;have⟨I,K,j⟩:=G b F s H;have l:=q.look b;rw[j] at l;generalize n.heap[b]?=x at l;cases l with
   |gP _=>exact⟨_,_,s,rfl⟩
   |view _ g=>exact g.elim
   |same z=>exact absurd trivial ((z _ rfl).2 d)
  .omega
 .exact .inr ⟨i,o,(C b i).tr A,h3,h4⟩
def vu:gM ([(LW,(⟨none,0,0⟩:SV)),(LX,⟨none,0,0⟩)].map (·.1)):=by refine⟨sI,fun d a=>?_,sI,by simp[M]⟩;simp only[aBl,aCC,aAx,aAC,or_false] at a;rcases a with rfl|rfl<;>simp[iD,ByteArray.size]
def lu{q p:SV}(h:wC W pl [(d1,q),(d2,p)] L):
  ∃m d g c j p2 b i,L=[oK d1 ⟨some ⟨j,0,none⟩,d1.code.size,d1.code.size⟩ g c,oK d2 ⟨some ⟨i,0,none⟩,d2.code.size,d2.code.size⟩ p2 b]/\LG W pl m ⟨d,[]⟩ 0 L []/\g≠p2/\W.heap[i]?=ob (marks d2.code d2.code.size 0 (fI d2.code.size)) 4:=by
 obtain⟨⟨m,d,l⟩,f,a⟩:=h;have⟨g,c,j,o,_⟩:=a 0 d1 rfl;have⟨p2,b,i,n,k⟩:=a 1 d2 rfl;match L,f with
 | [r,s],_=>
  simp only[aAP,aBb,aAF] at o n;subst o n;refine⟨m,d,g,c,j,p2,b,i,rfl,l,fun e=>?_,k⟩;have:=l.AJ;simp[oK,e] at this
def Er:Ff:=#[.bool false,undef,undef,undef,undef,undef,undef,undef,undef,undef,undef,undef,undef,undef,undef,undef,undef,undef,undef,undef,undef,undef,undef,undef,undef,undef,undef,undef,undef,undef,undef,undef,undef,undef,undef,undef,undef,undef,undef,undef]++#[undef,undef,undef,undef,undef,undef,undef,undef,undef,undef,undef,undef,undef,undef,undef,undef,undef,undef,undef,undef,undef,undef,undef,undef,undef,undef,undef,undef,undef,undef,undef,undef,undef,undef,undef,undef]
def XO(x7 x8 x9:vZ)(b:Nat):Ff:=#[.bool false,undef,undef,undef,undef,undef,undef,x7,x8,x9,.slice (some ⟨b,0,none⟩) 2 2,undef,undef,undef,undef,undef,undef,undef,undef,undef,undef,undef,undef,undef,undef,undef,undef,undef,undef,undef,undef,undef,undef,undef,undef,undef,undef,undef,undef,undef]++#[undef,undef,undef,undef,undef,undef,undef,undef,undef,undef,undef,undef,undef,undef,undef,undef,undef,undef,undef,undef,undef,undef,undef,undef,undef,undef,undef,undef,undef,undef,undef,undef,undef,undef,undef,undef]
def Es(x7 x8 x9:vZ)(b pw:Nat):Ff:=#[.bool false,undef,undef,undef,undef,undef,undef,x7,x8,x9,.slice (some ⟨b,0,none⟩) 2 2,.tuple #[pq pw 0,.nilIface],undef,undef,undef,undef,undef,undef,undef,undef,undef,undef,undef,undef,undef,undef,undef,undef,undef,undef,undef,undef,undef,undef,undef,undef,undef,undef,undef,undef]++#[undef,undef,undef,undef,undef,undef,undef,undef,undef,undef,undef,undef,undef,undef,undef,undef,undef,undef,undef,undef,undef,undef,undef,undef,undef,undef,undef,undef,undef,undef,undef,undef,undef,undef,undef,undef]
def Jy:cO prog true AtRel kD (fun g w=>g=G ((base 12).at ⟨Er,[]⟩ (.inRegion fS ([0,1,2,3]++[4,5,6,7,8,9])::[.code AI])) cs/\w.heap=h0) (fun w=>w.heap=h0) 40
 (G ((base 12).at ⟨Array.replicate 76 uf,[]⟩ [.code (f12.body.getD .skip)]) cs):=Oj
def Jz:cO prog true AtRel kD (fun g w=>g=G ((base 16).at ⟨#[.sl (some (ad b 0)) 2 2]++Array.replicate 12 uf,[]⟩ [.code (f16.body.getD .skip)]) (((base 12).at ⟨XO x7 x8 x9 b,[]⟩ (.inRegion fS [4,5,6,7,8,9]::[.code AI]))::cs)/\w.heap=h0) (fun w=>w.heap=h0) 40
 (G ((base 12).at ⟨XO x7 x8 x9 b,[]⟩ (.inRegion fS [4,5,6,7,8,9]::[.code AI])) cs):=Ol
def Et(u:WR)(c:Fi)(d:∀x7 x8 x9 b a,Below u.heap.size u a->u.heap.size<=b->a.heap[b]?=ob (AG LW LX) 52->c ⟨XO x7 x8 x9 b,[]⟩ a):
 wpOps zQ.prog fS (fun e f a=>e=.normal/\f.defers=[]/\c f a) [0,1,2,3] ⟨Er,[]⟩ u:=Jx u c d
def J3:after (base 12) ⟨XO x7 x8 x9 b,[]⟩ fS 4 [5,6,7,8,9] [.code AI] (.tuple #[pq pw 0,.nilIface])=(base 12).at ⟨Es x7 x8 x9 b pw,[]⟩ (.inRegion fS [5,6,7,8,9]::[.code AI]):=kR
def vx{g k p2:Nat}(x7 x8 x9:vZ)(h:Kn l m ⟨g,[]⟩ cr k p2 30000 0 0 10 u)(f:k≠p2)(j:u.heap[pw]?=ob #[pq l 0] 87)(d:aB.b0<=u.heap.size)(c:vZ->K6)(i:∀a,Bz u a->c (.bool true) a):
 wpOps zQ.prog fS (fun e n a=>e=.normal/\AI.wp zQ.prog (bodyPost zQ.prog Tryz.f12 fun e a=>∃val,e=.returned val/\c val a) n a) [5,6,7,8,9] ⟨Es x7 x8 x9 b pw,[]⟩ u:=Eg x7 x8 x9 _ h f j d c i
def vy(h:wC W pl [(LW,(⟨none,0,0⟩:SV)),(LX,⟨none,0,0⟩)] L):∃m a b p2,Kn pl m ⟨a,[]⟩ 0 b p2 30000 0 0 10 W/\b≠p2:=by obtain⟨m,a,b,f,g,p2,d,i,rfl,e,c,_⟩:=lu h;exact⟨m,a,b,p2,⟨[],_,_,e,⟨rfl,rfl,rfl,rfl⟩,⟨rfl,rfl,rfl,rfl⟩,dC⟩,c⟩
def PW{A:yi}{D:Nat->Prop}{o:Nat}{N:Ff}(hT:N=Array.replicate 76 uf){h:Frame}{g:Act}{d:DQ}{i:Nat}{c:K4}{f:List Item}{cs:eX}{w v:WR}{m:Machine}{t:Trace}(R:aB.b0<=w.heap.size)(W:Rel (cM D) w v)(a5:Dk aB.b0 D w)(l:jU (cM D) A)(ho:o+64<2147483647)(I:h.kind=.normal)(M:g.defers=[])(a1:jS prog d=true)(F:∀x∈f,dY prog x=true)(P:fB prog A w.heap.size (o+1) (G ((base 12).at ⟨N,[]⟩ [.code (f12.body.getD .skip)]) (h.at g (.inRegion d (i::c)::f)::cs)) w m t):
  Runs prog m t fun m' t'=>∃U z mH D' o',SO aB.b0 D' w U z/\jU (cM D') mH/\o'<=o+64/\
   fB prog mH U.heap.size (o'+1) (G (after h g d i c f (.bool true)) cs) U m' t':=by
 subst hT;refine(dR (Jy (h0:=w.heap)) rfl P).then fun m1 t1 h1=>?_;clear P;obtain⟨g1,w1,⟨rfl,O⟩,ad,r⟩:=h1;have j:=dQ (w':=w1) a5 W l O ad;have Q:w1.heap.size=w.heap.size:=by rw[O]
 rw[<-Q] at r;have n:=lq (D:=D) (ops:=fS) (l:=[0,1,2,3]) (l2:=[4,5,6,7,8,9]) (b:=base 12) (k:=[.code AI]) (cw:=h.at g (.inRegion d (i::c)::f)::cs) (w:=w1) (a:=⟨Er,[]⟩)
  (Φ:=fun a' z=>∃u x7 x8 x9 b,Rel (cM D) w1 u/\a'=⟨XO x7 x8 x9 b,[]⟩/\Bw u z/\z.heap[b]?=ob (AG LW LX) 52) rfl rfl kr (fun x hx=>by rw[aAB.1 hx];exact ku) ⟨_,j.rel⟩
  (fun u H=>Et u _ (fun x7 x8 x9 b z hb _ p=>⟨u,x7,x8,x9,b,H,rfl,hb,p⟩))
 refine(eM l n r).then fun m2 t2 h2=>?_;clear r n;obtain⟨g2,w2,⟨a2,v2,rfl,a3,a4,_,u1,x7,x8,x9,b,al,rfl,b1,p⟩,B⟩:=h2;have y:=j.tr (jP j.dk j.rel l (aAw R j.up) al a3 a4 b1);refine(dR (Jz (h0:=w2.heap)) rfl B).then fun m3 t3 h3=>?_;clear B;obtain⟨g3,w3,⟨rfl,V⟩,ar,q⟩:=h3;have e:=y.tr (dQ (w':=w3) y.dk y.rel l V ar);have S:w3.heap.size=w2.heap.size:=by rw[V]
 rw[<-S] at q;have a6:aB.b0<=v2.heap.size:=by rw[e.rel.size];exact aAw R e.up
 refine(EE (ds:=[(LW,⟨none,0,0⟩),(LX,⟨none,0,0⟩)]) (cap:=2) (o:=o) (b₀:=base 12) (a₀:=⟨XO x7 x8 x9 b,[]⟩) (ops0:=fS) (i₀:=4) (rest0:=[5,6,7,8,9]) (k₀:=[.code AI]) (aAw R e.up) a6 e.rel e.dk e.hid (qa:=⟨b,AG LW LX,52,(0,0)⟩) (off:=0) p (show(52:Nat)≠4 by decide) (.inr rfl) (by simp[AG,aV]) (by simp[AG,aV]) (lr p rfl rfl dC dC) ho rfl rfl kr (fun x hx=>by rw[aAB.1 hx];exact ku) q).then fun m4 t4 h4=>?_;clear q;obtain⟨w4,v4,C,D4,o4,b2,E,K,b0,s⟩:=h4;have a:=e.tr E;rcases K with⟨_,pw,pl,L,rfl,ac,J,_,_⟩| ⟨a7,_⟩
 rotate_left
 .exact absurd vu a7
 rw[J3] at s;have k:=qF (D:=D4) (f:=12) (fn:=f12) (c:=AI) (ops:=fS) (l:=[5,6,7,8,9]) (b:=base 12) (b₀:=h) (a₀:=g) (ops0:=d) (i₀:=i) (rest0:=c) (k₀:=f) (cw:=cs) (w:=w4) (a:=⟨Es x7 x8 x9 b pw,[]⟩)
  (Ψ:=fun val z=>val=.bool true/\∃u,Rel (cM D4) w4 u/\Bz u z)
  rfl (qz func12) rfl rfl kr ku I M a1 F ⟨_,a.rel⟩ (fun u H=>by have T:=mZ a.dk a.rel H;have⟨mm,b3,p1,p2,Z,a0⟩:=vy (J.tw T);exact vx x7 x8 x9 Z a0 (T.obj _ _ ac (.inl trivial)) (by rw[H.size];exact aAw R a.up) _ (fun z Y=>⟨rfl,u,H,Y⟩))
 refine(eM a.hid k s).mono fun m5 t5 h5=>?_;clear s k;obtain⟨g5,w5,⟨val,v5,rfl,a9,a8,rfl,u,H,Y⟩,X⟩:=h5;exact⟨w5,v5,C,D4,o4,a.toSO.tr (kE a.dk H a9 a8 (aAw R a.up) Y.toBelow Y.kz),a.hid,b0,X⟩
end
end
section
open Go.Lift
section
theorem AH(s:Lp):∀(k p:Nat) (A:Ff),(∀i,i<A.size->∃b,A[i]?=some (.bool b))->∀i,i<A.size->∃b,(marks s k p A)[i]?=some (.bool b)
 |0,_,A,h,i,a=>h i a
 |k+1,p,A,h,i,a=>by
  unfold marks;split
  .refine AH s k _ _ (fun j c=>?_) i (by simpa using a);rw[aBK];split
   .split
    .exact⟨_,rfl⟩
    .rename_i e d;subst e;simp at c;exact absurd c d
   .exact h j (by simpa using c)
  .exact h i a
def PX(n i:Nat)(h:i<n):∃b,(fI n)[i]?=some (.bool b):=⟨false,by show(madeCells #[.bool false] n)[i]?=_;rw[<-aBp,toList_madeCells_one,List.getElem?_replicate,if_pos h]⟩
variable [aB]
def lx{o:List (bF×SV)}(h:wC W pl o L)(w:gM (o.map (·.1)))(z:Ge W dp li):∃m d,RP W pl m d 0 (am L) dp li 5000:=by
 have⟨m,r,A⟩:=h.lg;have t:o.length<=64:=by have:=w.1;simpa using this
 have key:∀q∈L,∃d g ms c,iD d/\q=oK d ⟨some ⟨c,0,none⟩,d.code.size,d.code.size⟩ g ms/\W.heap[c]?=ob (marks d.code d.code.size 0 (fI d.code.size)) 4:=fun q a=>by
  have⟨i,f,e⟩:=aBe.1 a;have n:i<o.length:=by rw[<-h.len];exact f
  have⟨g,ms,c,s,y⟩:=h.mu i o[i].1 (by rw[aAG n];rfl);rw[aAG f,e] at s;exact⟨_,g,ms,c,w.2.1 _ (aAI (aBf n)),aAv s,y⟩
 refine⟨m,r,⟨L,[],A,rfl,fun i=>⟨fun h=>(by cases h),False.elim⟩,fun q a p B=>?_⟩,z,fun i b v f=>?_,⟨L.map (·.1),by rw[aBB,h.len];omega,fun k l=>?_,fun k l=>?_⟩,⟨aBq _,by show(0:Int)<=((5000:Nat):Int);omega⟩⟩
 .obtain⟨d,g,ms,c,_,rfl,_⟩:=key q a;have:=(aCU.1 B).2;simpa using this
 .obtain⟨q,a,_,_,rfl⟩:=fR f;obtain⟨d,g,ms,c,⟨_,_,F,K,H,I,_⟩,rfl,D⟩:=key q a;refine⟨⟨F,by show d.nonce<=4611686018427387904+((5000:Nat):Int);omega⟩,⟨(kept d.bE).map (·.1),?_,fun k l=>?_⟩,.inr ⟨c,0,_,rfl,D,fun i f=>?_⟩,by show d.code.size<_;omega,by show d.code.size<_;omega⟩
  .have:(kept d.bE).length<=d.bE.length:=List.length_filter_le _ _;rw[aBB];omega
  .apply aCd;intro C;exact l (FU C)
  .rw[aAM];exact AH _ _ _ _ (fun j E=>PX _ _ (by rwa[qV] at E)) i (by rw[qV];exact f)
 .cases u:am L k with
  |none=>exact absurd u l
  |some x=>
   have⟨q,a,e,_⟩:=fR (b:=x.1) (v:=x.2) u;rw[<-e];exact aAI (f:=fun q:Int×Nat×Ac=>q.1) a
 .obtain⟨q,a,rfl⟩:=aAJ.1 l;obtain⟨d,g,ms,c,⟨J,G,_⟩,rfl,_⟩:=key q a;exact⟨by show 0<=d.id;omega,by show d.id<=4294967295;omega⟩
end
end
section
open Go.Conc Go.Walk Go.Phase Go.Conc.Lib Go.ConcR.Gen Go.ConcN.Gen Go.Lift
open Go.ConcN (WgLive Has RW DWs AtR0 PayAt)
open Go.ConcR (KK WgAt stA smA rd wr mk Payload)
variable [aB]
section
noncomputable def XP:Code:=uM uW
noncomputable def HC:Code:=nL 1 uW
noncomputable def wR:Code:=nL 2 uW
noncomputable def nD:DQ:=match HC with
 |.seq (.region _ o _) _=>o
 |_=>#[]
noncomputable def nE:DQ:=match wR with
 |.seq (.region _ o _) _=>o
 |_=>#[]
noncomputable def XQ:Code:=nL 6 nM
noncomputable def ly:Code:=nL 7 nM
noncomputable def XR:Code:=nL 1 nM
noncomputable def lz:Code:=nL 2 nM
noncomputable def Eu:Code:=match eR 6 with
 |.seq _ (.cond _ c _)=>c
 |_=>.skip
noncomputable def Fb:Code:=uM (eR 1)
noncomputable def my:Code:=match eR 1 with
 |.seq _ (.cond _ (.seq c _) _)=>c
 |_=>.skip
def Ev:Tryz.f6.body.getD .skip=.seq XP HC:=kR
def vz:HC=.seq (.region 1 nD false) wR:=kR
def wb:wR=.seq (.region 2 nE false) nM:=kR
def Ew:nM=chain [eR 0,eR 1,eR 2,eR 3,eR 4,eR 5] XQ:=kR
def we:nM=chain [eR 0] XR:=kR
def wh:XR=.seq (.seq Fb (.cond (.tmp 26) (.seq my .ret) .skip)) lz:=kR
def wi:XQ=.seq (.seq vp (.cond (.tmp 61) Eu .skip)) ly:=kR
def wj:ly=chain [eR 7,eR 8,eR 9,eR 10] .ret:=kR
def J4:bQ Tryz.prog XP=true:=kR
def J5:bQ Tryz.prog HC=true:=kR
def J6:bQ Tryz.prog wR=true:=kR
def Om:bQ Tryz.prog nM=true:=kR
def J7:bQ Tryz.prog (chain [eR 0,eR 1,eR 2,eR 3,eR 4,eR 5] XQ)=true:=kR
def J8:bQ Tryz.prog (chain [eR 0] XR)=true:=kR
def Ka:bQ Tryz.prog XQ=true:=kR
def Kb:bQ Tryz.prog XR=true:=kR
def yv:bQ Tryz.prog lz=true:=kR
def Kd:bQ Tryz.prog ly=true:=kR
def Ey:bQ Tryz.prog (chain [eR 7,eR 8,eR 9,eR 10] .ret)=true:=kR
def Oo:bQ Tryz.prog vp=true:=kR
def Oq:bQ Tryz.prog (.cond (.tmp 61) Eu .skip)=true:=kR
def Ot:bQ Tryz.prog Fb=true:=kR
def Ou:bQ Tryz.prog (.cond (.tmp 26) (.seq my .ret) .skip)=true:=kR
def Ov:bQ Tryz.prog my=true:=kR
def Ke:jS Tryz.prog nD=true:=kR
def Kf:jS Tryz.prog nE=true:=kR
structure A6 (T:Ff)(aa:yj)(n cap:Nat)(o:Od):Prop where
 sz:T.size=180
 t0:T[0]?=some (.slice aa n cap)
 t1:T[1]?=some (.agg o.cs)
structure B6 (T:Ff)(aa:yj)(n cap bo:Nat):Prop where
 sz:T.size=180
 t0:T[0]?=some (.slice aa n cap)
 t3:T[3]?=some (pq bo 0)
structure D6 (T:Ff)(y:vZ):Prop where
 sz:T.size=180
 t5:T[5]?=some (.bool true)
 t6:T[6]?=some (.pointer none)
 t7:T[7]?=some (.iface 90 y)
attribute [local go_sem] wd
def Kg(d:A6 T aa n cap o)(u:WR)(f:Fi)(c:∀g,B6 g aa n cap u.heap.size->f ⟨g,[]⟩ (u.alloc (.cells o.cs 43))):
  XP.wp zQ.prog (fun e a w=>e=.normal/\a.defers=[]/\f a w) ⟨T,[]⟩ u:=by
 have b:=US c;clear c;obtain⟨x,rfl⟩:=kI T d.sz;rw[show x 0=_ from aAv d.t0,show x 1=_ from aAv d.t1];clear d;dsimp only[XP,uM,uW,f6,gdS];unfold Od.cs
 (go_wp2_with fail)
 exact b.out _ ⟨rfl,rfl,rfl⟩
def Kh(d:D6 T y)(u:WR)(f:Fi)(c:∀g,D6 g y->f ⟨g,[]⟩ u):
  (eR 0).wp zQ.prog (fun e a w=>e=.normal/\a.defers=[]/\f a w) ⟨T,[]⟩ u:=by
 have b:=US c;clear c;obtain⟨x,rfl⟩:=kI T d.sz;rw[show x 5=_ from aAv d.t5,show x 6=_ from aAv d.t6,show x 7=_ from aAv d.t7];clear d;dsimp only[eR,nM,uW,uM,nL,f6,gdS]
 (go_wp2_with fail)
 exact b.out _ ⟨rfl,rfl,rfl,rfl⟩
def Ki(d:D6 T y)(u:WR)(g:Fi)(c:∀f,D6 f y->f[26]?=some (.bool true)->g ⟨f,[]⟩ u):
  Fb.wp zQ.prog (fun e a w=>e=.normal/\a.defers=[]/\g a w) ⟨T,[]⟩ u:=by
 have b:=US c;clear c;obtain⟨x,rfl⟩:=kI T d.sz;rw[show x 5=_ from aAv d.t5,show x 6=_ from aAv d.t6,show x 7=_ from aAv d.t7];clear d;dsimp only[Fb,eR,nM,uW,uM,nL,f6,gdS]
 (go_wp2_with fail)
 exact b.out _ ⟨rfl,rfl,rfl,rfl⟩ rfl
def Ez(y:vZ)(V:WR):(binOp BinOp.neq 36 (.iface 90 y) .nilIface).run zQ.prog V=.ok (.bool true) V:=kR
def Kj(d:D6 T y)(u:WR)(f:Fi)(c:∀g,g[4]?=some (.bool true)->f ⟨g,[]⟩ u):
  my.wp zQ.prog (fun e a w=>e=.normal/\a.defers=[]/\f a w) ⟨T,[]⟩ u:=by
 have b:=US c;clear c;obtain⟨x,rfl⟩:=kI T d.sz;rw[show x 5=_ from aAv d.t5,show x 6=_ from aAv d.t6,show x 7=_ from aAv d.t7];clear d;have h:=Ez;dsimp only[my,eR,nM,uW,uM,nL,f6,gdS]
 (go_wp2_with fail)
 exact b.out _ rfl
def Qn:cO Tryz.prog true AtRel kD (fun g w=>g=G ((base 6).at ⟨T,[]⟩ [.code XP,.code HC]) cs/\w.heap=h0) (fun w=>w.heap=h0) 5
  (G ((base 6).at ⟨T,[]⟩ [.code (Tryz.f6.body.getD .skip)]) cs):=by
 have E:=nK h0;rw[Ev];exact bU E (cD E (fun w a=>⟨rfl,a⟩))
def Qo{f:Ff}(i:f=Array.replicate 76 uf):cO prog true AtRel kD (fun g w=>g=G ((base 12).at ⟨f,[]⟩ [.code (f12.body.getD .skip)]) (((base 6).at ⟨T,[]⟩ (.inRegion nD [0,1]::[.code wR]))::cs)/\w.heap=h0) (fun w=>w.heap=h0) 10
  (G ((base 6).at ⟨T,[]⟩ [.code HC]) cs):=by
 have E:=nK h0;have h:=US i;clear i;rw[vz];obtain⟨l,e⟩:∃c,c=wR:=⟨_,rfl⟩;obtain⟨k,b⟩:∃c,c=f12.body.getD .skip:=⟨_,rfl⟩;rw[<-e,<-b];simp only[nD,HC,uW,nL,f6,aAK];clear e;refine bU E ?_;refine bI E ?_;have d:(f12.name== "runtime.NumGoroutine")=false:=kR
 have a:Tryz.f12.body=some k:=by rw[b];kernel_rfl
 refine eY E rfl rfl sQ2 rfl func12 d a ?_;rw[ntmps12];clear d a b;refine cD E fun w j=>⟨?_,j⟩;rw[h.out];simp
def Kk:after (base 6) ⟨T,[]⟩ nD 0 [1] [.code wR] (.bool true)=(base 6).at ⟨T.setIfInBounds 17 (.bool true),[]⟩ (.inRegion nD [1]::[.code wR]):=kR
def Qp(h:B6 T aa n cap bo):cO prog true AtRel kD (fun g w=>(∃j,g=G ((base 16).at ⟨#[.sl aa n cap]++Array.replicate 12 uf,[]⟩ [.code (f16.body.getD .skip)]) (((base 6).at ⟨j,[]⟩ (.inRegion nE [1,2,3,4,5,6]::[.code nM]))::cs)/\B6 j aa n cap bo/\j[5]?=some (.bool true))/\w.heap=h0) (fun w=>w.heap=h0) 30
  (G ((base 6).at ⟨T.setIfInBounds 17 (.bool true),[]⟩ (.inRegion nD [1]::[.code wR])) cs):=by
 have E:=nK h0;rw[wb];obtain⟨m,f⟩:∃c,c=nM:=⟨_,rfl⟩;obtain⟨k,b⟩:∃c,c=f16.body.getD .skip:=⟨_,rfl⟩;rw[<-f,<-b];simp only[nD,nE,HC,wR,nL,uW,f6,aAK];clear f;obtain⟨x,rfl⟩:=kI T h.sz;rw[show x 0=_ from aAv h.t0,show x 3=_ from aAv h.t3];clear h;simp only[aAA,aAD,aAE];refine bV E rfl rfl sQ2 fun w i K d=>?_;go_simp;refine d _ sQ1 ?_;clear d K i w;refine aP E ?_;refine bU E ?_;refine bL E ?_;refine bV E rfl rfl sQ2 fun w i K d=>?_;go_simp;refine d _ sQ1 ?_;clear d K i w;have e:(f16.name== "runtime.NumGoroutine")=false:=kR
 have a:Tryz.f16.body=some k:=by rw[b];kernel_rfl
 refine eY E rfl rfl sQ2 rfl func16 e a ?_;rw[ntmps16];clear e a b
 walk_nrm
 exact cD E fun w l=>⟨⟨_,rfl,⟨rfl,rfl,rfl⟩,rfl⟩,l⟩
def Kl{val:vZ}:after (base 6) ⟨T,[]⟩ nE 1 [2,3,4,5,6] [.code nM] val=(base 6).at ⟨T.setIfInBounds 20 val,[]⟩ (.inRegion nE [2,3,4,5,6]::[.code nM]):=kR
def Pu{v1 k:vZ}(f:B6 T aa n cap bo)(j:T[5]?=some (.bool true)):cO Tryz.prog true AtRel kD (fun g w=>(∃d,g=G ((base 6).at ⟨d,[]⟩ [.code nM]) cs/\d.size=180/\d[3]?=some (pq bo 0)/\d[5]?=some (.bool true)/\d[6]?=some v1/\d[7]?=some k)/\w.heap=h0) (fun w=>w.heap=h0) 30
  (G ((base 6).at ⟨T.setIfInBounds 20 (.tuple #[v1,k]),[]⟩ (.inRegion nE [2,3,4,5,6]::[.code nM])) cs):=by
 have E:=nK h0;obtain⟨o,e⟩:∃c,c=nM:=⟨_,rfl⟩;rw[<-e];simp only[nE,wR,nL,uW,f6,aAK];clear e;obtain⟨x,rfl⟩:=kI T f.sz;have h:x 0=_:=aAv f.t0;have l:x 3=_:=aAv f.t3;have i:x 5=_:=aAv j;clear f j;rw[h,l,i];clear h l i;simp only[aAA,aAD,aAE];refine bV E rfl rfl sQ2 fun w b K a=>?_;go_simp;refine a _ sQ1 ?_;clear a K b w;refine bV E rfl rfl sQ2 fun w b K a=>?_;go_simp;refine a _ sQ1 ?_;clear a K b w;refine bV E rfl rfl sQ2 fun w b K a=>?_;go_simp;refine a _ sQ1 ?_;clear a K b w;refine bV E rfl rfl sQ2 fun w b K a=>?_;go_simp;refine a _ sQ1 ?_;clear a K b w;refine bV E rfl rfl sQ2 fun w b K a=>?_;go_simp;refine a _ sQ1 ?_;clear a K b w;refine aP E ?_;exact cD E fun w m=>⟨⟨_,rfl,rfl,rfl,rfl,rfl,rfl⟩,m⟩
def Qq:cO Tryz.prog true AtRel kD (fun g w=>g=G ((base 6).at ⟨T,[]⟩ [.code vp,.code (.cond (.tmp 61) Eu .skip),.code ly]) cs/\w.heap=h0) (fun w=>w.heap=h0) 5
  (G ((base 6).at ⟨T,[]⟩ [.code XQ]) cs):=by
 have E:=nK h0;rw[wi];exact bU E (bU E (cD E (fun w a=>⟨rfl,a⟩)))
def l4{b:Bool}{k:Nat}(h:T[k]?=some (.bool b)):Act.eval ⟨T,[]⟩ (.tmp k)=.bool b:=by simp[Act.eval,h]
def Ow(d:T.size=180)(b:T[61]?=some (.bool true)):cO Tryz.prog true AtRel kD (fun g w=>(∃(T:Ff) (a:List Item),g=G {(base 6).at ⟨T,[]⟩ a with mode:=.returning} cs/\T[4]?=some (.bool true))/\w.heap=h0) (fun w=>w.heap=h0) 20
  (G ((base 6).at ⟨T,[]⟩ (.code (.cond (.tmp 61) Eu .skip)::k)) cs):=by
 have E:=nK h0;refine bM E (l4 b) ?_;simp only[Eu,eR,nM,uW,uM,nL,f6,aAK];obtain⟨x,rfl⟩:=kI T d;clear b d;refine bU E ?_;refine bD E ?_;refine bV E rfl rfl sQ2 fun w f K c=>?_;go_simp;refine c _ sQ1 ?_;clear c K f w;refine aP E ?_;refine eI E ?_;exact cD E fun w e=>⟨⟨_,_,rfl,rfl⟩,e⟩
def Ox(a:T[61]?=some (.bool false)):cO Tryz.prog true AtRel kD (fun g w=>g=G ((base 6).at ⟨T,[]⟩ k) cs/\w.heap=h0) (fun w=>w.heap=h0) 5
  (G ((base 6).at ⟨T,[]⟩ (.code (.cond (.tmp 61) Eu .skip)::k)) cs):=by
 have E:=nK h0;exact bZ E (l4 a) (cX E (cD E (fun w b=>⟨rfl,b⟩)))
def Pv(c:T[4]?=some (.bool true)):cO Tryz.prog true AtRel kD (fun g w=>(∃(T:Ff) (a:List Item),g=G {(base 6).at ⟨T,[]⟩ a with mode:=.returning} cs/\T[4]?=some (.bool true))/\w.heap=h0) (fun w=>w.heap=h0) 5
  (G ((base 6).at ⟨T,[]⟩ (.code .ret::k)) cs):=by
 have E:=nK h0;exact eI E (cD E (fun w b=>⟨⟨_,_,rfl,c⟩,b⟩))
def Qr:cO Tryz.prog true AtRel kD (fun g w=>g=G ((base 6).at ⟨T,[]⟩ [.code Fb,.code (.cond (.tmp 26) (.seq my .ret) .skip),.code lz]) cs/\w.heap=h0) (fun w=>w.heap=h0) 5
  (G ((base 6).at ⟨T,[]⟩ [.code XR]) cs):=by
 have E:=nK h0;rw[wh];exact bU E (bU E (cD E (fun w a=>⟨rfl,a⟩)))
def Qs(h:T[26]?=some (.bool true)):cO Tryz.prog true AtRel kD (fun g w=>g=G ((base 6).at ⟨T,[]⟩ (.code my::.code .ret::k)) cs/\w.heap=h0) (fun w=>w.heap=h0) 5
  (G ((base 6).at ⟨T,[]⟩ (.code (.cond (.tmp 26) (.seq my .ret) .skip)::k)) cs):=by
 have E:=nK h0;exact bM E (l4 h) (bU E (cD E (fun w a=>⟨rfl,a⟩)))
end
end
end Go.Mark
