import Derived.Test.YtbephahokhnccaaGreatDoorJ25
import Derived.Test.YtbephahokhnccaaGreatDoorJ32
set_option linter.all false
set_option maxRecDepth 100000
set_option maxHeartbeats 16000000
namespace Go
abbrev uf:Value:=undef
end Go
namespace Go.Mark
open Go.RowKit Go.Proofs Go.Proofs.Tryz
variable{T cur:Ff}{cB:Bool}{s:Lp}{cr k:Int}{os:List (bF×SV)}{bo n c rb g N B pw l m gn pn dmb p1 p2 b z q:Nat}{o:Od}{vn vw lv:SV}{y:vZ}{W u v w W':WR}{p:bF×SV}
section
open Go.Lift
variable [aB]
attribute [local go_sem] wd
noncomputable def fS:DQ:=match Tryz.f12.body with
 |some (.seq _ (.seq (.region _ o _) _))=>o
 |_=>#[]
noncomputable def AI:Code:=match Tryz.f12.body with
 |some (.seq _ (.seq _ c))=>c
 |_=>.skip
def kr:jS Tryz.prog fS=true:=kR
def ku:bQ Tryz.prog AI=true:=kR
def AF(n:Nat)(h:n<M)(W:WR):(Op.equalIn 10000 41 (wd n) (wd n)).run zQ.prog W=.ok true W:=by have:=rW n n h h W;rw[decide_eq_true rfl] at this;exact this
def kv(n:Nat)(c:n<1000000000)(W:WR):Cq 21 #[vI (n:Int)] W fun e a=>e=.rt (wd n)/\Bw W a:=by rw[iU n oM];have b:IntKind.u64.wrap (n:Int)=(n:Int):=IntWalk.u64_in _ oM;go_enter (qz func21),ntmps21;go_wp2;simp[bodyPost,results,results21,go_sem];exact ba
def XN(h:Kn l m ⟨dmb,[]⟩ cr p1 p2 30000 0 0 10 W)(j:p1≠p2)(a:W.heap[pw]?=ob #[pq l 0] 87)(g:aB.b0<=W.heap.size):
  Cq 15 #[pq pw 0,.agg (Od.cs ⟨1,2,0,7,((25000:Nat):Int),((1:Nat):Int),⟨#[]⟩,3⟩)] W fun e f=>∃cB k id lv s i,e=.rt (.tuple #[.agg (fM cB k id lv s),i])/\((cB=true/\k=21000/\id=0/\s=⟨#[]⟩/\i=.nilIface)/\ud l m ⟨dmb,[]⟩ cr p1 p2 f/\aU [l,p1,p2,m,dmb] [262] W f):=by
 have n:W.cell? ⟨pw,0,none⟩=some (pq l 0):=by rw[aJ a 0];rfl
 refine ye (Q:=fun cB k id _ s i w=>(cB=true/\k=21000/\id=0/\s=⟨#[]⟩/\i=.nilIface)/\ud l m ⟨dmb,[]⟩ cr p1 p2 w/\aU [l,p1,p2,m,dmb] [262] W w) n (aG a) (fun w d=>?_) g fun _ _ _ _ _ _ w f ⟨K,⟨E,y,M,p3,C,o,D⟩,p⟩ H d=>⟨K,⟨E,y,M,p3,C,o.XV H dC,D⟩,p.HI d⟩
 apply(WL (h.below d) j (aAw g d.size)).mono;rintro e f ⟨lv,rfl,A,h3⟩;obtain⟨R,u,v,b,_⟩:=h;have I:=b.cell0.1;have B:p1<W.heap.size:=aG (b.acc (1,p1,u) sI);have O:p2<W.heap.size:=aG (b.acc (2,p2,v) sI);have L:=b.map.lt;have N:dmb<W.heap.size:=b.iZ.lt;refine⟨_,_,_,lv,_,_,rfl,⟨⟨rfl,rfl,rfl,rfl,rfl⟩,A,(aU.aF d _ _).tr h3⟩,Kp.jA h3 (fun k F=>by simp at F;omega) dC dC,?_⟩;have t:=bk d a;have⟨S,J,_⟩:=b.lj.ex;obtain⟨T,Q,P⟩:∃q c,W.heap[m]?=some (.map q c):=let⟨q,c,G,_⟩:=b.map;⟨q,c,G⟩
 have⟨z,x⟩:=wV b.iZ;have r:f.heap[pw]?=_:=h3.obj t (by show(87:Nat)∉[262];decide) (by simp only[aAx,aAC,or_false,not_or];exact⟨dP a J dC,dP a (b.acc (1,p1,u) sI) dC,dP a (b.acc (2,p2,v) sI) dC,dS a P (fun e=>by cases e),dS a x (fun e=>by cases e)⟩)
 simp only[World.cell?,r,a]
structure Bz (u v:WR):Prop extends Below aB.b0 u v where
 kz:∀(b:Nat) (e:Fh),e<1000->u.heap[b]?=some (.cells #[] e)->∃c f,v.heap[b]?=some (.cells c e f)
def Bz.grow{a:WR}(h:Bz u v)(g:aB.b0<=u.heap.size)(k:Bw v a):Bz u a:=
 ⟨h.toBelow.tr ⟨k.os,k.tape,k.output,k.size,fun b l=>k.block b (by have:=h.size;omega)⟩,fun b e i j=>let⟨c,f,d⟩:=h.kz b e i j;⟨c,f,(k.block b (aAu.1 d).1).tr d⟩⟩
def Bz.drew(h:Bz u v):Bz u v.drew:=⟨h.toBelow.drew,h.kz⟩
def aU.bz{B:K4}{T:List Fh}(h:aU B T u v)(f:Below aB.b0 u v)(j:∀b∈B,∀e,u.heap[b]?≠some (.cells #[] e)):Bz u v:=by
 refine⟨f,fun b e _ a=>?_⟩;rcases h.block b (aAu.1 a).1 (fun i=>j b i e a) with d| ⟨t,c,k,_,_,d,g⟩
 .exact⟨_,_,d.tr a⟩
 .rw[a] at d;cases d;exact⟨_,_,g⟩
def PU{c:Ff}{t:Fh}(h:w.heap[b]?=ob c t)(d:0<c.size)(e:Fh):w.heap[b]?≠some (.cells #[] e):=fun a=>by rw[h] at a;cases a;simp at d
def kx{es c}(h:w.heap[b]?=some (.map es c))(e:Fh):w.heap[b]?≠some (.cells #[] e):=fun a=>by rw[h] at a;cases a
def Eg(x7 x8 x9 a8:vZ)(h:Kn l m ⟨dmb,[]⟩ cr p1 p2 30000 0 0 10 u)(a3:p1≠p2)(D:u.heap[pw]?=ob #[pq l 0] 87)(q:aB.b0<=u.heap.size)(Ψ:vZ->K6)(O:∀J,Bz u J->Ψ (.bool true) J):
  wpOps zQ.prog fS (fun e a' J=>e=.normal/\AI.wp zQ.prog (bodyPost zQ.prog Tryz.f12 fun e J=>∃val,e=.returned val/\Ψ val J) a' J) [5,6,7,8,9] ⟨#[.bool false,uf,uf,uf,uf,uf,uf,x7,x8,x9,a8,.tuple #[pq pw 0,.nilIface],uf,uf,uf,uf,uf,uf,uf,uf,uf,uf,uf,uf,uf,uf,uf,uf,uf,uf,uf,uf,uf,uf,uf,uf,uf,uf,uf,uf]++#[uf,uf,uf,uf,uf,uf,uf,uf,uf,uf,uf,uf,uf,uf,uf,uf,uf,uf,uf,uf,uf,uf,uf,uf,uf,uf,uf,uf,uf,uf,uf,uf,uf,uf,uf,uf],[]⟩ u:=by
 simp only[aBZ,aBi,aBW];obtain⟨fn,F⟩:∃fn,fn=Tryz.f12:=⟨_,rfl⟩;have T:fn.results=#[ResultVar.tmp 0]:=by rw[F];exact Tryz.results12
 rw[<-F];clear F;obtain⟨lo,A⟩:∃l,l=fS.toList.drop 5:=⟨_,rfl⟩;have r:=A;simp only[fS,Tryz.f12,aCX,aCE] at r;refine AE lo 5 5 (by rw[r];rfl) (fun j=>by rw[A];simp) ?_;rw[r];dsimp only[AI,fS,Tryz.f12];clear r A lo;have X:Cq 21 #[vI 7] u _:=kv 7 dC u;go_wp2_with fail;refine X.mono ?_;rintro e w1 ⟨rfl,n⟩;clear X;have t:=XN (h.below n) a3 (bk n D) (aAw q n.size);unfold Od.cs at t;have Z:((25000:Nat):Int)=25000:=rfl;have e1:((1:Nat):Int)=1:=rfl;rw[Z,e1] at t;unfold wd;go_wp2_with fail;refine t.mono ?_;rintro e w2 ⟨_,_,_,lv,_,_,rfl,⟨⟨rfl,rfl,rfl,rfl,rfl⟩,a9,v⟩⟩;clear t;have R:fM true 21000 0 lv ⟨#[]⟩=#[.bool true,vI 21000,vI 0,.slice lv.a lv.n lv.c,.string ⟨#[]⟩]:=rfl;rw[R];clear R Z e1;have s:Bw w2 (w2.alloc (.cells #[.bool true,vI 21000,vI 0,.slice lv.a lv.n lv.c,.string ⟨#[]⟩] 34)):=ba;have C:=aM w2 (.cells #[.bool true,vI 21000,vI 0,.slice lv.a lv.n lv.c,.string ⟨#[]⟩] 34);obtain⟨J9,b1,b2,p3,b3,P,a6⟩:=a9;have y:=P.below s;have x:ud l m ⟨dmb,[]⟩ cr p1 p2 (w2.alloc (.cells #[.bool true,vI 21000,vI 0,.slice lv.a lv.n lv.c,.string ⟨#[]⟩] 34)):=⟨J9,b1,b2,p3,b3,y,a6⟩;have N:w2.heap[pw]?=ob #[pq l 0] 87:=by
  obtain⟨J0,a1,a2,E,_⟩:=h;have p:=bk n D;have o:=E.below n;obtain⟨jv,U,_⟩:=o.lj.ex;obtain⟨em,cm,hm⟩:∃B c,w1.heap[m]?=some (.map B c):=let⟨B,c,Y,_⟩:=o.map;⟨B,c,Y⟩
  obtain⟨a0,hd⟩:=wV o.iZ;refine v.obj p (by show(87:Nat)∉[262];decide) ?_;simp only[aAx,aAC,or_false,not_or];exact⟨dP p U dC,dP p (o.acc (1,p1,a1) sI) dC,dP p (o.acc (2,p2,a2) sI) dC,dS p hm (fun e=>by cases e),dS p hd (fun e=>by cases e)⟩
 have H:=iu x ((aJ (bk s N) 0).trans rfl);have Q:Bz u w2:=by
  obtain⟨J0,a1,a2,E,_⟩:=h;have o:=E.below n;have e1:Below aB.b0 u w1:=⟨n.os,n.tape,n.output,n.size,fun k hk=>n.block k oM⟩;have e2:=v.low (fun k hk=>by have Y:=(E.lo (1,p1,a1) sI).1;have h2:=(E.lo (2,p2,a2) sI).1;have h3:=E.wT;have h4:=E.lj.lo;simp only[aAx,aAC,or_false] at hk;simp only at Y h2 h3;exact oM) (aAw q n.size)
  have e3:=v.bz e2 (fun b hb=>by
   obtain⟨jv,U,_⟩:=o.lj.ex;obtain⟨em,cm,hm⟩:∃B c,w1.heap[m]?=some (.map B c):=let⟨B,c,Y,_⟩:=o.map;⟨B,c,Y⟩
   obtain⟨a0,hd⟩:=wV o.iZ;simp only[aAx,aAC,or_false] at hb;rcases hb with rfl|rfl|rfl|rfl|rfl
   .exact PU U sI
   .exact PU (o.acc (1,b,a1) sI) (by simp[cG])
   .exact PU (o.acc (2,b,a2) sI) (by simp[cG])
   .exact kx hm
   .exact kx hd)
  exact⟨e1.trans e2,fun b e U he=>e3.kz b e U ((n.block b (aAu.1 he).1).trans he)⟩
 clear h v x y P D n;go_wp2_with fail;change Calls _ _ _ (w2.alloc (.cells #[.bool true,vI 21000,vI 0,.slice lv.a lv.n lv.c,.string ⟨#[]⟩] 34)) _;generalize aa:w2.alloc (.cells #[.bool true,.int .i64 21000,.int .i64 0,.slice lv.a lv.n lv.c,.string ⟨#[]⟩] 34)=w3 at s C H⊢;refine H.mono ?_;rintro e w4 ⟨g,cap,cur,rfl,I,hg,a,a4,ac⟩;clear H;have G:=bk I C;have a7:=aG G;generalize w2.heap.size=rb at G a7⊢;have w:Bz u w4:=(Q.grow q s).grow q I;have a5:aB.b0<=w4.heap.size:=aAw q w.size;clear C s I Q aa;have ad:=aG hg;go_wp2_with fail;refine rq (fun V=>V.heap[rb]?=ob #[.bool true,vI 21000,vI 0,.slice lv.a lv.n lv.c,.string ⟨#[]⟩] 34/\V.heap[g]?=ob cur 52/\Bz u V) ⟨G,hg,w.drew⟩ fun d=>?_;refine t4 0 1 2 3 d ?_;refine tV 4 (fun _ f=>bq f.1 0) d ?_;refine t3 5 6 7 d ?_;refine tV 8 (fun _ f=>bq f.1 1) d ?_;refine t6 9 10 11 12 13 14 d ?_;refine t5 15 16 17 18 19 d ?_;refine tD 20 49 (wd 8993) (fun V f=>?_) d ?_
 .have L:=(aJ f.2.1 (1+0)).trans (a 0 oM).1;have k1:=(aJ f.2.1 (1+1)).trans (a 1 oM).1;have M:=(aJ f.2.1 (1+2)).trans (a 2 oM).1;have S:=(aJ f.2.1 (1+3)).trans (a 3 oM).1;simp only[Nat.reduceAdd,aBd] at L k1 M S;clear f d a;go_simp
 refine rA 21 fun K z=>?_;go_simp;refine Calls.mono (show Cq 21 #[vI 8993] _ _ from kv 8993 dC _) ?_;rintro e V1 ⟨rfl,i⟩;go_wp2_with fail;refine z.out _ _ ⟨bk i d.1,bk i d.2.1,d.2.2.grow q i⟩ fun d=>?_;clear z K i;refine tD 22 51 (.bool true) (fun V f=>?_) d ?_
 .have heq:=AF 8993 dC V;clear f d a;unfold wd at heq
  (try unfold wd)
  go_simp
 refine t5 23 24 25 26 27 d ?_;refine tD 28 57 (wd 7) (fun V f=>?_) d ?_
 .have L:=(aJ f.2.1 (9+0)).trans (a 0 oM).2.1;have k1:=(aJ f.2.1 (9+1)).trans (a 1 oM).2.1;have M:=(aJ f.2.1 (9+2)).trans (a 2 oM).2.1;have S:=(aJ f.2.1 (9+3)).trans (a 3 oM).2.1;simp only[Nat.reduceAdd,aBd] at L k1 M S;clear f d a;go_simp
 refine rA 29 fun K z=>?_;go_simp;refine Calls.mono (show Cq 21 #[vI 7] _ _ from kv 7 dC _) ?_;rintro e V1 ⟨rfl,i⟩;go_wp2_with fail;refine z.out _ _ ⟨bk i d.1,bk i d.2.1,d.2.2.grow q i⟩ fun d=>?_;clear z K i;refine tD 30 59 (.bool true) (fun V f=>?_) d ?_
 .have heq:=AF 7 dC V;clear f d a;unfold wd at heq
  (try unfold wd)
  go_simp
 refine t5 31 32 33 34 35 d ?_;refine tD 36 65 (wd 21000) (fun V f=>?_) d ?_
 .have L:=(aJ f.2.1 (17+0)).trans (a 0 oM).2.2;have k1:=(aJ f.2.1 (17+1)).trans (a 1 oM).2.2;have M:=(aJ f.2.1 (17+2)).trans (a 2 oM).2.2;have S:=(aJ f.2.1 (17+3)).trans (a 3 oM).2.2;simp only[Nat.reduceAdd,aBd] at L k1 M S;clear f d a;go_simp
 refine rA 37 fun K z=>?_;go_simp;refine Calls.mono (show Cq 21 #[vI 21000] _ _ from kv 21000 dC _) ?_;rintro e V1 ⟨rfl,i⟩;go_wp2_with fail;refine z.out _ _ ⟨bk i d.1,bk i d.2.1,d.2.2.grow q i⟩ fun d=>?_;clear z K i;refine tD 38 67 (.bool true) (fun V f=>?_) d ?_
 .have heq:=AF 21000 dC V;clear f d a;unfold wd at heq
  (try unfold wd)
  go_simp
 refine t5 39 40 41 42 43 d ?_;refine tD 44 73 (vI 1) (fun V f=>?_) d ?_
 .have L:=(aJ f.2.1 5).trans a4;clear f d a;go_simp
 refine t3 45 46 47 d ?_;refine dn ?_;have W:=O _ d.2.2;clear O a;go_wp2;simp[bodyPost,results,T,go_sem];exact W
end
section
theorem LR:∀(l a b:K3) (o:Nat),o+l.length<=a.length->lZ (a++b) o l=lZ a o l++b
 | [],_,_,_,_=>rfl
 |u::l,a,b,o,h=>by simp only[aBr] at h;rw[lZ,lZ,List.set_append_left _ _ oM,LR l _ b (o+1) (by rw[aCk];omega)]
theorem EF:∀{l:List (bF×SV)} {i:Nat} {p b:bF×SV} {o:Nat} {a:K3},l[i]?=some p->o+a.length<=8->lZ (aV p.1 p.2) o a=aV b.1 b.2->lZ (eJ l) (i*8+o) a=eJ (l.set i b)
 | [],_,_,_,_,_,h,_,_=>by simp at h
 |q::l,0,p,b,o,a,h,c,d=>by simp only[aAP,aAF] at h;subst h;rw[aCy,aAM,eJ,aAD,eJ,LR _ _ _ _ (by show _<=8;exact c),d]
 |q::l,i+1,p,b,o,a,h,c,d=>by have e:(aV q.1 q.2).length=8:=rfl;have:=zA a (aV q.1 q.2) (eJ l) (i*8+o);rw[e,EF (by simpa using h) c d] at this;rw[eJ,aAE,eJ,<-this];congr 1;omega
variable [aB]
def dD.upd(h:dD B W ⟨some ⟨g,0,none⟩,n,c⟩ os){i:Nat}{p':bF×SV}{o:Nat}{cs:K3}(f:os[i]?=some p)(z:o+cs.length<=8)(D:lZ (aV p.1 p.2) o cs=aV p'.1 p'.2)(u:p'.2=p.2)(A:p'.1.bE=p.1.bE):
  dD B (W.setCells g (i*8+o) cs) ⟨some ⟨g,0,none⟩,n,c⟩ (os.set i p')/\W.grownBy (W.setCells g (i*8+o) cs) (some g):=by
 have C:n=os.length:=(zJ (y:=⟨some ⟨g,0,none⟩,n,c⟩) h.own).1;subst C;have m:=wW cs W (eJ os) (i*8+o) h.own;have s:p∈os:=aBj f;have a:∀q∈os.set i p',∃b∈os,q.2=b.2/\q.1.bE=b.1.bE:=fun q d=>by
  rcases aCw d with d|rfl
  .exact⟨q,d,rfl,rfl⟩
  .exact⟨p,s,u,A⟩
 refine⟨⟨?_,fun q d=>?_,fun q d r e=>?_,?_⟩,m.2⟩
 .rw[aCk,<-EF f z D];exact m.1
 .have⟨b,k,t,v⟩:=a q d;rw[t,v];exact iK (h.sl b k) m.2 fun r l=>h.HI b k r l
 .have⟨b,k,t,_⟩:=a q d;rw[t] at e;exact h.HI b k r e
 .have e:(os.set i p').map (·.2)=os.map (·.2):=by
   rw[aDh,u];refine aDc fun j=>?_;rw[List.getElem?_set];split
   .rename_i w;subst w;have:=(aAO.1 f).1;rw[aBy,f];simp[this]
   .rfl
  have h3:(os.map (·.2)).Pairwise fun x y:SV=>∀g,x.blk=some g->y.blk≠some g:=aBw.2 h.apart;rw[<-e] at h3;exact aBw.1 h3
def dD.rs{v:SV}(h:dD B W v os)(k:p∈os):p.2.n=p.1.bE.length/\(p.1.bE=[]\/∃g,p.2.a=some ⟨g,0,none⟩/\g<W.heap.size/\pA W g p.1.bE):=by
 have a:=h.sl p k;obtain⟨d,⟨m,c,n⟩⟩:=p;simp only at a⊢;have l:c=d.bE.length:=(zJ (y:=⟨m,c,n⟩) a).1;subst l;refine⟨rfl,?_⟩;rcases a.2 with⟨b,e⟩| ⟨g,cap,cur,b,_,f,_⟩
 .exact .inl (aAZ e)
 .cases b;exact .inr ⟨g,rfl,aG f,fun i q j=>cj a j⟩
def Px.bz{T:K4}(h:Px T u v)(l:aB.b0<=u.heap.size):Bz u v:=by
 refine⟨⟨h.os,h.tape,h.output,h.size,fun k j=>h.low j oM⟩,fun b e d g=>?_⟩;rcases h.block b (aG g) with a| ⟨_,_,a⟩
 .exact⟨_,_,a.tr g⟩
 .rw[g] at a;change kd v.heap[b]?=e at a;cases i:v.heap[b]? with
  |none=>rw[i] at a;change 2000=e at a;subst a;exact absurd d dC
  |some o=>
   rw[i] at a;cases o with
   |cells c t f=>change t=e at a;subst a;exact⟨c,f,rfl⟩
   |map=>change 1000=e at a;subst a;exact absurd d dC
   |mapIter=>change 1001=e at a;subst a;exact absurd d dC
   |_=>change 2000=e at a;subst a;exact absurd d dC
end
section
open Go.Lift
section
def uM:Code->Code
 |.seq c _=>c
 |c=>c
def nL:Nat->Code->Code
 |0,c=>c
 |k+1,.seq _ c=>nL k c
 |_,c=>c
noncomputable def uW:Code:=Tryz.f6.body.getD .skip
noncomputable def nM:Code:=nL 3 uW
noncomputable def eR(k:Nat):Code:=uM (nL k nM)
def lh(T:Ff)(n:Nat)(h:T.size=n):T=⟨(List.range n).map fun i=>T.getD i undef⟩:=by
 subst h;refine aCz fun i=>?_;by_cases a:i<T.size
 .simp[a]
 .simp[a]
def kI[aB](T:Ff)(h:T.size=180):∃x:Nat->vZ,T=⟨x 0::x 1::x 2::x 3::x 4::x 5::x 6::x 7::x 8::x 9::x 10::x 11::x 12::x 13::x 14::x 15::x 16::x 17::x 18::x 19::x 20::x 21::x 22::x 23::x 24::x 25::x 26::x 27::x 28::x 29::x 30::x 31::x 32::x 33::x 34::x 35::x 36::x 37::x 38::x 39::x 40::x 41::x 42::x 43::x 44::x 45::x 46::x 47::x 48::x 49::x 50::x 51::x 52::x 53::x 54::x 55::x 56::x 57::x 58::x 59::x 60::x 61::x 62::x 63::x 64::x 65::x 66::x 67::x 68::x 69::x 70::x 71::x 72::x 73::x 74::x 75::x 76::x 77::x 78::x 79::x 80::x 81::x 82::x 83::x 84::x 85::x 86::x 87::x 88::x 89::x 90::x 91::x 92::x 93::x 94::x 95::x 96::x 97::x 98::x 99::x 100::x 101::x 102::x 103::x 104::x 105::x 106::x 107::x 108::x 109::x 110::x 111::x 112::x 113::x 114::x 115::x 116::x 117::x 118::x 119::x 120::x 121::x 122::x 123::x 124::x 125::x 126::x 127::x 128::x 129::x 130::x 131::x 132::x 133::x 134::x 135::x 136::x 137::x 138::x 139::x 140::x 141::x 142::x 143::x 144::x 145::x 146::x 147::x 148::x 149::x 150::x 151::x 152::x 153::x 154::x 155::x 156::x 157::x 158::x 159::x 160::x 161::x 162::x 163::x 164::x 165::x 166::x 167::x 168::x 169::x 170::x 171::x 172::x 173::x 174::x 175::x 176::x 177::x 178::x 179::[]⟩:=
 ⟨fun i=>T.getD i uf,lh T 180 h⟩
structure F6 (T:Ff)(bo pw:Nat):Prop where
 sz:T.size=180
 t3:T[3]?=some (pq bo 0)
 t5:T[5]?=some (.bool true)
 t6:T[6]?=some (pq pw 0)
structure G6 (T:Ff)(bo rb:Nat)(vw vn:SV)(ev:vZ):Prop where
 sz:T.size=180
 t3:T[3]?=some (pq bo 0)
 t8:T[8]?=some (.slice vw.a vw.n vw.c)
 t9:T[9]?=some (pq rb 0)
 t10:T[10]?=some ev
 t11:T[11]?=some (.slice vn.a vn.n vn.c)
variable [aB]
attribute [local go_sem] wd
def Pt(W:WR)(l m d:Nat)(A:AM)(g h:Addr)(c:Nat)(o:Od)(cB:Bool)(k id:Int)(lv:SV)(s:Lp)(f:vZ)(w:WR):Prop:=
 ∃(a:Int) (b:AM) (e:Nat),RP w l m d a b g h e/\e<=c+1000200/\Px TT W w/\
  ((∃y:vZ,f=.iface 90 y/\b=A)\/(f=.nilIface/\Ok A o/\(o.at:Int)<=2*k/\k<=o.bP/\(cB=true\/cB=false/\k=o.bP/\id=0/\lv.n=0/\s=⟨#[]⟩/\yd A o b)))
def Qm{d:Nat}{A:AM}{H J:Addr}(h:RP W l m d cr A H J c)(F:aB.b1<=W.heap.size)(T:c<10000000)(b:W.heap[pw]?=ob #[pq l 0] 87)(o:Od)(S:o.val<M):
  Cq 15 #[pq pw 0,.agg o.cs] W fun e a=>∃cB k id lv s x,e=.returned (.tuple #[.agg (fM cB k id lv s),x])/\Pt W l m d A H J c o cB k id lv s x a:=by
 obtain⟨G,t,nonce,val,L,P,data,R⟩:=o;refine ye (l:=l) ((aJ b 0).trans rfl) (aG b) (fun w i=>?_) h.ge.low fun cB k id lv s x w a K g D=>?_
 .have C:=i.size;refine(Qg (h.below i) (aAw F C) T ⟨G,t,nonce,val,L,P,data,R⟩ S).mono ?_;have n:∀a,Px TT w a->Kp W.heap.size w a/\a.cell? ⟨pw,0,none⟩=W.cell? ⟨pw,0,none⟩:=fun a g=>?_
  .rintro e a (⟨y,_,rfl,j⟩| ⟨r,lv,rfl,E,p,Q⟩)
   .have g:Px TT w a:=Px.aF j _;exact⟨_,_,_,_,_,_,rfl,⟨cr,A,c,(h.below i).below j,oM,(Px.aF i _).trans g,.inl ⟨_,rfl,rfl⟩⟩,n a g⟩
   .obtain⟨f,B,v,z,u,h3⟩:=p.ex;refine⟨_,_,_,_,_,_,rfl,⟨f,B,v,z,u,(Px.aF i _).trans p.px,.inr ⟨rfl,E,p.bP.1,p.bP.2,h3.imp id fun⟨I,U,N,q4,O⟩=>⟨I,U,N,Q I,q4,O⟩⟩⟩,n a p.px⟩
  .have q:=bk i b;exact⟨Kp.px g dC dC,by rw[aJ (g.row q dC) 0,aJ b 0]⟩
 .obtain⟨f,B,v,z,u,h3,h4⟩:=K;exact⟨f,B,v,z.px g dC dC,u,h3.HI D,h4⟩
def Oe(j:F6 T bo pw)(W:WR){S:SV->K6}{R:SV->Bool->Int->Int->SV->Lp->vZ->K6}{Q:SV->Bool->Int->Int->SV->Lp->vZ->Nat->SV->K6}(d:Cq 17 #[pq pw 0] W fun e g=>∃v:SV,e=.rt (.sl v.a v.n v.c)/\S v g)(c:∀v w,S v w->w.heap[bo]?=ob o.cs 43/\Cq 15 #[pq pw 0,.agg o.cs] w fun e g=>∃cB k id lv s f,e=.rt (.tuple #[.agg (fM cB k id lv s),f])/\R v cB k id lv s f g)(n:∀v cB k id lv s f w,R v cB k id lv s f w->Cq 17 #[pq pw 0] (w.alloc (.ce (fM cB k id lv s) 34)) fun e g=>∃vn:SV,e=.rt (.sl vn.a vn.n vn.c)/\Q v cB k id lv s f w.heap.size vn g)(t:Fi)(m:∀u v cB k id lv s f rb vn g,G6 u bo rb v vn f->Q v cB k id lv s f rb vn g->t ⟨u,[]⟩ g):
  (eR 0).wp zQ.prog (fun e a w=>e=.normal/\(eR 1).wp zQ.prog (fun e a w=>e=.normal/\(eR 2).wp zQ.prog (fun e a w=>e=.normal/\(eR 3).wp zQ.prog (fun e a w=>e=.normal/\(eR 4).wp zQ.prog (fun e a w=>e=.normal/\t a w) a w) a w) a w) a w) ⟨T,[]⟩ W:=by
 have h:=US m;have i:=US c;have p:=US n;clear m c n;obtain⟨x,rfl⟩:=kI T j.sz;rw[show x 3=_ from aAv j.t3,show x 5=_ from aAv j.t5,show x 6=_ from aAv j.t6];clear j;dsimp only[eR,uM,nL,nM,uW,f6,gdS]
 (go_wp2_with fail)
 apply d.mono;rintro e w1 ⟨v,rfl,y⟩;clear d;have⟨b,c⟩:=i.out v w1 y;clear i y;have q:=aG b;have C:=bq b 0;have D:=bq b 1;have c2:=bq b 2;have c3:=bq b 3;have c4:=bq b 4;have E:=bq b 5;have G:=bq b 6;have B:=bq b 7;have c8:=bq b 8;have A:=bq b 9;have F:=bq b 10;unfold Od.cs at c
 (go_wp2_with fail)
 apply c.mono;rintro e w2 ⟨cB,k,id,lv,s,f,rfl,z⟩;clear c C D c2 c3 c4 E G B c8 A F b q;have d:=p.out v cB k id lv s f w2 z;clear p z;unfold fM
 (go_wp2_with fail)
 change Calls _ _ _ (w2.alloc (.ce (fM cB k id lv s) 34)) _;apply d.mono;rintro e w3 ⟨vn,rfl,r⟩;clear d;have l:=US r;clear r;generalize w2.heap.size=rb at l⊢
 (go_wp2_with fail)
 exact h.out _ v cB k id lv s f rb vn w3 ⟨rfl,rfl,rfl,rfl,rfl,rfl⟩ l.out
def lk(y:vZ)(V:WR):(binOp BinOp.eql 36 (.iface 90 y) .nilIface).run zQ.prog V=.ok (.bool false) V:=kR
def Jj{id:Int}(d:G6 T bo rb vw vn .nilIface)(W:WR)(i:W.heap[bo]?=ob o.cs 43)(l:W.heap[rb]?=ob (fM cB k id lv s) 34)(q:o.data.size<=2000)(v:o.bP<=1000000)(y:(o.at:Int)<=2*k)(u:k<=o.bP)(n:Fi)(g:∀p m,G6 p bo rb vw vn .nilIface->Bw W m->n ⟨p,[]⟩ m):
   (eR 5).wp zQ.prog (fun e a w=>e=.normal/\n a w) ⟨T,[]⟩ W:=by
 have f:=US g;clear g;obtain⟨x,rfl⟩:=kI T d.sz;rw[show x 3=_ from aAv d.t3,show x 8=_ from aAv d.t8,show x 9=_ from aAv d.t9,show x 10=_ from aAv d.t10,show x 11=_ from aAv d.t11];clear d;have z:iw (2*k)=2*k:=iW;have j1:¬2*k<(o.at:Int):=oM
 have j2:¬o.bP<k:=oM
 dsimp only[eR,uM,nL,nM,uW,f6,gdS]
 (go_wp2_with fail)
 refine rq (fun V=>V.heap[bo]?=ob o.cs 43/\V.heap[rb]?=ob (fM cB k id lv s) 34) ⟨i,l⟩ fun b=>?_;refine t4 0 1 2 3 b ?_;refine tV 4 (fun _ c=>bq (c.2) 1) b ?_;refine t1 5 b ?_;refine tV 6 (fun _ c=>Re (c.1)) b ?_;refine rA 7 fun K t=>?_;go_simp;apply(ky o q _).mono;rintro e r ⟨rfl,h⟩;go_wp2_with fail;refine t.out _ _ ⟨bk h b.1,bk h b.2⟩ fun b=>?_;refine tD 8 47 (.bool false) (fun V c=>?_) b ?_
 .clear c b;go_simp
 refine t2 9 10 b ?_;refine tV 11 (fun _ c=>bq (c.2) 1) b ?_;refine t1 12 b ?_;refine tV 13 (fun _ c=>bq (c.1) 7) b ?_;refine tD 14 53 (.bool false) (fun V c=>?_) b ?_
 .clear c b;go_simp
 refine t2 15 16 b ?_;refine dn ?_;have j:Bw W r:=bR.drew.tr h
 (go_wp2_with fail)
 exact f.out _ _ ⟨rfl,rfl,rfl,rfl,rfl,rfl⟩ j
def Jk{id:Int}(c:G6 T bo rb vw vn (.iface 90 y))(W:WR)(g:W.heap[bo]?=ob o.cs 43)(i:W.heap[rb]?=ob (fM cB k id lv s) 34)(l:Fi)(f:∀m j,G6 m bo rb vw vn (.iface 90 y)->Bw W j->l ⟨m,[]⟩ j):
   (eR 5).wp zQ.prog (fun e a w=>e=.normal/\l a w) ⟨T,[]⟩ W:=by
 have d:=US f;clear f;obtain⟨x,rfl⟩:=kI T c.sz;rw[show x 3=_ from aAv c.t3,show x 8=_ from aAv c.t8,show x 9=_ from aAv c.t9,show x 10=_ from aAv c.t10,show x 11=_ from aAv c.t11];clear c;dsimp only[eR,uM,nL,nM,uW,f6,gdS]
 (go_wp2_with fail)
 refine rq (fun V=>V.heap[bo]?=ob o.cs 43/\V.heap[rb]?=ob (fM cB k id lv s) 34) ⟨g,i⟩ fun b=>?_;refine t1 0 b ?_;refine tD 1 40 (.bool false) (fun V n=>?_) b ?_
 .clear n b;have q:=lk;go_simp
 refine t1 2 b ?_;refine tu (i:=3) (d:=some 42) rfl rfl b ?_;refine tu (i:=4) (d:=some 43) rfl rfl b ?_;refine tu (i:=5) (d:=some 44) rfl rfl b ?_;refine tu (i:=6) (d:=some 45) rfl rfl b ?_;refine tu (i:=7) (d:=some 46) rfl rfl b ?_;refine tu (i:=8) (d:=some 47) rfl rfl b ?_;refine tu (i:=9) (d:=some 48) rfl rfl b ?_;refine tu (i:=10) (d:=some 49) rfl rfl b ?_;refine tu (i:=11) (d:=some 50) rfl rfl b ?_;refine tu (i:=12) (d:=some 51) rfl rfl b ?_;refine tu (i:=13) (d:=some 52) rfl rfl b ?_;refine tu (i:=14) (d:=some 53) rfl rfl b ?_;refine tu (i:=15) (d:=some 54) rfl rfl b ?_;refine t1 16 b ?_;refine dn ?_;have h:Bw W W.drew:=bR.drew
 (go_wp2_with fail)
 exact d.out _ _ ⟨rfl,rfl,rfl,rfl,rfl,rfl⟩ h
end
section
noncomputable def SP:Code:=match eR 7 with
 |.seq _ (.cond _ c _)=>c
 |_=>.skip
noncomputable def xF(k:Nat):Code:=uM (nL k SP)
noncomputable def vp:Code:=uM (eR 6)
structure H6 (T:Ff)(bo n:Nat)(vw vn:SV):Prop where
 sz:T.size=180
 t3:T[3]?=some (pq bo 0)
 t8:T[8]?=some (.slice vw.a vw.n vw.c)
 t11:T[11]?=some (.slice vn.a vn.n vn.c)
 t12:T[12]?=some (.int .i64 (n:Int))
structure I6 (T:Ff)(bo:Nat)(k:Int)(vw vn:SV):Prop where
 sz:T.size=180
 t3:T[3]?=some (pq bo 0)
 t8:T[8]?=some (.slice vw.a vw.n vw.c)
 t11:T[11]?=some (.slice vn.a vn.n vn.c)
 t13:T[13]?=some (.int .i64 k)
structure E6 (T:Ff)(vw vn:SV):Prop where
 sz:T.size=180
 t8:T[8]?=some (.slice vw.a vw.n vw.c)
 t11:T[11]?=some (.slice vn.a vn.n vn.c)
variable [aB]
attribute [local go_sem] wd
def Jl{id:Int}(b:G6 T bo rb vw vn .nilIface)(W:WR)(f:W.heap[rb]?=ob (fM cB k id lv s) 34)(h:Fi)(d:∀g,G6 g bo rb vw vn .nilIface->g[61]?=some (.bool cB)->h ⟨g,[]⟩ W):
  vp.wp zQ.prog (fun e a w=>e=.normal/\h a w) ⟨T,[]⟩ W:=by
 have c:=US d;clear d;obtain⟨x,rfl⟩:=kI T b.sz;rw[show x 3=_ from aAv b.t3,show x 8=_ from aAv b.t8,show x 9=_ from aAv b.t9,show x 10=_ from aAv b.t10,show x 11=_ from aAv b.t11];clear b;have i:=aG f;have j:=bq f 0;dsimp only[vp,eR,uM,nL,nM,uW,f6,gdS]
 (go_wp2_with fail)
 exact c.out _ ⟨rfl,rfl,rfl,rfl,rfl,rfl⟩ rfl
def Jm(b:G6 T bo rb vw vn (.iface 90 y))(W:WR)(g:Fi)(d:∀f,G6 f bo rb vw vn (.iface 90 y)->f[61]?=some (.bool false)->g ⟨f,[]⟩ W):
  vp.wp zQ.prog (fun e a w=>e=.normal/\g a w) ⟨T,[]⟩ W:=by
 have c:=US d;clear d;obtain⟨x,rfl⟩:=kI T b.sz;rw[show x 3=_ from aAv b.t3,show x 8=_ from aAv b.t8,show x 9=_ from aAv b.t9,show x 10=_ from aAv b.t10,show x 11=_ from aAv b.t11];clear b;have h:=lk;dsimp only[vp,eR,uM,nL,nM,uW,f6,gdS]
 (go_wp2_with fail)
 exact c.out _ ⟨rfl,rfl,rfl,rfl,rfl,rfl⟩ rfl
def Jn(d:G6 T bo rb vw vn (.iface 90 y))(W:WR)(f:Fi)(c:∀g,E6 g vw vn->f ⟨g,[]⟩ W):
  (eR 7).wp zQ.prog (fun e a w=>e=.normal/\f a w) ⟨T,[]⟩ W:=by
 have b:=US c;clear c;obtain⟨x,rfl⟩:=kI T d.sz;rw[show x 8=_ from aAv d.t8,show x 10=_ from aAv d.t10,show x 11=_ from aAv d.t11];clear d;have h:=lk;dsimp only[eR,uM,nL,nM,uW,f6,gdS]
 (go_wp2_with fail)
 exact b.out _ ⟨rfl,rfl,rfl⟩
def Jo(d:G6 T bo rb vw vn .nilIface)(W:WR)(c:W.heap[bo]?=ob o.cs 43)(b:W.heap[rb]?=ob (fM false o.bP 0 lv ⟨#[]⟩) 34)(h:lv.n=0){S:Nat->Prop}(j:Cq 19 #[.sl vw.a vw.n vw.c,vI o.src] W fun e m=>∃n:Nat,e=.rt (vI (n:Int))/\S n/\m=W)(i:Fi)(g:∀k n,H6 k bo n vw vn->S n->i ⟨k,[]⟩ W):
  (xF 0).wp zQ.prog (fun e a w=>e=.normal/\(xF 1).wp zQ.prog (fun e a w=>e=.normal/\i a w) a w) ⟨T,[]⟩ W:=by
 have f:=US g;clear g;obtain⟨x,rfl⟩:=kI T d.sz;rw[show x 3=_ from aAv d.t3,show x 8=_ from aAv d.t8,show x 9=_ from aAv d.t9,show x 10=_ from aAv d.t10,show x 11=_ from aAv d.t11];clear d;have u:=aG c;have p:=aG b;have t:=bq c 0;have s:=bq c 7;have r1:=bq b 1;have r2:=bq b 2;have l:=bq b 3;have r:=bq b 4;rw[h] at l;dsimp only[xF,SP,eR,uM,nL,nM,uW,f6,gdS]
 (go_wp2_with fail)
 apply j.mono;rintro e w1 ⟨n,rfl,q,rfl⟩;clear j;have v:¬(n:Int)<0:=oM
 (go_wp2_with fail)
 exact f.out _ n ⟨rfl,rfl,rfl,rfl,rfl⟩ q
def Jp{d:Int}(b:H6 T bo n ⟨some ⟨g,0,none⟩,N,c⟩ vn)(W:WR)(l:n<N)(q:W.cA g (n*8+5)=some (vI d))(m:W.frozen? ⟨g,n*8+5,none⟩=false)(o:0<=d/\d<9223372036854775807)(i:Fi)(h:∀j,H6 j bo n ⟨some ⟨g,0,none⟩,N,c⟩ vn->i ⟨j,[]⟩ (W.setCell ⟨g,n*8+5,none⟩ (vI (d+1)))):
  (xF 2).wp zQ.prog (fun e a w=>e=.normal/\i a w) ⟨T,[]⟩ W:=by
 have f:=US h;clear h;obtain⟨x,rfl⟩:=kI T b.sz;rw[show x 3=_ from aAv b.t3,show x 8=_ from aAv b.t8,show x 11=_ from aAv b.t11,show x 12=_ from aAv b.t12];clear b;have p:iw (d+1)=d+1:=iW;have k:(n:Int)<(N:Int):=oM
 dsimp only[xF,SP,eR,uM,nL,nM,uW,f6,gdS]
 (go_wp2_with fail)
 exact f.out _ ⟨rfl,rfl,rfl,rfl,rfl⟩
def Jq{y:Nat}(s:H6 T bo n ⟨some ⟨g,0,none⟩,N,c⟩ vn)(W:WR)(O:n<N)(D:W.heap[bo]?=ob o.cs 43)(B:W.heap[g]?=ob cur 52)(m:∀j,j<4->cur[n*8+(1+j)]?=some (vL y j))(u:∀V,Cq 21 #[vI o.bP] V fun e p=>e=.rt (wd gn)/\Bw V p)(v:∀V,Cq 21 #[vI o.bK] V fun e p=>e=.rt (wd pn)/\Bw V p)(F:∀V,Cq 20 #[vB 3,wd gn,wd pn] V fun e p=>e=.rt (wd z)/\Bw V p)(E:∀V,Cq 20 #[vB 2,wd y,wd z] V fun e p=>e=.rt (wd q)/\Bw V p)(H:Fi)(A:∀I w1,H6 I bo n ⟨some ⟨g,0,none⟩,N,c⟩ vn->Bw W w1->H ⟨I,[]⟩ (w1.setCells g (n*8+1) [vL q 0,vL q 1,vL q 2,vL q 3])):
   (xF 3).wp zQ.prog (fun e a w=>e=.normal/\H a w) ⟨T,[]⟩ W:=by
 have t:=US A;clear A;obtain⟨x,rfl⟩:=kI T s.sz;rw[show x 3=_ from aAv s.t3,show x 8=_ from aAv s.t8,show x 11=_ from aAv s.t11,show x 12=_ from aAv s.t12];clear s;have L:(n:Int)<(N:Int):=oM
 dsimp only[xF,SP,eR,uM,nL,nM,uW,f6,gdS]
 (go_wp2_with fail)
 refine sk (S:=fun V=>V.heap[bo]?=ob o.cs 43/\V.heap[g]?=ob cur 52) 17 kR ⟨D,B⟩ fun b=>?_;refine tF 0 b ?_;refine tF 1 b ?_;refine tF 2 b ?_;refine tF 3 b ?_;refine tF 4 b ?_;refine tF 5 b ?_;refine tE 6 107 (.agg (wq y)) (fun V i=>?_) b ?_
 .have G:=(aJ (i.2) (n*8+1)).tr (m 0 dC);have k1:=(aJ (i.2) (n*8+2)).tr (m 1 dC);have k2:=(aJ (i.2) (n*8+3)).tr (m 2 dC);have S:=(aJ (i.2) (n*8+4)).tr (m 3 dC);clear i b;go_simp
 refine tF 7 b ?_;refine tE 8 109 (vI o.bP) (fun V i=>?_) b ?_
 .have G:=bq (i.1) 7;clear i b;go_simp
 refine tF 10 b ?_;refine tE 11 112 (vI o.bK) (fun V i=>?_) b ?_
 .have G:=bq (i.1) 8;clear i b;go_simp
 refine rB 9 fun K f=>?_;go_simp;apply(u _).mono;rintro e U ⟨rfl,h⟩;go_wp2_with fail;refine f.out _ _ ⟨bk h b.1,bk h b.2⟩ fun b=>?_;refine rB 12 fun K f=>?_;go_simp;apply(v _).mono;rintro e X ⟨rfl,k⟩;go_wp2_with fail;refine f.out _ _ ⟨bk k b.1,bk k b.2⟩ fun b=>?_;refine rB 13 fun K f=>?_;go_simp;apply(F _).mono;rintro e P ⟨rfl,l⟩;go_wp2_with fail;refine f.out _ _ ⟨bk l b.1,bk l b.2⟩ fun b=>?_;refine rB 14 fun K f=>?_;go_simp;apply(E _).mono;rintro e M ⟨rfl,r⟩;go_wp2_with fail;refine f.out _ _ ⟨bk r b.1,bk r b.2⟩ fun b=>?_;refine rB 15 fun K f=>?_;go_simp;refine f.out _ _ b fun b=>?_;refine rB 16 fun K f=>?_;go_simp;refine f.out _ _ b fun b=>?_;have d:=b.2;have Q:=(aJ d (n*8+1)).tr (m 0 dC);have z0:=aQ d (n*8+1);have e1:=(aJ d (n*8+2)).tr (m 1 dC);have Y:=aQ d (n*8+2);have Z:=(aJ d (n*8+3)).tr (m 2 dC);have R:=aQ d (n*8+3);have e3:=(aJ d (n*8+4)).tr (m 3 dC);have z3:=aQ d (n*8+4);have J:=aG d;refine rC fun K f=>?_;go_simp;refine f.out _ _ ?_;refine dk kR ?_ _;have C:=(((h.tr (k.mono h.size)).tr (l.mono (aAw h.size k.size))).tr (r.mono (aAw h.size (aAw k.size l.size))))
 (go_wp2_with fail)
 exact t.out _ M ⟨rfl,rfl,rfl,rfl,rfl⟩ (bR.drew.tr C)
def Jr{y:Nat}(s:I6 T bo (n:Int) ⟨some ⟨g,0,none⟩,N,c⟩ vn)(W:WR)(O:n<N)(D:W.heap[bo]?=ob o.cs 43)(B:W.heap[g]?=ob cur 52)(m:∀j,j<4->cur[n*8+(1+j)]?=some (vL y j))(u:∀V,Cq 21 #[vI o.bP] V fun e p=>e=.rt (wd gn)/\Bw V p)(v:∀V,Cq 21 #[vI o.bK] V fun e p=>e=.rt (wd pn)/\Bw V p)(F:∀V,Cq 20 #[vB 3,wd gn,wd pn] V fun e p=>e=.rt (wd z)/\Bw V p)(E:∀V,Cq 20 #[vB 1,wd y,wd z] V fun e p=>e=.rt (wd q)/\Bw V p)(H:Fi)(A:∀I w1,E6 I ⟨some ⟨g,0,none⟩,N,c⟩ vn->Bw W w1->H ⟨I,[]⟩ (w1.setCells g (n*8+1) [vL q 0,vL q 1,vL q 2,vL q 3])):
   (nL 6 SP).wp zQ.prog (fun e a w=>e=.normal/\H a w) ⟨T,[]⟩ W:=by
 have t:=US A;clear A;obtain⟨x,rfl⟩:=kI T s.sz;rw[show x 3=_ from aAv s.t3,show x 8=_ from aAv s.t8,show x 11=_ from aAv s.t11,show x 13=_ from aAv s.t13];clear s;have L:(n:Int)<(N:Int):=oM
 dsimp only[xF,SP,eR,uM,nL,nM,uW,f6,gdS]
 (go_wp2_with fail)
 refine sk (S:=fun V=>V.heap[bo]?=ob o.cs 43/\V.heap[g]?=ob cur 52) 17 kR ⟨D,B⟩ fun b=>?_;refine tF 0 b ?_;refine tF 1 b ?_;refine tF 2 b ?_;refine tF 3 b ?_;refine tF 4 b ?_;refine tF 5 b ?_;refine tE 6 138 (.agg (wq y)) (fun V i=>?_) b ?_
 .have G:=(aJ (i.2) (n*8+1)).tr (m 0 dC);have k1:=(aJ (i.2) (n*8+2)).tr (m 1 dC);have k2:=(aJ (i.2) (n*8+3)).tr (m 2 dC);have S:=(aJ (i.2) (n*8+4)).tr (m 3 dC);clear i b;go_simp
 refine tF 7 b ?_;refine tE 8 140 (vI o.bP) (fun V i=>?_) b ?_
 .have G:=bq (i.1) 7;clear i b;go_simp
 refine tF 10 b ?_;refine tE 11 143 (vI o.bK) (fun V i=>?_) b ?_
 .have G:=bq (i.1) 8;clear i b;go_simp
 refine rB 9 fun K f=>?_;go_simp;apply(u _).mono;rintro e U ⟨rfl,h⟩;go_wp2_with fail;refine f.out _ _ ⟨bk h b.1,bk h b.2⟩ fun b=>?_;refine rB 12 fun K f=>?_;go_simp;apply(v _).mono;rintro e X ⟨rfl,k⟩;go_wp2_with fail;refine f.out _ _ ⟨bk k b.1,bk k b.2⟩ fun b=>?_;refine rB 13 fun K f=>?_;go_simp;apply(F _).mono;rintro e P ⟨rfl,l⟩;go_wp2_with fail;refine f.out _ _ ⟨bk l b.1,bk l b.2⟩ fun b=>?_;refine rB 14 fun K f=>?_;go_simp;apply(E _).mono;rintro e M ⟨rfl,r⟩;go_wp2_with fail;refine f.out _ _ ⟨bk r b.1,bk r b.2⟩ fun b=>?_;refine rB 15 fun K f=>?_;go_simp;refine f.out _ _ b fun b=>?_;refine rB 16 fun K f=>?_;go_simp;refine f.out _ _ b fun b=>?_;have d:=b.2;have Q:=(aJ d (n*8+1)).tr (m 0 dC);have z0:=aQ d (n*8+1);have e1:=(aJ d (n*8+2)).tr (m 1 dC);have Y:=aQ d (n*8+2);have Z:=(aJ d (n*8+3)).tr (m 2 dC);have R:=aQ d (n*8+3);have e3:=(aJ d (n*8+4)).tr (m 3 dC);have z3:=aQ d (n*8+4);have J:=aG d;refine rC fun K f=>?_;go_simp;refine f.out _ _ ?_;refine dk kR ?_ _;have C:=(((h.tr (k.mono h.size)).tr (l.mono (aAw h.size k.size))).tr (r.mono (aAw h.size (aAw k.size l.size))))
 (go_wp2_with fail)
 exact t.out _ M ⟨rfl,rfl,rfl⟩ (bR.drew.tr C)
def Js(b:H6 T bo n vw vn)(W:WR)(d:W.heap[bo]?=ob o.cs 43){S:K7}(h:Cq 19 #[.sl vw.a vw.n vw.c,vI o.aS] W fun e j=>∃k:Int,e=.rt (vI k)/\S k/\j=W)(g:Fi)(f:∀i k,I6 i bo k vw vn->S k->g ⟨i,[]⟩ W):
  (xF 4).wp zQ.prog (fun e a w=>e=.normal/\g a w) ⟨T,[]⟩ W:=by
 have c:=US f;clear f;obtain⟨x,rfl⟩:=kI T b.sz;rw[show x 3=_ from aAv b.t3,show x 8=_ from aAv b.t8,show x 11=_ from aAv b.t11,show x 12=_ from aAv b.t12];clear b;have m:=aG d;have p:=bq d 10;dsimp only[xF,SP,eR,uM,nL,nM,uW,f6,gdS]
 (go_wp2_with fail)
 apply h.mono;rintro e w1 ⟨k,rfl,l,rfl⟩;clear h
 (go_wp2_with fail)
 exact c.out _ k ⟨rfl,rfl,rfl,rfl,rfl⟩ l
def Eh(b:I6 T bo (n:Int) vw vn)(W:WR)(f:Fi)(d:∀g,I6 g bo (n:Int) vw vn->f ⟨g,[]⟩ W):
  (xF 5).wp zQ.prog (fun e a w=>e=.normal/\f a w) ⟨T,[]⟩ W:=by
 have c:=US d;clear d;obtain⟨x,rfl⟩:=kI T b.sz;rw[show x 3=_ from aAv b.t3,show x 8=_ from aAv b.t8,show x 11=_ from aAv b.t11,show x 13=_ from aAv b.t13];clear b;have h:¬(n:Int)<0:=oM
 dsimp only[xF,SP,eR,uM,nL,nM,uW,f6,gdS]
 (go_wp2_with fail)
 exact c.out _ ⟨rfl,rfl,rfl,rfl,rfl⟩
def Ei(A:I6 T bo (-1) ⟨some ⟨g,0,none⟩,N,c⟩ vn)(W:WR)(G:W.heap[bo]?=ob o.cs 43)(C:dD B W ⟨some ⟨g,0,none⟩,N,c⟩ os)(hB:B<=W.heap.size)(hN:N<200000000)(Φ:Fi)(I:∀T' s c2 w1,I6 T' bo (N:Int) ⟨some ⟨s,0,none⟩,N+1,c2⟩ vn->dD B w1 ⟨some ⟨s,0,none⟩,N+1,c2⟩ (os++[(PG o.aS,⟨none,0,0⟩)])->Below B W w1->(∀k,k<W.heap.size->(SV.mk (some ⟨g,0,none⟩) N c).blk≠some k->w1.heap[k]?=W.heap[k]?)->((SV.mk (some ⟨g,0,none⟩) N c).blk=some s\/W.heap.size<=s)->Φ ⟨T',[]⟩ w1):
  (xF 5).wp zQ.prog (fun e a w=>e=.normal/\Φ a w) ⟨T,[]⟩ W:=by
 have E:=US I;clear I;obtain⟨S,Z,K,F,D,J,y⟩:=ZZ;obtain⟨x,rfl⟩:=kI T A.sz;rw[show x 3=_ from aAv A.t3,show x 8=_ from aAv A.t8,show x 11=_ from aAv A.t11,show x 13=_ from aAv A.t13];clear A;have hl:=aG G;have XU:=bq G 10;have m:N=os.length:=(zJ (y:=⟨some ⟨g,0,none⟩,N,c⟩) C.own).1;have z:aV (PG o.aS) ⟨none,0,0⟩=[vI o.aS,vU 0,vU 0,vU 0,vU 0,vI 0,.string ⟨#[]⟩,.sl none 0 0]:=by simp[aV,PG,UT]
 have n:Bw W (W.nc (aV (PG o.aS) ⟨none,0,0⟩).toArray 52):=ba;have q:=C.below n;have t:=fW W (aV (PG o.aS) ⟨none,0,0⟩) 52;have b:=q.own;rw[<-m] at b;have a1:=iJ C.own;rw[z] at n q t b;have O:=US m;clear m;dsimp only[xF,SP,eR,uM,nL,nM,uW,f6,gdS];go_wp2_with (at_builtin;go_loud (refine wpList_append_lies _ rI _ _ 22 rI B 52 S Z 8 88 ((aC 22).tr underlying22) K F D J y oM (.sl (some (ad g 0)) N c) N (eJ os) rI b ⟨W.heap.size,0,none⟩ 1 1 [vI o.aS,vU 0,vU 0,vU 0,vU 0,vI 0,.string ⟨#[]⟩,.sl none 0 0] rI rfl (fun j v hj=>by rw[Addr.add_mid];exact t j v hj) (fun u hu=>by rw[<-z] at hu;exact FH _ _ u hu) oM (by simp[maxLen];omega) oM sQ0 (W.heap.size+1) sI ?_))
 intro s n2 P f d l L;have m:=O.out;rw[<-z] at f;have Y:Below B W P:=(n.mono hB).tr (nY d (nX b) sQ0);have a0:∀k,k<W.heap.size->(SV.mk (some (ad g 0)) N c).blk≠some k->P.heap[k]?=W.heap[k]?:=fun k hk U=>(d.block k sQ0 (fun e=>U e.symm)).tr (n.block k hk);have V:dD B P ⟨some ⟨s,0,none⟩,N+1,n2⟩ (os++[(PG o.aS,⟨none,0,0⟩)]):=by
  refine⟨?_,fun p i=>?_,fun p i Q M R=>?_,?_⟩
  .have X:(os++[(PG o.aS,(⟨none,0,0⟩:SV))]).length=N+1:=by simp[m]
   rw[X,mU,eJ,eJ,aCb];exact f
  .rcases aAL.1 i with i|i
   .exact iK (q.sl p i) d (q.HI p i)
   .rw[aAB.1 i];exact⟨by simp[PG,eW],.inl ⟨rfl,rfl⟩⟩
  .have e':s=Q:=aAv R;rcases aAL.1 i with i|i
   .rcases l with l|l
    .exact C.HI p i Q M (by rw[<-e'];exact l)
    .have:=iJ (C.sl p i) Q M;omega
   .rw[aAB.1 i] at M;cases M
  .refine List.pairwise_append.2 ⟨C.apart,List.pairwise_singleton _ _,fun p i r hr Q M R=>?_⟩;rw[aAB.1 hr] at R;cases R
 have H:(SV.mk (some (ad g 0)) N c).blk=some s\/W.heap.size<=s:=l.imp id fun h=>oM;clear f d l L b t n q XU m;go_wp2_with fail;exact E.out _ s n2 P ⟨rfl,rfl,rfl,rfl,rfl⟩ V Y a0 H
end
end
section
open Go.Lift
variable [aB]
attribute [local go_sem] wd
def Rl.below{v:SV}(h:Rl W v os)(a:Bw W W'):Rl W' v os:=
 ⟨h.n,h.at'.imp id fun⟨g,d,c,h3⟩=>⟨g,d,aAy c a.size,fun i p b=>(h3 i p b).below a⟩⟩
def Dd.below{s:SV}{a:List (Nat×Nat)}(h:Dd W s a)(b:Bw W W'):Dd W' s a:=
 ⟨h.1,h.2.imp id fun⟨g,d,c,h3⟩=>⟨g,d,aAy c b.size,h3.below b⟩⟩
def Jt{c b:List (bF×SV)}(O:E6 T vw vn)(W:WR)(hw:Rl W vw c)(hn:Rl W vn b)(hp:(c.map (·.1)).Perm (b.map (·.1)))(hu:Up (fun d:bF=>d.id) (b.map (·.1)))(hb:Tb (b.map (·.1)))(a1:∀p∈c,Dd W p.2 p.1.bE)(U:∀p∈b,Dd W p.2 p.1.bE)(Y:∀p∈b,p.1.bE.length<200000000)(E:b.length<200000000)(Φ:Fi)(L:∀T' Q,T'[4]?=some (.bool true)->Bw W Q->Φ ⟨T',[]⟩ Q):
   (eR 8).wp zQ.prog (fun e a w=>e=.normal/\(eR 9).wp zQ.prog (fun e a w=>e=.normal/\(eR 10).wp zQ.prog (fun e a w=>e=.normal/\Φ a w) a w) a w) ⟨T,[]⟩ W:=by
 have I:=US L;clear L;have y:c.length=b.length:=by have:=hp.length_eq;simpa using this
 have a3:=US y;obtain⟨wa,wn,cw⟩:=vw;obtain⟨na,nn,cn⟩:=vn;obtain⟨n1,N⟩:=hw;have Z:=US hn;obtain⟨n2,H⟩:=hn;simp only at n1 n2 N H;subst n1 n2;have S:(c.length:Int)=(b.length:Int):=oM
 obtain⟨x,rfl⟩:=kI T O.sz;rw[show x 8=_ from aAv O.t8,show x 11=_ from aAv O.t11];clear O;dsimp only[eR,uM,nL,nM,uW,f6,gdS]
 (go_wp2_with fail)
 clear S;go_loopw [14] (fun j V=>∃i:Nat,j=vI (i:Int)/\i<=c.length/\Bw W V) (fun j _=>c.length - (Go.RowKit.intOf j).toNat)
 case atStart=>exact⟨0,rfl,aBa _,Below.refl _ _⟩
 case round=>
  obtain⟨i,rfl,hi,g⟩:=hrel;by_cases q:i<c.length
  · have M:(i:Int)<(c.length:Int):=oM
    obtain⟨p,t⟩:∃p,c[i]?=some p:=⟨_,aAG q⟩;obtain⟨gw,rfl,R,D⟩:=N.resolve_left (by intro e;rw[e] at q;simp at q);obtain⟨gn,rfl,a5,C⟩:=H.resolve_left (by intro e;rw[e] at y;simp only[aBN] at y;omega);have P:=(D i p t).below g;rw[aAM] at P;have c0:=P 0 _ rfl;rw[aBd] at c0;have a2:=aAy R g.size;have X:=PF (Z.out.below g) p.1.id E;simp only at X;have n:p.1∈c.map (·.1):=aAI (aBj t)
    (go_wp2_with fail)
    apply X.mono;rintro e w1 ⟨k,rfl,hF,rfl⟩;clear X c0;obtain⟨r,rfl,B⟩:=WT hp hu n hF;clear hF;obtain⟨p2,l,e2⟩:∃p2,b[r]?=some p2/\p2.1=p.1:=by
      rw[aBy] at B;cases h2:b[r]? with
      |none=>rw[h2] at B;cases B
      |some p2=>rw[h2] at B;exact⟨p2,rfl,by simpa using B⟩
    have a7:r<b.length:=(aAO.1 l).1;have a4:(r:Int)<(b.length:Int):=oM
    have a6:¬(r:Int)<0:=oM
    have s:=aBj l;have m:=(C r p2 l).below g;rw[aAM] at m;have o:=U p2 s;have u:=Y p2 s;obtain⟨d2,z⟩:=p2;simp only at e2 m o u;subst e2;have v:=hb p.1 (hp.mem_iff.1 n);have J:=a1 p (aBj t);have F:∀V,Bw W V->Cq 22 #[.agg #[vI p.1.id,vU (aI p.1.bal 0),vU (aI p.1.bal 1),vU (aI p.1.bal 2),vU (aI p.1.bal 3),vI p.1.nonce,.string p.1.code,.sl p.2.a p.2.n p.2.c],.agg #[vI p.1.id,vU (aI p.1.bal 0),vU (aI p.1.bal 1),vU (aI p.1.bal 2),vU (aI p.1.bal 3),vI p.1.nonce,.string p.1.code,.sl z.a z.n z.c]] V fun e Q=>e=.rt (.bool true)/\Bw V Q:=fun V hV=>De v.1 v.2 (J.below hV) (o.below hV) u;have G:=US F;clear B F v J o u s l C D n;have q1:=P;have q2:=m;clear P m
    (go_wp2_with fail)
    refine rq (fun V=>cI V gw (i*8) (aV p.1 p.2)/\cI V gn (r*8) (aV p.1 z)) ⟨q1,q2⟩ fun h=>?_;refine t3 0 1 2 h ?_;refine tD 3 172 (.agg #[vI p.1.id,vU (aI p.1.bal 0),vU (aI p.1.bal 1),vU (aI p.1.bal 2),vU (aI p.1.bal 3),vI p.1.nonce,.string p.1.code,.sl p.2.a p.2.n p.2.c]) (fun V f=>?_) h ?_
    .have k0:=f.1 0 _ rfl;have k1:=f.1 1 _ rfl;have k2:=f.1 2 _ rfl;have k3:=f.1 3 _ rfl;have k4:=f.1 4 _ rfl;have k5:=f.1 5 _ rfl;have k6:=f.1 6 _ rfl;have k7:=f.1 7 _ rfl;simp only[aBd] at k0;clear f h;go_simp
    refine t3 4 5 6 h ?_;refine tD 7 176 (.agg #[vI p.1.id,vU (aI p.1.bal 0),vU (aI p.1.bal 1),vU (aI p.1.bal 2),vU (aI p.1.bal 3),vI p.1.nonce,.string p.1.code,.sl z.a z.n z.c]) (fun V f=>?_) h ?_
    .have k0:=f.2 0 _ rfl;have k1:=f.2 1 _ rfl;have k2:=f.2 2 _ rfl;have k3:=f.2 3 _ rfl;have k4:=f.2 4 _ rfl;have k5:=f.2 5 _ rfl;have k6:=f.2 6 _ rfl;have k7:=f.2 7 _ rfl;simp only[aBd] at k0;clear f h;go_simp
    refine rA 8 fun K hK=>?_;go_simp;apply(G.out _ g.drew).mono;rintro e V1 ⟨rfl,A⟩;go_wp2_with fail;refine hK.out _ _ ⟨h.1.below A,h.2.below A⟩ fun h=>?_;refine rA 9 fun K hK=>?_;go_simp;refine hK.out _ _ h fun h=>?_;refine dn ?_;have a0:=g.drew.tr (A.mono g.size)
    (go_wp2_with fail)
    go_roundw
    case rel=>exact⟨i+1,by go_num,oM,a0⟩
    case measure=>simp[Go.RowKit.intOf];omega
  · have M:¬(i:Int)<(c.length:Int):=oM
    (go_wp2_with fail)
    exact I.out _ _ rfl g
end
section
open Go.Lift
section
def LS{P:K5}{Q:Fg}{x y:Code}{a:Act}(h:x.wp P (fun e a w=>e=.normal/\y.wp P Q a w) a w):(Code.seq x y).wp P Q a w:=
 wp_seq (wp_mono h fun _ _ _ ⟨e,h⟩=>by subst e;exact h)
noncomputable def Of:Code:=uM (eR 7)
def Og:∃c,eR 7=.seq Of (.cond c SP .skip)/\c=.tmp 63:=⟨_,kR,rfl⟩
def Ej:SP=.seq (xF 0) (.seq (xF 1) (.seq (xF 2) (.seq (xF 3) (.seq (xF 4) (.seq (xF 5) (nL 6 SP)))))):=kR
variable [aB]
def dD.row{a:yj}(h:dD B W ⟨a,N,c⟩ os)(b:os[n]?=some p):∃g cur,a=some ⟨g,0,none⟩/\N=os.length/\n<N/\B<=g/\W.heap[g]?=ob cur 52/\∀j v,(aV p.1 p.2)[j]?=some v->cur[n*8+j]?=some v:=by
 have l:N=os.length:=(zJ (y:=⟨a,N,c⟩) h.own).1;have i:=(aAO.1 b).1;subst l;rcases h.own.2 with⟨e,d⟩| ⟨g,cap,cur,e,d,f,_⟩
 .omega
 .cases e;refine⟨g,cur,rfl,rfl,i,d,f,fun j v k=>?_⟩;have:=RA h.own b j v k;rw[aJ f] at this;exact this
def Oh(b:G6 T bo rb vw vn .nilIface)(W:WR)(g:Fi)(d:∀f,G6 f bo rb vw vn .nilIface->f[63]?=some (.bool true)->g ⟨f,[]⟩ W):
  Of.wp zQ.prog (fun e a w=>e=.normal/\g a w) ⟨T,[]⟩ W:=by
 have c:=US d;clear d;obtain⟨x,rfl⟩:=kI T b.sz;rw[show x 3=_ from aAv b.t3,show x 8=_ from aAv b.t8,show x 9=_ from aAv b.t9,show x 10=_ from aAv b.t10,show x 11=_ from aAv b.t11];clear b;dsimp only[Of,eR,uM,nL,nM,uW,f6,gdS]
 (go_wp2_with fail)
 exact c.out _ ⟨rfl,rfl,rfl,rfl,rfl,rfl⟩ rfl
def Ek{b:Bool}(h:T[63]?=some (.bool b)):Act.eval ⟨T,[]⟩ (.tmp 63)=.bool b:=by simp[Act.eval,h]
def LU(A:I6 T bo (n:Int) ⟨some ⟨g,0,none⟩,N,c⟩ vn)(W:WR)(m:W.heap[bo]?=ob o.cs 43)(v:dD B W ⟨some ⟨g,0,none⟩,N,c⟩ os)(y:os[n]?=some p)(z:o.bP=(gn:Int))(s:o.bK=(pn:Int))(d:gn<=1000000)(b:pn<=1000000)(k:p.1.bal<M)(q:Fi)(r:∀i w1,E6 i ⟨some ⟨g,0,none⟩,N,c⟩ vn->Bw W w1->dD B (w1.setCells g (n*8+1) [vU (aI ((p.1.bal+gn*pn) % M) 0),vU (aI ((p.1.bal+gn*pn) % M) 1),vU (aI ((p.1.bal+gn*pn) % M) 2),vU (aI ((p.1.bal+gn*pn) % M) 3)]) ⟨some ⟨g,0,none⟩,N,c⟩ (os.set n (WS p.1 (gn*pn),p.2))->w1.grownBy (w1.setCells g (n*8+1) [vU (aI ((p.1.bal+gn*pn) % M) 0),vU (aI ((p.1.bal+gn*pn) % M) 1),vU (aI ((p.1.bal+gn*pn) % M) 2),vU (aI ((p.1.bal+gn*pn) % M) 3)]) (some g)->q ⟨i,[]⟩ (w1.setCells g (n*8+1) [vU (aI ((p.1.bal+gn*pn) % M) 0),vU (aI ((p.1.bal+gn*pn) % M) 1),vU (aI ((p.1.bal+gn*pn) % M) 2),vU (aI ((p.1.bal+gn*pn) % M) 3)])):
  (nL 6 SP).wp zQ.prog (fun e a w=>e=.normal/\q a w) ⟨T,[]⟩ W:=by
 have⟨E,cur,e,_,D,_,h,f⟩:=v.row y;cases e;have x:gn*pn<M:=aBV (aCG d b) dC;have l:gn*pn % M=gn*pn:=aBS x;refine Jr (o:=o) (gn:=gn) (pn:=pn) (y:=p.1.bal) (z:=gn*pn) (q:=(p.1.bal+gn*pn) % M) A W D m h (fun j F=>?_) (fun V=>by rw[z];exact HB gn oM V) (fun V=>by rw[s];exact HB pn oM V) (fun V=>by have:=Ji gn pn (aBV d dC) (aBV b dC) V;rw[l] at this;exact this) (fun V=>N7 _ _ k x V) q fun i w1 C u=>?_
 .refine f (1+j) _ ?_;rcases j with _|_|_|_|j
  .rfl
  .rfl
  .rfl
  .rfl
  .omega
 .have t:=(v.below u).upd (o:=1) (cs:=[vU (aI ((p.1.bal+gn*pn) % M) 0),vU (aI ((p.1.bal+gn*pn) % M) 1),vU (aI ((p.1.bal+gn*pn) % M) 2),vU (aI ((p.1.bal+gn*pn) % M) 3)]) (p':=(WS p.1 (gn*pn),p.2)) y sI rfl rfl rfl;exact r i w1 C u t.1 t.2
end
end
end Go.Mark
