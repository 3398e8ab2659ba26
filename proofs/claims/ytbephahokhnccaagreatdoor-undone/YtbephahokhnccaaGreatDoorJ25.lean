import Derived.Test.YtbephahokhnccaaGreatDoorJ24
set_option linter.all false
set_option maxRecDepth 100000
set_option maxHeartbeats 8000000
namespace Go.Mark
open Go.RowKit Go.Proofs Go.Proofs.Tryz
variable{A A':AM}{v:Av}{m:Int}{os:List (bF×SV)}{T T':List bF}{i b:Nat}{o:Od}{W:WR}{d:bF}
section
theorem pJ{α:Type}[DecidableEq α]:∀{l ks:List α},l.Nodup->(∀a∈l,a∈ks)->l.length<=ks.length
 | [],_,_,_=>Nat.zero_le _
 |a::l,ks,hn,h=>by
  have hn':=List.nodup_cons.1 hn;have ha:a∈ks:=h a List.mem_cons_self;have:=pJ (ks:=ks.erase a) hn'.2 (fun b hb=>(List.mem_erase_of_ne (show b≠a from fun e=>hn'.1 (e▸hb))).2 (h b (List.mem_cons_of_mem _ hb)));rw[List.length_erase_of_mem ha] at this;have:=List.length_pos_of_mem ha;simp only[List.length_cons];exact oM
def Tb(T:List bF):Prop:=∀d∈T,d.bal<M/\∀p∈d.bE,p.1<M/\p.2<M
variable [aB]
def Il{l m d c:Nat}{F:Int}{E G:Addr}{t:Nat}(h:RP W l m d F A E G c)(N:c<50000000)(n:W.cell? ⟨t,0,none⟩=some (pq l 0)):
  Cq 17 #[pq t 0] W fun e k=>∃v os,e=.returned (.slice v.a v.n v.c)/\Bw W k/\dD W.heap.size k v os/\Td A (os.map (·.1))/\Tb (os.map (·.1))/\os.length<100000000:=by
 obtain⟨L,dl,f,rfl,_,y⟩:=h.lf;obtain⟨x,k1,I,C⟩:=h.sup;have i:∀q∈L,q.1∈x:=fun q b=>I q.1 (by rw[yT f.nd b];simp);have s:L.length<100000000:=by have:=pJ f.nd (fun a j=>by obtain⟨q,b,rfl⟩:=aAJ.1 j;exact i q b);simp at this;exact oM
 have o:∀q∈L,q.2.2.sl.length<100000000:=fun q b=>by
  obtain⟨z,M,D⟩:=(h.av q.1 q.2.1 (av q.2.2) (yT f.nd b)).sup;have:=pJ (f.IX q b) (ks:=z) (fun a j=>by obtain⟨p,r,rfl⟩:=aAJ.1 j;refine D p.1 ?_;have:=(zQ (f.IX q b) (y q b) p.1 p.2).1 r;show iV q.2.2.sl p.1≠0;rw[this.1];exact this.2)
  simp at this;exact oM
 have u:=f.ledger (fun q b=>C _ (i q b)) o s;refine(zP _ t l W n u).mono ?_;rintro e k ⟨v,os,rfl,B,H,g⟩;have J:(L.map fun q=>(BQ q,q.2.1)).map (·.1)=L.map BQ:=by rw[aAS];rfl
 rw[J] at g;refine⟨v,os,rfl,B,H,by rw[g];exact f.td y,?_,?_⟩
 .rw[g];intro a j;obtain⟨K,w,rfl⟩:=aAJ.1 ((mF _).mem_iff.1 j);obtain⟨q,b,rfl⟩:=aAJ.1 w;refine⟨f.bal q b,fun p r=>f.key q b p ?_⟩;exact(jY _ _).mem_iff.1 r
 .have:=congrArg List.length g;rw[aBB,(mF _).length_eq] at this;simp at this;exact oM
structure Rl (W:WR)(v:SV)(os:List (bF×SV)):Prop where
 n:v.n=os.length
 at':os=[]\/∃g,v.a=some ⟨g,0,none⟩/\g<W.heap.size/\nS W g 0 os
def dD.rl{B:Nat}{v:SV}(h:dD B W v os):Rl W v os:=by
 obtain⟨m,k,l⟩:=v;have j:=zJ h.own;refine⟨j.1,?_⟩;rcases h.own.2 with⟨a,b⟩| ⟨g,cap,c,a,b,f,_⟩
 .exact .inl (aAZ b)
 .have e:=a;cases a;refine .inr ⟨g,rfl,aG f,fun i p d=>?_⟩;rw[aAM];exact RA h.own d
def Lj(T:List bF)(i k:Int):Prop:=(k= -1/\∀d∈T,d.id≠i)\/∃n:Nat,k=(n:Int)/\∃d,T[n]?=some d/\d.id=i
def PF{v:SV}(h:Rl W v os)(i:Int)(a:os.length<200000000):
  Cq 19 #[.sl v.a v.n v.c,vI i] W fun e w=>∃k,e=.rt (vI k)/\Lj (os.map (·.1)) i k/\w=W:=by
 obtain⟨A,B,C⟩:=v;obtain⟨s,r⟩:=h;simp only at s r;subst s;go_enter (qz func19),ntmps19;go_wp2_with fail;go_loopw [5] (fun j V=>∃k:Nat,j=vI (k:Int)/\k<=os.length/\(∀(n:Nat) p,n<k->os[n]?=some p->p.1.id≠i)/\V=W) (fun j _=>os.length - (Go.RowKit.intOf j).toNat)
 case atStart=>exact⟨0,rfl,aBa _,fun n p a=>absurd a (Nat.not_lt_zero _),rfl⟩
 case round=>
  obtain⟨k,rfl,z,c,rfl⟩:=hrel;by_cases b:k<os.length
  .have f:(k:Int)<(os.length:Int):=oM
   obtain⟨p,l⟩:∃p,os[k]?=some p:=⟨_,aAG b⟩;obtain⟨g,rfl,y,m⟩:=r.resolve_left (by intro e;rw[e] at b;simp at b);have x:=m k p l 0 _ rfl;simp only[aAM,aBd] at x;by_cases t:p.1.id=i
   .go_wp2;go_ret;exact⟨(k:Int),rfl,.inr ⟨k,rfl,p.1,by simp[l],t⟩,rfl⟩
   .go_wp2_with fail;go_roundw
    case rel=>
     refine⟨k+1,by go_num,oM,fun n q a o=>?_,trivial⟩;rcases Nat.lt_succ_iff_lt_or_eq.1 a with a|rfl
     .exact c n q a o
     .rw[l] at o;cases o;exact t
    case measure=>simp[Go.RowKit.intOf];omega
  .have f:¬(k:Int)<(os.length:Int):=oM
   go_wp2;go_ret;refine⟨-1,rfl,.inl ⟨rfl,fun d u=>?_⟩,rfl⟩;obtain⟨p,l,rfl⟩:=aAJ.1 u;have⟨n,a,e⟩:=aBe.1 l;exact c n p oM (by rw[<-e];exact aAG a)
end
section
def Dd(W:WR)(s:SV)(a:List (Nat×Nat)):Prop:=s.n=a.length/\(a=[]\/∃g,s.a=some ⟨g,0,none⟩/\g<W.heap.size/\pA W g a)
variable [aB]
attribute [local go_sem] wd
def De{s x:SV}(A:d.bal<M)(N:∀p∈d.bE,p.1<M/\p.2<M)(q:Dd W s d.bE)(n:Dd W x d.bE)(T:d.bE.length<200000000):
   Cq 22 #[.agg (aV d s).toArray,.agg (aV d x).toArray] W fun e E=>e=.rt (.bool true)/\Bw W E:=by
 obtain⟨l,U,i⟩:=s;obtain⟨m,Y,c2⟩:=x;obtain⟨D,q⟩:=q;obtain⟨C,n⟩:=n;simp only at D C q n;subst D C;have heq:∀w,(Op.equalIn 10000 41 (.agg #[vU (aI d.bal 0),vU (aI d.bal 1),vU (aI d.bal 2),vU (aI d.bal 3)]) (.agg #[vU (aI d.bal 0),vU (aI d.bal 1),vU (aI d.bal 2),vU (aI d.bal 3)])).run zQ.prog w=.ok true w:=fun w=>(rW d.bal d.bal A A w).tr sI;have h:((W.nc #[vI d.id,vU (aI d.bal 0),vU (aI d.bal 1),vU (aI d.bal 2),vU (aI d.bal 3),vI d.nonce,.string d.code,.sl l d.bE.length i] 52).nc #[vI d.id,vU (aI d.bal 0),vU (aI d.bal 1),vU (aI d.bal 2),vU (aI d.bal 3),vI d.nonce,.string d.code,.sl m d.bE.length c2] 52).heap[W.heap.size]?=ob #[vI d.id,vU (aI d.bal 0),vU (aI d.bal 1),vU (aI d.bal 2),vU (aI d.bal 3),vI d.nonce,.string d.code,.sl l d.bE.length i] 52:=aT (aM W _);have u:((W.nc #[vI d.id,vU (aI d.bal 0),vU (aI d.bal 1),vU (aI d.bal 2),vU (aI d.bal 3),vI d.nonce,.string d.code,.sl l d.bE.length i] 52).nc #[vI d.id,vU (aI d.bal 0),vU (aI d.bal 1),vU (aI d.bal 2),vU (aI d.bal 3),vI d.nonce,.string d.code,.sl m d.bE.length c2] 52).heap[W.heap.size+1]?=ob #[vI d.id,vU (aI d.bal 0),vU (aI d.bal 1),vU (aI d.bal 2),vU (aI d.bal 3),vI d.nonce,.string d.code,.sl m d.bE.length c2] 52:=by have:=aM (W.nc #[vI d.id,vU (aI d.bal 0),vU (aI d.bal 1),vU (aI d.bal 2),vU (aI d.bal 3),vI d.nonce,.string d.code,.sl l d.bE.length i] 52) (.ce #[vI d.id,vU (aI d.bal 0),vU (aI d.bal 1),vU (aI d.bal 2),vU (aI d.bal 3),vI d.nonce,.string d.code,.sl m d.bE.length c2] 52);simpa using this
 have b:Bw W ((W.nc #[vI d.id,vU (aI d.bal 0),vU (aI d.bal 1),vU (aI d.bal 2),vU (aI d.bal 3),vI d.nonce,.string d.code,.sl l d.bE.length i] 52).nc #[vI d.id,vU (aI d.bal 0),vU (aI d.bal 1),vU (aI d.bal 2),vU (aI d.bal 3),vI d.nonce,.string d.code,.sl m d.bE.length c2] 52):=(ba).aL sI _;unfold aV;go_enter (qz func22),ntmps22;go_wp2_with fail;clear heq;go_loopw [5] (fun j V=>∃k:Nat,j=vI (k:Int)/\k<=d.bE.length/\V.heap[W.heap.size]?=ob #[vI d.id,vU (aI d.bal 0),vU (aI d.bal 1),vU (aI d.bal 2),vU (aI d.bal 3),vI d.nonce,.string d.code,.sl l d.bE.length i] 52/\V.heap[W.heap.size+1]?=ob #[vI d.id,vU (aI d.bal 0),vU (aI d.bal 1),vU (aI d.bal 2),vU (aI d.bal 3),vI d.nonce,.string d.code,.sl m d.bE.length c2] 52/\Bw W V) (fun j _=>d.bE.length - (Go.RowKit.intOf j).toNat)
 case atStart=>exact⟨0,rfl,aBa _,h,u,b⟩
 case round=>
  clear h u b;obtain⟨k,rfl,R,h,u,b⟩:=hrel;have X:=aG h;have S:=bq h 7;by_cases c:k<d.bE.length
  .have o:(k:Int)<(d.bE.length:Int):=oM
   obtain⟨p,z⟩:∃p,d.bE[k]?=some p:=⟨_,aAG c⟩;have r:=N p (aBj z);obtain⟨g,rfl,Q,t⟩:=q.resolve_left (by intro e;rw[e] at c;simp at c);obtain⟨B,rfl,K,v⟩:=n.resolve_left (by intro e;rw[e] at c;simp at c);have H:=(t k p z).below b;have P:=(v k p z).below b;clear t v q n;have heq:=ZX p p r r;simp only[decide_true,Bool.and_self] at heq;unfold bX at heq;go_wp2_with fail;refine rq (fun V=>V.heap[W.heap.size]?=ob #[vI d.id,vU (aI d.bal 0),vU (aI d.bal 1),vU (aI d.bal 2),vU (aI d.bal 3),vI d.nonce,.string d.code,.sl (some (ad g 0)) d.bE.length i] 52/\V.heap[W.heap.size+1]?=ob #[vI d.id,vU (aI d.bal 0),vU (aI d.bal 1),vU (aI d.bal 2),vU (aI d.bal 3),vI d.nonce,.string d.code,.sl (some (ad B 0)) d.bE.length c2] 52/\cI V g (k*8) (bX p)/\cI V B (k*8) (bX p)) ⟨h,u,H,P⟩ fun f=>?_;refine t1 0 f ?_;refine tV 1 (fun _ a=>bq (a.1) 7) f ?_;refine t2 2 3 f ?_;refine tD 4 52 (.agg #[vU (aI p.1 0),vU (aI p.1 1),vU (aI p.1 2),vU (aI p.1 3),vU (aI p.2 0),vU (aI p.2 1),vU (aI p.2 2),vU (aI p.2 3)]) (fun V a=>?_) f ?_
   .have y:=a.2.2.1 0 _ rfl;have k1:=a.2.2.1 1 _ rfl;have O:=a.2.2.1 2 _ rfl;have G:=a.2.2.1 3 _ rfl;have I:=a.2.2.1 4 _ rfl;have J:=a.2.2.1 5 _ rfl;have L:=a.2.2.1 6 _ rfl;have F:=a.2.2.1 7 _ rfl;simp only[aBd] at y;clear a f;go_simp
   refine t1 5 f ?_;refine tV 6 (fun _ a=>bq (a.2.1) 7) f ?_;refine t2 7 8 f ?_;refine tD 9 57 (.agg #[vU (aI p.1 0),vU (aI p.1 1),vU (aI p.1 2),vU (aI p.1 3),vU (aI p.2 0),vU (aI p.2 1),vU (aI p.2 2),vU (aI p.2 3)]) (fun V a=>?_) f ?_
   .have y:=a.2.2.2 0 _ rfl;have k1:=a.2.2.2 1 _ rfl;have O:=a.2.2.2 2 _ rfl;have G:=a.2.2.2 3 _ rfl;have I:=a.2.2.2 4 _ rfl;have J:=a.2.2.2 5 _ rfl;have L:=a.2.2.2 6 _ rfl;have F:=a.2.2.2 7 _ rfl;simp only[aBd] at y;clear a f;go_simp
   refine t1 10 f ?_;refine dn ?_;go_wp2_with fail;go_roundw
   case rel=>exact⟨k+1,by go_num,oM,h,u,b.drew⟩
   case measure=>simp[Go.RowKit.intOf];omega
  .have o:¬(k:Int)<(d.bE.length:Int):=oM
   go_wp2;go_ret;exact⟨rfl,b⟩
end
section
variable [aB]
def sW(d:bF)(x:Nat):bF:={d with nonce:=d.nonce+1,bal:=(d.bal+M - x) % M}
def WS(d:bF)(x:Nat):bF:={d with bal:=(d.bal+x) % M}
def PG(i:Int):bF:=⟨i,0,0,⟨#[]⟩,[]⟩
def Tv.sW(h:Tv v d)(x:Nat):Tv {v with bal:=(v.bal+M - x) % M,nonce:=v.nonce+1} (sW d x):=by unfold Go.Mark.sW;rw[h.bal,h.nonce];generalize(v.bal+M - x) % M=y;exact⟨rfl,rfl,h.code,h.up,h.sl⟩
def Tv.WS(h:Tv v d)(x:Nat):Tv {v with bal:=(v.bal+x) % M} (WS d x):=by unfold Go.Mark.WS;rw[h.bal];generalize(v.bal+x) % M=y;exact⟨rfl,h.nonce,h.code,h.up,h.sl⟩
def Df(d:bF)(x:Nat):(sW d x).id=d.id:=by unfold sW;generalize(d.bal+M - x) % M=y;rfl
def ja(d:bF)(x:Nat):(WS d x).id=d.id:=by unfold WS;generalize(d.bal+x) % M=y;rfl
def jc(c:Td A T){v1:Av}{d1:bF}(g:T[i]?=some d)(a:d.id=m)(e:d1.id=d.id)(f:Tv v1 d1):Td (up A m (some (b,v1))) (T.set i d1):=by have:=c.set (b:=b) g e f;rw[a] at this;exact this
def Im(f:Td A T)(g:A m=some (b,v))(h:T[i]?=some d)(c:d.id=m):Tv v d:=by have⟨k,j,a,e⟩:=f.of d (aBj h);rw[c,g] at a;cases a;exact e
def RS(c:Td A T)(f:A o.src=some (b,v))(e:T[i]?=some d)(a:d.id=o.src)(x:Nat):Td (up A o.src (some (b,{v with bal:=(v.bal+M - x) % M,nonce:=v.nonce+1}))) (T.set i (sW d x)):=
 jc c e a (Df d x) ((Im c f e a).sW x)
def ug(m:Td A T)(c:Td A' T')(s:yd A o A')(q:T[i]?=some d)(j:d.id=o.src)(a:∀e∈T.set i (sW d (o.bP.toNat*o.bK.toNat)),e.id≠o.aS):
  (T.set i (sW d (o.bP.toNat*o.bK.toNat))++[WS (PG o.aS) (o.bP.toNat*o.bK.toNat)]).Perm T':=by
 obtain⟨b,v,n,w,u,y,t,f,rfl⟩:=s;have g:=RS m n q j (o.bP.toNat*o.bK.toNat);rcases f with⟨k1,_⟩| ⟨k1,⟨ms,rfl⟩,_⟩
 .have⟨e,r,p⟩:=g.all o.aS (by rw[k1];simp);exact absurd p (a e r)
 .have l:Tv ⟨0,0,⟨#[]⟩,⟨none,0,0⟩,ms,fun _=>0⟩ (PG o.aS):=⟨rfl,rfl,rfl,List.Pairwise.nil,fun k x=>⟨fun h=>(by cases h),fun h=>absurd h.1.symm h.2⟩⟩;exact g.app k1 (ja _ _) (l.WS _) c
def uh(l:Td A T)(c:Td A' T')(r:yd A o A')(q:T[i]?=some d)(k:d.id=o.src){n:Nat}{e:bF}(h:(T.set i (sW d (o.bP.toNat*o.bK.toNat)))[n]?=some e)(j:e.id=o.aS):
  ((T.set i (sW d (o.bP.toNat*o.bK.toNat))).set n (WS e (o.bP.toNat*o.bK.toNat))).Perm T':=by
 obtain⟨b,v,m,p,x,y,w,f,rfl⟩:=r;have g:=RS l m q k (o.bP.toNat*o.bK.toNat);have⟨u,t,a,s⟩:=g.of e (aBj h);rw[j] at a;rcases f with⟨k1,_⟩| ⟨k1,_⟩
 .rw[a] at k1;cases k1;have:=jc g (b:=p) h j (ja _ _) (s.WS (o.bP.toNat*o.bK.toNat));rw[this.eq c]
 .rw[a] at k1;cases k1
def WT(b:T.Perm T')(q:Up (fun d:bF=>d.id) T')(l:d∈T){k:Int}(o:Lj T' d.id k):∃n:Nat,k=(n:Int)/\T'[n]?=some d:=by
 have a:=b.mem_iff.1 l;rcases o with⟨_,h⟩| ⟨n,p,e,g,h3⟩
 .exact absurd rfl (h d a)
 .refine⟨n,p,?_⟩;rw[g];congr 1;have⟨m,j,f⟩:=aBe.1 a;have⟨i,c⟩:=aAO.1 g;have b:=aBg.1 q;rcases aDd n m with h|h|h
  .have:=b n m i j h;simp only[f,c] at this;omega
  .subst h;rw[<-c,f]
  .have:=b m n j i h;simp only[f,c] at this;omega
end
end Go.Mark
