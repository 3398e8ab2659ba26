import Derived.Test.YtbephahokhnccaaGreatDoorJ6
import Derived.Test.YtbephahokhnccaaGreatDoorJ7
set_option linter.all false
set_option maxRecDepth 100000
set_option maxHeartbeats 4000000
namespace Go.Mark
open Go.RowKit Go.Proofs Go.Proofs.Tryz
variable{c:Ff}{cr back depth:Int}{S B:K4}{T:List Fh}{J J':K3}{l m b x o f mc j:Nat}{sv lg:SV}{t:Fh}{z:vZ}{W W' w v:WR}
section
variable [aB]
def oD{a:Type}[DecidableEq a]{d e mt:Fh}{b:a->vZ}{ok:a->Prop}(K:Keys d b ok)(i:zQ.prog.underlying mt=some (.map d e)){r:Nat}{l:List (a×vZ)}{k:a}(j:lT b w r l)(n:ok k)(q:∀p∈l,ok p.1)(o:∀w,(zeroValue e).run zQ.prog w=.ok z w):
  (Instr.lookup mt (.map (some r)) (b k) true).run zQ.prog w=.ok (.tuple #[(cZ k l 0).elim z (·.2),.bool (cZ k l 0).isSome]) w:=by
 have⟨g,clock,m,s⟩:=j;have f:=K.find k g.toList l w n q s;have c:(getObj r).run zQ.prog w=.ok (.map g clock) w:=by simp[getObj,Sem.run,m]
 unfold Instr.lookup;cases h:cZ k l 0 with
 |none=>simp[run_underlying i,c,K.ZU,f,h,o]
 |some p=>simp[run_underlying i,c,K.ZU,f,h]
structure Ac where
 bal:Nat
 nonce:Int
 code:Lp
 mark:SV
 ms:Nat
 sl:List (Nat×Nat)
structure Dm where
 b:Nat
 l:List Int
def IW(l:List Int):List (Int×vZ):=l.map fun i=>(i,.agg #[])
def cG(a:Ac):Ff:=#[.int .u64 (aI a.bal 0),.int .u64 (aI a.bal 1),.int .u64 (aI a.bal 2),.int .u64 (aI a.bal 3),.int .i64 a.nonce,.string a.code,.slice a.mark.a a.mark.n a.mark.c,.map (some a.ms)]
def ids(L:List (Int×Nat×Ac)):List (Int×vZ):=L.map fun q=>(q.1,pq q.2.1 0)
structure LG (W:WR)(l m:Nat)(dm:Dm)(cr:Int)(L:List (Int×Nat×Ac))(J:K3):Prop where
 lj:LJ W l m cr dm.b J
 map:cR (fun x:Int=>Value.int .i64 x) W m (ids L)
 iZ:cR (fun x:Int=>Value.int .i64 x) W dm.b (IW dm.l)
 acc:∀q∈L,W.heap[q.2.1]?=ob (cG q.2.2) 136
 slot:∀q∈L,cR wd W q.2.2.ms (slotL q.2.2.sl)
 nd:(L.map (·.1)).Nodup
 AJ:(L.map (·.2.1)).Nodup
 bal:∀q∈L,q.2.2.bal<M
 key:∀q∈L,∀p∈q.2.2.sl,p.1<M/\p.2<M
 IX:∀q∈L,(q.2.2.sl.map (·.1)).Nodup
 UN:(L.map (·.2.2.ms)).Nodup
 MA:∀q∈L,q.2.2.ms≠m/\q.2.2.ms≠dm.b
 UO:m≠dm.b
 pf:dm.l.Nodup
 lo:∀q∈L,aB.b0<=q.2.1/\aB.b0<=q.2.2.ms
 wT:aB.b0<=m/\aB.b0<=dm.b
def UP:zQ.prog.underlying 124=some (.map 3 129):=(aC 124).tr underlying124
theorem IY:∀(L:List (Int×Nat×Ac)) (i:Nat) (q:Int×Nat×Ac),(L.map (·.1)).Nodup->q∈L->∃j,cZ q.1 (ids L) i=some (j,pq q.2.1 0)
 | [],_,_,_,h=>by cases h
 |r::L,i,q,d,h=>by
  have a:=aBt.1 d;show ∃j,cZ q.1 ((r.1,Value.pointer (some (ad r.2.1 0)))::ids L) i=_;unfold cZ;rcases aAx.1 h with rfl|h
  .exact⟨i,sI⟩
  .have b:r.1≠q.1:=fun e=>a.1 (by show r.1∈_;rw[e];exact aAI (f:=fun x:Int×Nat×Ac=>x.1) h);have⟨j,c⟩:=IY L (i+1) q a.2 h;exact⟨j,by rw[if_neg (fun e=>b e.symm)];exact c⟩
theorem QM:∀(L:List (Int×Nat×Ac)) (i:Nat) (k:Int),k∉L.map (·.1)->cZ k (ids L) i=none
 | [],_,_,_=>rfl
 |r::L,i,k,h=>by show cZ k ((r.1,Value.pointer (some (ad r.2.1 0)))::ids L) i=_;unfold cZ;simp only[aBl,aAx,not_or] at h;rw[if_neg h.1];exact QM L (i+1) k h.2
def LG.look{d:Dm}{L:List (Int×Nat×Ac)}(h:LG W l m d cr L J){q:Int×Nat×Ac}(b:q∈L)(a:W'.heap[m]?=W.heap[m]?):
  (Instr.lookup 124 (.map (some m)) (.int .i64 q.1) true).run zQ.prog W'=.ok (.tuple #[pq q.2.1 0,.bool true]) W':=by
 have⟨j,c⟩:=IY L 0 q h.nd b;have:=oD pg UP (z:=.pointer none) (h.map.same a).FL (k:=q.1) trivial (fun _ _=>trivial) fun w=>(aK 129 w).tr (zeroValue129 w);rw[c] at this;exact this
def LG.NZ{c:Dm}{L:List (Int×Nat×Ac)}(h:LG W l m c cr L J){k:Int}(b:k∉L.map (·.1))(a:W'.heap[m]?=W.heap[m]?):
  (Instr.lookup 124 (.map (some m)) (.int .i64 k) true).run zQ.prog W'=.ok (.tuple #[.pointer none,.bool false]) W':=by
 have:=oD pg UP (z:=.pointer none) (h.map.same a).FL (k:=k) trivial (fun _ _=>trivial) fun w=>(aK 129 w).tr (zeroValue129 w);rw[QM L 0 k b] at this;exact this
def LG.cell0{b:Dm}{L:List (Int×Nat×Ac)}(h:LG W l m b cr L J):l<W.heap.size/\W.cell? ⟨l,0,none⟩=some (.map (some m)):=by have⟨c,a,_⟩:=h.lj.ex;exact⟨aG a,by rw[aJ a 0];rfl⟩
def QN{d:Dm}{L:List (Int×Nat×Ac)}(h:LG W l m d cr L J){q:Int×Nat×Ac}(a:q∈L):
  Cq 82 #[pq l 0,vI q.1] W fun e c=>e=.rt (.bool true)/\c=W:=by
 have f:=h.look a (W':=W) rfl;have⟨b,g⟩:=h.cell0;clear a h;go_enter (qz func82),ntmps82;go_wp2;go_ret;exact⟨rfl,rfl⟩
def pB{d:Dm}{L:List (Int×Nat×Ac)}(h:LG W l m d cr L J){q:Int×Nat×Ac}(a:q∈L):
  Cq 87 #[pq l 0,vI q.1] W fun e c=>e=.rt (pq q.2.1 0)/\c=W:=by
 have f:=h.look a (W':=W) rfl;have⟨b,g⟩:=h.cell0;clear a h;go_enter (qz func87),ntmps87;go_wp2;go_ret;exact⟨rfl,rfl⟩
def wU{g:Dm}{L:List (Int×Nat×Ac)}(h:LG W l m g cr L J){q:Int×Nat×Ac}(b:q∈L):
  Cq 130 #[pq l 0,vI q.1] W fun e f=>e=.rt (.agg (cG q.2.2))/\Bw W f:=by
 have⟨c,r⟩:=h.cell0;have a:=h.acc q b;have d:=aG a;have k:=h.look b (W':=W.nc #[vU 0,vU 0,vU 0,vU 0,vI 0,.string ⟨#[]⟩,.sl none 0 0,.map none] 136) (Below.heap_alloc W _ m h.map.lt);have p:=bq a 0;have j:=bq a 1;have c2:=bq a 2;have c3:=bq a 3;have c4:=bq a 4;have n:=bq a 5;have o:=bq a 6;have i:=bq a 7;clear b h a;go_enter (qz func130),ntmps130;go_wp2;simp[bodyPost,results,results130,go_sem,cG];exact ba
end
section
variable [aB]
attribute [local go_sem] wd
def fG(L:List (Int×Nat×Ac))(b:Nat)(a:Ac):List (Int×Nat×Ac):=L.map fun q=>if q.2.1=b then(q.1,b,a) else q
def IZ(L:List (Int×Nat×Ac))(b:Nat)(a:Ac):ids (fG L b a)=ids L:=by
 unfold ids fG;rw[aAS];refine aBO fun q _=>?_;simp only[Function.comp];split
 .rename_i e;subst e;rfl
 .rfl
def lU(L:List (Int×Nat×Ac))(b:Nat)(a:Ac):(fG L b a).map (·.1)=L.map (·.1):=by unfold fG;rw[aAS];refine aBO fun q _=>?_;simp only[Function.comp];split<;>rfl
def JA(L:List (Int×Nat×Ac))(b:Nat)(a:Ac):(fG L b a).map (·.2.1)=L.map (·.2.1):=by
 unfold fG;rw[aAS];refine aBO fun q _=>?_;simp only[Function.comp];split
 .rename_i e;exact e.symm
 .rfl
def oE{L:List (Int×Nat×Ac)}(h:(L.map (·.2.1)).Nodup){p q:Int×Nat×Ac}(i:p∈L)(b:q∈L)(e:p.2.1=q.2.1):p=q:=by
 induction L with
 |nil=>cases i
 |cons r L j=>
  have g:=aBt.1 h;rcases aAx.1 i with c|a
  .subst c;rcases aAx.1 b with rfl|b
   .rfl
   .exact absurd (show p.2.1∈L.map (·.2.1) by rw[e];exact aAI (f:=fun x:Int×Nat×Ac=>x.2.1) b) g.1
  .rcases aAx.1 b with d|f
   .subst d;exact absurd (show q.2.1∈L.map (·.2.1) by rw[<-e];exact aAI (f:=fun x:Int×Nat×Ac=>x.2.1) a) g.1
   .exact j g.2 a f
def LJ.jA{p:Nat}(h:LJ W l m cr p J)(j:aU B T W W')(d:128∉T/\262∉T)(n:∀k∈B,∀o,W.heap[k]?=some o->∃c t f,o=.cells c t f/\t≠128/\t≠262):LJ W' l m cr p J:=by
 have⟨r,i,b⟩:=h.ex;refine⟨h.lo,r,j.obj i d.1 (fun e=>?_),dM b fun g q=>?_⟩
 .have⟨c,t,f,h3,h4,_⟩:=n l e _ i;cases h3;exact h4 rfl
 .have⟨s,a⟩:=cL b g q;refine(j.obj a d.2 (fun e=>?_)).tr a.symm;have⟨c,t,f,h3,_,h4⟩:=n g e _ a;cases h3;exact h4 rfl
def q8{x y u:vZ}(h:W.heap[b]?=ob c t)(e:c.toList[0]?=some x:=by rfl)(d:c.toList[1]?=some y:=by rfl)(a:c.toList[2]?=some z:=by rfl)(h3:c.toList[3]?=some u:=by rfl):W.cell? ⟨b,0,none⟩=some x/\W.cell? ⟨b,1,none⟩=some y/\W.cell? ⟨b,2,none⟩=some z/\W.cell? ⟨b,3,none⟩=some u/\W.frozen? ⟨b,0,none⟩=false/\W.frozen? ⟨b,1,none⟩=false/\W.frozen? ⟨b,2,none⟩=false/\W.frozen? ⟨b,3,none⟩=false:=⟨bq h 0 e,bq h 1 d,bq h 2 a,bq h 3 h3,aQ h 0,aQ h 1,aQ h 2,aQ h 3⟩
def dV(v0 v1 d a:vZ)(h:w.heap[b]?=ob c t):((((w.setCell ⟨b,0,none⟩ v0).setCell ⟨b,1,none⟩ v1).setCell ⟨b,2,none⟩ d).setCell ⟨b,3,none⟩ a).heap[b]?=ob ((((c.setIfInBounds 0 v0).setIfInBounds 1 v1).setIfInBounds 2 d).setIfInBounds 3 a) t:=aO (aO (aO (aO h)))
def mx(x:Nat)(h:w.heap[b]?=ob wz 41)(c:Below W.heap.size W w)(a:W.heap.size<=b):∃V,((((w.setCell ⟨b,0,none⟩ (.int .u64 (aI x 0))).setCell ⟨b,1,none⟩ (.int .u64 (aI x 1))).setCell ⟨b,2,none⟩ (.int .u64 (aI x 2))).setCell ⟨b,3,none⟩ (.int .u64 (aI x 3)))=V/\V.heap[b]?=ob (wq x) 41/\Below W.heap.size W V:=⟨_,rfl,dV _ _ _ _ h,(((c.sC a _).sC a _).sC a _).sC a _⟩
def fX(w:WR)(b:Nat)(v0 v1 c a:vZ):aU [b] [] w ((((w.setCell ⟨b,0,none⟩ v0).setCell ⟨b,1,none⟩ v1).setCell ⟨b,2,none⟩ c).setCell ⟨b,3,none⟩ a):=(((aU.sC w b 0 v0).tr (aU.sC _ b 1 v1)).tr (aU.sC _ b 2 c)).tr (aU.sC _ b 3 a)
def LG.jA{u:Dm}{a:Int}{L:List (Int×Nat×Ac)}(h:LG W l m u cr L J)(s:LJ W' l m a u.b J')(v:aU B T W W')(A:136∉T)(y:∀k∈B,∀o,W.heap[k]?=some o->∃c t f,o=.cells c t f/\t≠136):LG W' l m u a L J':=by
 have n:∀{i:Type} {j:i->vZ} {r:Nat} {x:List (i×vZ)},cR j W r x->cR j W' r x:=fun{i j r x} w=>by
  obtain⟨g,c,p⟩:∃g c,W.heap[r]?=some (.map g c):=let⟨g,c,b,_⟩:=w;⟨g,c,b⟩
  refine w.same ((v.obj p trivial (fun e=>?_)).tr p.symm);have⟨c,t,f,b,_⟩:=y r e _ p;cases b
 refine⟨s,n h.map,n h.iZ,fun q d=>v.obj (h.acc q d) A (fun e=>?_),fun q d=>n (h.slot q d),h.nd,h.AJ,h.bal,h.key,h.IX,h.UN,h.MA,h.UO,h.pf,h.lo,h.wT⟩;have⟨c,t,f,b,z⟩:=y _ e _ (h.acc q d);cases b;exact z rfl
def LG.below{b:Dm}{L:List (Int×Nat×Ac)}(h:LG W l m b cr L J)(a:Bw W W'):LG W' l m b cr L J:=by refine h.jA ?_ (.aF a [] []) sI (fun k c=>by cases c);have⟨f,e,d⟩:=h.lj.ex;exact⟨h.lj.lo,f,bk a e,dI d a⟩
def LG.set{t:Dm}{L:List (Int×Nat×Ac)}(h:LG W l m t cr L J){q:Int×Nat×Ac}(i:q∈L){a:Ac}(z:LJ W' l m cr t.b J')(D:W'.heap[q.2.1]?=ob (cG a) 136)(A:aU [l,q.2.1] T W W')(E:136∉T)(g:a.ms=q.2.2.ms/\a.sl=q.2.2.sl)(n:a.bal<M):LG W' l m t cr (fG L q.2.1 a) J':=by
 have⟨G,B,_⟩:=h.lj.ex;have y:=h.acc q i;have s:∀{v:Type} {w:v->vZ} {r:Nat} {x:List (v×vZ)},cR w W r x->cR w W' r x:=fun{v w r x} C=>by
  obtain⟨o,c,u⟩:∃o c,W.heap[r]?=some (.map o c):=let⟨o,c,F,_⟩:=C;⟨o,c,F⟩
  refine C.same ((A.obj u trivial ?_).tr u.symm);simp only[aAx,aAC,or_false,not_or];exact⟨dS u B (fun e=>by cases e),dS u y (fun e=>by cases e)⟩
 have b:∀p∈fG L q.2.1 a,(p=(q.1,q.2.1,a))\/(p∈L/\p.2.1≠q.2.1):=fun p d=>by
  obtain⟨r,f,rfl⟩:=aAJ.1 d;split
  .rename_i e;have:=oE h.AJ f i e;subst this;exact .inl rfl
  .rename_i j;exact .inr ⟨f,j⟩
 have k:(fG L q.2.1 a).map (·.2.2.ms)=L.map (·.2.2.ms):=by
  unfold fG;rw[aAS];refine aBO fun r f=>?_;simp only[Function.comp];split
  .rename_i e;have:=oE h.AJ f i e;subst this;exact g.1
  .rfl
 refine⟨z,by rw[IZ];exact s h.map,s h.iZ,fun p d=>?_,fun p d=>?_,by rw[lU];exact h.nd,by rw[JA];exact h.AJ,fun p d=>?_,fun p d=>?_,fun p d=>?_,by rw[k];exact h.UN,fun p d=>?_,h.UO,h.pf,fun p d=>?_,h.wT⟩
 .rcases b p d with rfl| ⟨f,j⟩
  .exact D
  .refine A.obj (h.acc p f) E ?_;simp only[aAx,aAC,or_false,not_or];exact⟨dP (h.acc p f) B dC,j⟩
 .rcases b p d with rfl| ⟨f,_⟩
  .show cR wd W' a.ms (slotL a.sl);rw[g.1,g.2];exact s (h.slot q i)
  .exact s (h.slot p f)
 .rcases b p d with rfl| ⟨f,_⟩
  .exact n
  .exact h.bal p f
 .rcases b p d with rfl| ⟨f,_⟩
  .show ∀r∈a.sl,_;rw[g.2];exact h.key q i
  .exact h.key p f
 .rcases b p d with rfl| ⟨f,_⟩
  .show(a.sl.map (·.1)).Nodup;rw[g.2];exact h.IX q i
  .exact h.IX p f
 .rcases b p d with rfl| ⟨f,_⟩
  .show a.ms≠m/\a.ms≠t.b;rw[g.1];exact h.MA q i
  .exact h.MA p f
 .rcases b p d with rfl| ⟨f,_⟩
  .show aB.b0<=q.2.1/\aB.b0<=a.ms;rw[g.1];exact h.lo q i
  .exact h.lo p f
def kH(b:Nat)(x:Nat):vZ:=.iface 212 (.agg #[pq b 0,.int .u64 (aI x 0),.int .u64 (aI x 1),.int .u64 (aI x 2),.int .u64 (aI x 3)])
def uG(b:Nat)(x:Int):vZ:=.iface 229 (.agg #[pq b 0,.int .i64 x])
def mV{z:Dm}{L:List (Int×Nat×Ac)}(h:LG W l m z cr L J){q:Int×Nat×Ac}(B:q∈L)(x:Nat)(H:x<M)(G:J.length<100000000):
  Cq 88 #[pq l 0,pq q.2.1 0,wd x] W fun e A=>e=.returned (.tuple #[])/\LG A l m z cr (fG L q.2.1 {q.2.2 with bal:=x}) (J++[kH q.2.1 q.2.2.bal])/\aU [l,q.2.1] [262] W A:=by
 have g:Bw W (W.alloc (.cells (wq x) 41)):=ba;have u:=h.below g;have I:=aM W (.cells (wq x) 41);have a:=u.acc q B;have r:q.2.1≠l:=by obtain⟨F,v,_⟩:=u.lj.ex;exact dP a v dC
 obtain⟨E,C,c2,c3⟩:=q4 a;have f:=note l m cr z.b J 212 (.agg #[pq q.2.1 0,vU (aI q.2.2.bal 0),vU (aI q.2.2.bal 1),vU (aI q.2.2.bal 2),vU (aI q.2.2.bal 3)]) _ u.lj G;go_enter (qz func88),Tryz.ntmps88;go_wp2_with fail;refine f.mono ?_;rintro e w2 ⟨rfl,j,c⟩;clear E C c2 c3 f;have d:w2.heap[q.2.1]?=_:=c.obj a (by show(136:Nat)∉[262];decide) (by simpa using r);have w:w2.heap[W.heap.size]?=_:=c.obj I (by show(41:Nat)∉[262];decide) (by obtain⟨F,v,_⟩:=h.lj.ex;simp;have:=aG v;exact oM);obtain⟨E,C,c2,c3,N,O,Q,R⟩:=q8 d;obtain⟨P,S,T,K⟩:=q4 w;go_wp2;simp[bodyPost,results,Tryz.results88,go_sem];have i:=fX w2 q.2.1 (vL x 0) (vL x 1) (vL x 2) (vL x 3);have y:=dV (vL x 0) (vL x 1) (vL x 2) (vL x 3) d;have n:=j.jA i dC (fun k b o D=>by
  obtain rfl:k=q.2.1:=by simpa using b
  rw[d] at D;cases D;exact⟨_,_,_,rfl,dC,dC⟩)
 have p:aU [l,q.2.1] [262] W _:=aU.trans (.aF g _ _) (aU.trans (c.mono (fun k _ b=>by simp at b;simp[b]) (fun t s=>s)) (i.mono (fun k _ b=>by simp at b;simp[b]) (fun t s=>by cases s)));exact⟨h.set B (a:={q.2.2 with bal:=x}) n y p dC ⟨rfl,rfl⟩ H,p⟩
section
section
variable (x0 x1 x2 x3 x4 x5 x6 x7:vZ)(W:WR)
def Pb:(Instr.field 136 (.agg #[x0,x1,x2,x3,x4,x5,x6,x7]) 0).run zQ.prog W=.ok (.agg #[x0,x1,x2,x3]) W:=kR
def Pc:(Instr.field 136 (.agg #[x0,x1,x2,x3,x4,x5,x6,x7]) 1).run zQ.prog W=.ok x4 W:=kR
end
section
variable {W:WR}{l m:Nat}{dm:Dm}{cr:Int}{L:List (Int×Nat×Ac)}{J:K3}
def CS(h:LG W l m dm cr L J){q:Int×Nat×Ac}(f:q∈L):
  Cq 86 #[pq l 0,vI q.1] W fun e g=>e=.returned (wd q.2.2.bal)/\Bw W g:=by
 have a:Bw W (W.alloc (.cells wz 41)):=ba;have d:=wU (h.below a) f;have n:=aM W (.cells wz 41);clear h f;go_enter (qz func86),Tryz.ntmps86;go_wp2_with fail;refine d.mono ?_;rintro e w1 ⟨rfl,c⟩;clear d;have t:=fun x0 x1 x2 x3 x4 x5 x6 x7=>Pb x0 x1 x2 x3 x4 x5 x6 x7 w1;have b:=bk c n;have k:=aG b;obtain⟨j,o,p,i,r,s,u,v⟩:=q8 b;unfold cG;go_wp2;simp[bodyPost,results,Tryz.results86,go_sem,j,o,p,i];exact(((((a.trans (c.mono a.size)).setCell sQ5 _).setCell sQ5 _).setCell sQ5 _).setCell sQ5 _)
end
end
def af{v:Dm}{L:List (Int×Nat×Ac)}(h:LG W l m v cr L J){q:Int×Nat×Ac}(g:q∈L)(x:Nat)(E:x<M)(D:J.length<100000000):
  Cq 49 #[pq l 0,vI q.1,wd x] W fun e t=>e=.returned (.tuple #[])/\LG t l m v cr (fG L q.2.1 {q.2.2 with bal:=(q.2.2.bal+M - x) % M}) (J++[kH q.2.1 q.2.2.bal])/\aU [l,q.2.1] [262] W t:=by
 have p:=h.bal q g;have F:(q.2.2.bal+M - x) % M<M:=aBE _ dC;have b:Bw W (W.alloc (.cells (wq x) 41)):=ba;have a:=h.below b;have u:=aM W (.cells (wq x) 41);have f:=pB a g;go_enter (qz func49),Tryz.ntmps49;go_wp2_with fail;refine f.mono ?_;rintro e w1 ⟨rfl,k⟩;rw[<-k] at a u b;clear f k;have d:=a.acc q g;have H:=aG d;obtain⟨z,B,c2,c3⟩:=q4 d;have G:=a.cell0.1;have w:q.2.1<W.heap.size:=aG (h.acc q g);have C:=h.cell0.1;go_wp2_with fail;refine rq (fun V=>V.heap[W.heap.size]?=ob (wq x) 41) u fun c=>?_;refine t5 0 1 2 3 4 c ?_;refine tV 6 (fun _ y=>q4 y) c ?_;refine rA 5 fun K i=>?_;go_simp;refine i.out _ _ c fun c=>?_;clear z B c2 c3;refine rA 7 fun K i=>?_;go_simp;refine(sub q.2.2.bal x p E _).mono ?_;rintro e A ⟨rfl,n⟩;go_wp2_with fail;refine i.out _ _ (bk n c) fun c=>?_;have o:Bw w1 A:=bR.drew.trans n;have r:=a.below o;refine rA 8 fun K i=>?_;go_simp;refine(mV r g ((q.2.2.bal+M - x) % M) F D).mono ?_;rintro e I ⟨rfl,s,j⟩;go_wp2_with fail;refine i.out _ _ (j.obj c (by show(41:Nat)∉[262];decide) (by simp;exact oM)) fun c=>?_;refine dn ?_;show bodyPost zQ.prog Tryz.f49 _ Exit.normal _ _;simp[bodyPost,results,Tryz.results49,go_sem];exact⟨s,aU.trans (.aF (b.trans (o.mono b.size)) _ _) j⟩
def ag{v:Dm}{L:List (Int×Nat×Ac)}(h:LG W l m v cr L J){q:Int×Nat×Ac}(g:q∈L)(x:Nat)(E:x<M)(D:J.length<100000000):
  Cq 94 #[pq l 0,vI q.1,wd x] W fun e t=>e=.returned (.tuple #[])/\LG t l m v cr (fG L q.2.1 {q.2.2 with bal:=(q.2.2.bal+x) % M}) (J++[kH q.2.1 q.2.2.bal])/\aU [l,q.2.1] [262] W t:=by
 have p:=h.bal q g;have F:(q.2.2.bal+x) % M<M:=aBE _ dC;have b:Bw W (W.alloc (.cells (wq x) 41)):=ba;have a:=h.below b;have u:=aM W (.cells (wq x) 41);have f:=pB a g;go_enter (qz func94),Tryz.ntmps94;go_wp2_with fail;refine f.mono ?_;rintro e w1 ⟨rfl,k⟩;rw[<-k] at a u b;clear f k;have d:=a.acc q g;have H:=aG d;obtain⟨z,B,c2,c3⟩:=q4 d;have G:=a.cell0.1;have w:q.2.1<W.heap.size:=aG (h.acc q g);have C:=h.cell0.1;go_wp2_with fail;refine rq (fun V=>V.heap[W.heap.size]?=ob (wq x) 41) u fun c=>?_;refine t5 0 1 2 3 4 c ?_;refine tV 6 (fun _ y=>q4 y) c ?_;refine rA 5 fun K i=>?_;go_simp;refine i.out _ _ c fun c=>?_;clear z B c2 c3;refine rA 7 fun K i=>?_;go_simp;refine(add q.2.2.bal x p E _).mono ?_;rintro e A ⟨rfl,n⟩;go_wp2_with fail;refine i.out _ _ (bk n c) fun c=>?_;have o:Bw w1 A:=bR.drew.trans n;have r:=a.below o;refine rA 8 fun K i=>?_;go_simp;refine(mV r g ((q.2.2.bal+x) % M) F D).mono ?_;rintro e I ⟨rfl,s,j⟩;go_wp2_with fail;refine i.out _ _ (j.obj c (by show(41:Nat)∉[262];decide) (by simp;exact oM)) fun c=>?_;refine dn ?_;show bodyPost zQ.prog Tryz.f94 _ Exit.normal _ _;simp[bodyPost,results,Tryz.results94,go_sem];exact⟨s,aU.trans (.aF (b.trans (o.mono b.size)) _ _) j⟩
def lV{L:List (Int×Nat×Ac)}{q:Int×Nat×Ac}(b:q∈L)(a:Ac):(q.1,q.2.1,a)∈fG L q.2.1 a:=aAJ.2 ⟨q,b,sI⟩
def vR{L:List (Int×Nat×Ac)}{q:Int×Nat×Ac}(d:q∈L)(c:q.2.1≠b)(a:Ac):q∈fG L b a:=aAJ.2 ⟨q,d,by rw[if_neg c]⟩
def Ae{n:Dm}{L:List (Int×Nat×Ac)}(h:LG W l m n cr L J):
  Cq 221 #[pq l 0] W fun e j=>e=.rt (vI (J.length:Int))/\j=W:=by
 have⟨k,c,a⟩:=h.lj.ex;have d:k.n=J.length:=by
  rcases a.2 with⟨b,o⟩| ⟨g,cap,f,b,_⟩
  .simp only[Value.slice.injEq] at b;omega
  .simp only[Value.slice.injEq] at b;exact b.2.1
 have c2:=bq c 2;rw[d] at c2;have i:=aG c;clear h c a d;go_enter (qz func221),ntmps221;go_wp2;go_ret;exact⟨rfl,rfl⟩
def ph{y:Dm}{L:List (Int×Nat×Ac)}(h:LG W l m y cr L J){q:Int×Nat×Ac}(s:q∈L)(H:0<=q.2.2.nonce)(B:q.2.2.nonce<4611686018427387905)(D:J.length<100000000):
  Cq 91 #[pq l 0,vI q.1] W fun e z=>e=rU/\LG z l m y cr (fG L q.2.1 {q.2.2 with nonce:=q.2.2.nonce+1}) (J++[uG q.2.1 q.2.2.nonce])/\aU [l,q.2.1] [262] W z:=by
 have d:=pB h s;have a:=h.acc q s;have F:=aG a;have u:q.2.1≠l:=by have⟨G,C,_⟩:=h.lj.ex;exact dP a C dC
 have c4:=bq a 4;have f:=note l m cr y.b J 229 (.agg #[pq q.2.1 0,vI q.2.2.nonce]) _ h.lj D;have g:=h.bal q s;have E:iw (q.2.2.nonce+1)=q.2.2.nonce+1:=iW;go_enter (qz func91),ntmps91;go_wp2_with fail;apply d.mono;rintro e w1 ⟨rfl,w⟩;subst w;clear d;go_wp2_with fail;apply f.mono;rintro e w2 ⟨rfl,n,j⟩;clear f c4;have b:w2.heap[q.2.1]?=_:=j.obj a (by show(136:Nat)∉[262];decide) (by simpa using u);have c4:=bq b 4;have I:=aQ b 4;go_wp2;simp[bodyPost,results,results91,go_sem];have i:=aU.sC w2 q.2.1 4 (vI (q.2.2.nonce+1));have x:=aO (i:=4) (v:=vI (q.2.2.nonce+1)) b;have p:=n.jA i dC (fun k c o A=>by
  obtain rfl:k=q.2.1:=by simpa using c
  rw[b] at A;cases A;exact⟨_,_,_,rfl,dC,dC⟩)
 have r:aU [l,q.2.1] [262] w1 _:=aU.tr (j.mono (fun k _ c=>by simp at c;simp[c]) (fun t v=>v)) (i.mono (fun k _ c=>by simp at c;simp[c]) (fun t v=>by cases v));exact⟨h.set s (a:={q.2.2 with nonce:=q.2.2.nonce+1}) p x r dC ⟨rfl,rfl⟩ g,r⟩
def pj{k:Dm}{L:List (Int×Nat×Ac)}(h:LG W l m k cr L J){q:Int×Nat×Ac}(f:q∈L):
  Cq 140 #[pq l 0,vI q.1] W fun e i=>e=.rt (.tuple #[.string q.2.2.code,.sl q.2.2.mark.a q.2.2.mark.n q.2.2.mark.c])/\Bw W i:=by
 have d:=wU h f;clear h f;go_enter (qz func140),ntmps140;go_wp2_with fail;apply d.mono;rintro e w1 ⟨rfl,g⟩;clear d;have j:=aM w1 (.ce (cG q.2.2) 136);have b:Bw w1 (w1.nc (cG q.2.2) 136):=ba;unfold cG;go_wp2_with fail;change Code.wp _ _ _ _ (w1.nc (cG q.2.2) 136);refine rq (fun V=>V.heap[w1.heap.size]?=ob (cG q.2.2) 136) j fun a=>?_;refine t2 0 2 a ?_;refine tV 1 (fun _ c=>bq c 5) a ?_;refine tV 3 (fun _ c=>bq c 6) a ?_;refine t2 4 5 a ?_;refine dn ?_;go_wp2;simp[bodyPost,results,results140,go_sem];exact g.tr (b.drew.mono g.size)
def py{z:Dm}{L:List (Int×Nat×Ac)}(h:LG W l m z cr L J){q p:Int×Nat×Ac}(v:q∈L)(w:p∈L)(f:q.2.1≠p.2.1)(x:Nat)(y:x<M)(I:J.length+1<100000000):
  Cq 136 #[pq l 0,vI q.1,vI p.1,wd x] W fun e u=>e=.returned (.tuple #[])/\LG u l m z cr (fG (fG L q.2.1 {q.2.2 with bal:=(q.2.2.bal+M - x) % M}) p.2.1 {p.2.2 with bal:=(p.2.2.bal+x) % M}) (J++[kH q.2.1 q.2.2.bal]++[kH p.2.1 p.2.2.bal])/\aU [l,q.2.1,p.2.1] [262] W u:=by
 have c:Bw W (W.alloc (.cells (wq x) 41)):=ba;have E:=aM W (.cells (wq x) 41);have n:=h.below c;have b:=af n v x y oM;have D:=h.cell0.1;have A:=aG (h.acc q v);have F:=aG (h.acc p w);go_enter (qz func136),Tryz.ntmps136;go_wp2_with fail;refine b.mono ?_;rintro e w1 ⟨rfl,s,a⟩;have i:w1.heap[W.heap.size]?=_:=a.obj E (by show(41:Nat)∉[262];decide) (by simp;exact oM);obtain⟨C,G,H,B⟩:=q4 i;have d:=ag s (vR w (fun e=>f e.symm) _) x y (by simp;exact oM);clear b;go_wp2_with fail;refine d.mono ?_;rintro e w2 ⟨rfl,o,r⟩;clear d C G H B;go_wp2;simp[bodyPost,results,Tryz.results136,go_sem];refine⟨by simpa using o,aU.trans (.aF c _ _) (aU.trans (a.mono (fun k _ j=>by simp at j;simp;exact oM) (fun t g=>g)) (r.mono (fun k _ j=>by simp at j;simp;exact oM) (fun t g=>g)))⟩
def aZ(l:Nat)(lg:SV)(back depth:Int):Ff:=#[pq l 0,.slice lg.a lg.n lg.c,.int .i64 back,.int .i64 depth]
def OA{s:Dm}{L:List (Int×Nat×Ac)}(h:LG W l m s cr L J){q:Int×Nat×Ac}(j:q∈L)(x:Nat)(o:x<M)(r:x<=q.2.2.bal):
  Cq 175 #[pq l 0,vI q.1,wd x] W fun e k=>e=.rt .nilIface/\Bw W k:=by
 have a:Bw W (W.nc (wq x) 41):=ba;have p:=aM W (.ce (wq x) 41);have g:=h.below a;have i:=h.bal q j;have t:decide (q.2.2.bal<x)=false:=by simp;omega
 go_enter (qz func175),ntmps175;go_wp2_with fail;change Code.wp _ _ _ _ (W.nc (wq x) 41);refine rq (fun V=>V.heap[W.heap.size]?=ob (wq x) 41) p fun c=>?_;refine t2 0 1 c ?_;refine tV 3 (fun _ n=>q4 n) c ?_;refine rA 2 fun K f=>?_;go_simp;apply(CS (g.below bR.drew) j).mono;rintro e u ⟨rfl,b⟩;go_wp2_with fail;refine f.out _ _ (bk b c) fun c=>?_;refine rA 4 fun K f=>?_;go_simp;apply(less q.2.2.bal x i o _).mono;rintro e v ⟨rfl,d⟩;go_wp2_with fail;refine f.out _ _ (bk d c) fun c=>?_;refine dn ?_;go_wp2;go_ret;exact⟨rfl,a.tr ((bR.drew.tr (b.tr (d.mono b.size))).mono a.size)⟩
def FN{u:Dm}{L:List (Int×Nat×Ac)}(h:LG W l m u cr L J)(i:W.heap[mc]?=ob (aZ l lg back depth) 165)(k:depth≠64){q:Int×Nat×Ac}(o:q∈L)(x:Nat)(s:x<M)(j:x<=q.2.2.bal):
  Cq 133 #[pq mc 0,vI q.1,wd x] W fun e n=>e=.rt .nilIface/\Bw W n:=by
 have b:Bw W (W.nc (wq x) 41):=ba;have t:=aM W (.ce (wq x) 41);have f:=h.below b;have r:=aG i;have g:=aT (p:=.ce (wq x) 41) i;have c3:=bq i 3;go_enter (qz func133),ntmps133;go_wp2_with fail;clear c3;change Code.wp _ _ _ _ (W.nc (wq x) 41);refine rq (fun V=>V.heap[W.heap.size]?=ob (wq x) 41/\V.heap[mc]?=ob (aZ l lg back depth) 165) ⟨t,g⟩ fun a=>?_;refine t3 0 1 2 a ?_;refine tV 3 (fun _ d=>bq d.2 0) a ?_;refine t1 4 a ?_;refine tV 5 (fun _ d=>q4 (d.1)) a ?_;refine rA 6 fun K p=>?_;go_simp;apply(OA (f.below bR.drew) o x s j).mono;rintro e v ⟨rfl,c⟩;go_wp2_with fail;refine p.out _ _ ⟨bk c a.1,bk c a.2⟩ fun a=>?_;refine t1 7 a ?_;refine dn ?_;go_wp2;go_ret;exact⟨rfl,b.tr ((bR.drew.tr c).mono b.size)⟩
def Af{j:Dm}{L:List (Int×Nat×Ac)}(h:LG W l m j cr L J)(i:W.heap[mc]?=ob (aZ l lg back depth) 165):
  Cq 176 #[pq mc 0] W fun e k=>e=.rt (.agg #[vI (J.length:Int),vI (lg.n:Int),vI back])/\Bw W k:=by
 have c:Bw W (W.nc #[vI 0,vI 0,vI 0] 221):=ba;have p:=aM W (.ce #[vI 0,vI 0,vI 0] 221);have f:=h.below c;have g:=aT (p:=.ce #[vI 0,vI 0,vI 0] 221) i;go_enter (qz func176),ntmps176;go_wp2_with fail;change Code.wp _ _ _ _ (W.nc #[vI 0,vI 0,vI 0] 221);refine rq (fun V=>V.heap[mc]?=ob (aZ l lg back depth) 165/\LG V l m j cr L J) ⟨g,f.below bR.drew⟩ fun a=>?_;refine t3 0 1 2 a ?_;refine tV 3 (fun _ b=>bq b.1 0) a ?_;refine t3 5 6 7 a ?_;refine tV 8 (fun _ b=>bq b.1 1) a ?_;refine t4 9 10 11 12 a ?_;refine tV 13 (fun _ b=>bq b.1 2) a ?_;refine rA 4 fun K d=>?_;go_simp;apply(Ae a.2).mono;rintro e o ⟨rfl,n⟩;subst n;go_wp2_with fail;refine d.out _ _ a fun a=>?_;refine t1 14 a ?_;refine rA 15 fun K d=>?_;go_simp;refine d.out _ _ ⟨aT i,h.below (ba).drew⟩ fun a=>?_;refine dn ?_;go_wp2;simp[bodyPost,results,results176,go_sem];exact (ba).drew
def w4(x:Nat):K3:=[.int .u64 (aI x 0),.int .u64 (aI x 1),.int .u64 (aI x 2),.int .u64 (aI x 3)]
def fw:K4->K3
 | []=>[]
 |x::l=>w4 x++fw l
theorem OB:∀l:K4,(fw l).length=l.length*4
 | []=>rfl
 |x::l=>by simp only[fw,aBs,OB l,aBr,w4,aBN];omega
theorem uH:∀a b:K4,fw (a++b)=fw a++fw b
 | [],_=>rfl
 |x::a,b=>by simp only[aBi,fw,uH a b,aBL]
theorem xf:∀(l:K4) (i:Nat) (x:Nat),l[i]?=some x->∀j,j<4->(fw l)[i*4+j]?=(w4 x)[j]?
 | [],_,_,h,_,_=>by simp at h
 |y::l,0,x,h,j,a=>by simp only[aAP,aAF] at h;subst h;simp only[fw,aCy,aAM];exact aBI (by simpa[w4] using a)
 |y::l,i+1,x,h,j,a=>by simp only[aBb] at h;simp only[fw];rw[aBn (by simp[w4];omega)];rw[show(i+1)*4+j - (w4 y).length=i*4+j by simp[w4];omega];exact xf l i x h j a
def Ag:∃i z,zQ.prog.info? 41=some i/\i.zero=some z/\i.size=4/\i.bytes=32/\z.cells.size=4:=by
 obtain⟨i,d⟩:∃i,zQ.prog.info? 41=some i:=by
  cases h:zQ.prog.info? 41 with
  |none=>have:=congrArg Option.isSome h;rw[show(zQ.prog.info? 41).isSome=true by kernel_rfl] at this;cases this
  |some i=>exact⟨i,rfl⟩
 have e8:(zQ.prog.info? 41).map (·.size)=some 4:=kR
 have a:(zQ.prog.info? 41).map (·.bytes)=some 32:=kR
 have b:((zQ.prog.info? 41).bind (·.zero)).map (·.cells.size)=some 4:=kR
 rw[d] at e8 a b;simp only[aAX,aAF,aCO] at e8 a b;cases c:i.zero with
 |none=>rw[c] at b;cases b
 |some z=>rw[c] at b;exact⟨i,z,d,c,e8,a,by simpa using b⟩
structure FO (W:WR)(sv:SV)(S:K4):Prop where
 own:W.ownsRow aB.b1 41 4 (.slice sv.a sv.n sv.c) S.length (fw S)
 num:S.length<100000
 low:aB.b1<=W.heap.size
def FO.n(h:FO W sv S):sv.n=S.length:=by
 rcases h.own.2 with⟨a,c⟩| ⟨g,cap,b,a,_⟩
 .simp only[Value.slice.injEq] at a;omega
 .simp only[Value.slice.injEq] at a;exact a.2.1
def FO.cells(h:FO W sv S)(b:S[j]?=some x):∃g,sv.a=some ⟨g,0,none⟩/\g<W.heap.size/\W.cell? ⟨g,j*4,none⟩=some (.int .u64 (aI x 0))/\W.cell? ⟨g,j*4+1,none⟩=some (.int .u64 (aI x 1))/\W.cell? ⟨g,j*4+2,none⟩=some (.int .u64 (aI x 2))/\W.cell? ⟨g,j*4+3,none⟩=some (.int .u64 (aI x 3)):=by
 have f:=(List.getElem?_eq_some_iff.1 b).1;rcases h.own.2 with⟨_,o⟩| ⟨g,cap,e,c,_,d,k,_,m,l⟩
 .omega
 .simp only[Value.slice.injEq] at c;have a:∀i,i<4->W.cell? ⟨g,j*4+i,none⟩=(w4 x)[i]?:=fun i n=>by
   rw[aJ d,<-xf S j x b i n,<-l,List.getElem?_take_of_lt oM,Array.getElem?_toList]
  exact⟨g,c.1,aG d,a 0 oM,a 1 oM,a 2 oM,a 3 oM⟩
def FO.below(h:FO W sv S)(a:Bw W W'):FO W' sv S:=⟨dI h.own a,h.num,aAw h.low a.size⟩
def xg(h:FO W sv S)(i:Nat)(f:0<i)(b:S[j]?=some x)(k:S.length=j+i):
  Cq 319 #[.sl sv.a sv.n sv.c,vI (i:Int)] W fun e d=>e=.rt (wd x)/\Bw W d:=by
 have⟨g,c,n,q,p,c2,c3⟩:=h.cells b;have l:=h.num;have a:=h.n;have o:(sv.n:Int) - (i:Int)=(j:Int):=oM
 have m:(j:Int)<(sv.n:Int):=oM
 have h3:iw (j:Int)=(j:Int):=iW;rw[c];clear k f l a h b c;go_enter (qz func319),ntmps319;go_wp2;simp[bodyPost,results,results319,go_sem];exact ba
def Ah(h:FO W sv S)(ho:W.heap[b]?=ob c t)(Z:c[o]?=some (.sl sv.a sv.n sv.c))(Y:t≠41)(x:Nat)(hS:S.length<99999):
  Cq 300 #[pq b o,wd x] W fun e w'=>∃F:SV,e=rU/\w'.heap[b]?=ob (c.setIfInBounds o (.sl F.a F.n F.c)) t/\FO w' F (S++[x])/\aU [b] [41] W w':=by
 have⟨i,z,hi,hz,hs,Q,R⟩:=Ag;have P:Bw W (W.alloc (.ce (wq x) 41)):=ba;have hn:=aM W (.ce (wq x) 41);go_enter (qz func300),ntmps300;go_wp2_with fail;change Code.wp _ _ _ _ (W.alloc (.ce (wq x) 41));refine rq (fun V=>V.heap[W.heap.size]?=ob (wq x) 41) hn fun f=>?_;refine t3 0 1 2 f ?_;refine tV 4 (fun _ hW=>q4 hW) f ?_;obtain⟨J,B⟩:∃J,(W.alloc (.ce (wq x) 41)).drew.heap.size=J:=⟨_,rfl⟩;have y:Bw W (W.alloc (.ce (wq x) 41)).drew:=P.drew;have D:(W.alloc (.ce (wq x) 41)).drew.heap[b]?=_:=bk y ho;have G:=h.below y;have c1:(W.alloc (.cells (wq x) 41)).drew.cell? ⟨b,o,none⟩=some (.slice sv.a sv.n sv.c):=by rw[aJ D o];exact Z
 clear hn P;generalize(W.alloc (.cells (wq x) 41)).drew=A at B y D G c1 f⊢;have u:Bw A (A.alloc (.ce (w4 x).toArray 41)):=ba;have q:=aT (p:=.ce (w4 x).toArray 41) D;have d:=G.below u;have E:∀(j:Nat) (v:vZ),(w4 x)[j]?=some v->(A.alloc (.ce (w4 x).toArray 41)).cA J (0+j)=some v:=fun j v T=>by rw[<-B];exact fW A (w4 x) 41 j v T
 have C:aU [b] [41] W (A.alloc (.ce (w4 x).toArray 41)):=.aF (y.tr (u.mono y.size)) _ _;have c2:(A.alloc (.cells (w4 x).toArray 41)).cell? ⟨b,o,none⟩=some (.slice sv.a sv.n sv.c):=by rw[aJ q o];exact Z
 have a1:=aG D;refine wpAnyH_ready (rs:=[3,5]) kR sI ?_;refine AllReadyH.cons rfl (fun K r=>?_) (AllReadyH.cons rfl (fun K r=>?_) AllReadyH.nil)
 .skip
  go_simp;refine r.out _ _ f fun f=>?_;refine rA 5 fun K r=>?_;go_simp;refine r.out _ (A.alloc (.ce (w4 x).toArray 41)) (bk u f) fun f=>?_;generalize H:A.alloc (.cells (w4 x).toArray 41)=W2 at u q d E C c2 f⊢;refine rA 6 fun K r=>?_;rw[if_pos rI];refine gU W2 _ _ 222 rfl aB.b1 41 i z 4 32 ((aC 222).tr underlying222) hi hz hs Q R oM (.sl sv.a sv.n sv.c) S.length (fw S) rfl d.own ⟨J,0,none⟩ 1 1 (w4 x) rfl rfl (fun j v T=>by rw[Addr.add_mid];exact E j v T) (fun v U=>by simp only[w4,aAx,aAC,or_false] at U;rcases U with rfl|rfl|rfl|rfl<;>rfl) oM sQ9 oM d.low (J+1) (by rw[<-H];simp[B]) ?_;intro g n w l a a0 X s;have N:∀k,(Value.slice sv.a sv.n sv.c).ownBlock=some k->k≠b:=fun k I=>by have⟨L,m⟩:=cL d.own k I;exact dP m q fun e=>Y e.symm
  have p:w.heap[b]?=_:=(a.block b (aG q) (fun e=>N b e.symm rfl)).tr q;have d2:w.cell? ⟨b,o,none⟩=some (.slice sv.a sv.n sv.c):=by rw[aJ p o];exact Z
  have f2:=aQ p o;have O:w.heap[W.heap.size]?=_:=(a.block _ (aG f) (fun e=>aDb _ (iJ h.own _ e.symm))).tr f;refine r.out _ _ O fun f=>?_;refine t1 7 f ?_;refine rA 8 fun K r=>?_;go_simp;refine r.out _ _ (aD f (by have:=aG ho;omega)) fun f=>?_;refine dn ?_;show bodyPost zQ.prog f300 _ Exit.normal _ _;simp[bodyPost,results,results300,go_sem];refine⟨⟨some ⟨g,0,none⟩,S.length+1,n⟩,aO p,⟨?_,by simp;omega,aAw d.low (aAw a.size sI)⟩,?_⟩
  .have M:(S++[x]).length=S.length+1:=sI
   rw[M,uH];have e4:fw [x]=w4 x:=by simp[fw]
   rw[e4];exact dM l fun k I=>heap_setCell_other w ⟨b,o,none⟩ k _ (fun e=>by have⟨L,m⟩:=cL l k I;exact dP m p (fun e=>Y e.symm) e)
  .exact C.tr (((aU.grown a aB.Ad d.own s).mono (fun k _ h=>by cases h) (fun t h=>h)).tr ((aU.setCell w b o _).mono (fun k _ h=>h) (fun t h=>by cases h)))
 .skip
  go_simp;refine r.out _ (A.alloc (.ce (w4 x).toArray 41)) (bk u f) fun f=>?_;clear r K c1;generalize H:A.alloc (.cells (w4 x).toArray 41)=W2 at u q d E C c2 f⊢;refine rA 3 fun K r=>?_;go_simp;refine r.out _ _ f fun f=>?_;refine rA 6 fun K r=>?_;rw[if_pos rI];refine gU W2 _ _ 222 rfl aB.b1 41 i z 4 32 ((aC 222).tr underlying222) hi hz hs Q R oM (.sl sv.a sv.n sv.c) S.length (fw S) rfl d.own ⟨J,0,none⟩ 1 1 (w4 x) rfl rfl (fun j v T=>by rw[Addr.add_mid];exact E j v T) (fun v U=>by simp only[w4,aAx,aAC,or_false] at U;rcases U with rfl|rfl|rfl|rfl<;>rfl) oM sQ9 oM d.low (J+1) (by rw[<-H];simp[B]) ?_;intro g n w l a a0 X s;have N:∀k,(Value.slice sv.a sv.n sv.c).ownBlock=some k->k≠b:=fun k I=>by have⟨L,m⟩:=cL d.own k I;exact dP m q fun e=>Y e.symm
  have p:w.heap[b]?=_:=(a.block b (aG q) (fun e=>N b e.symm rfl)).tr q;have d2:w.cell? ⟨b,o,none⟩=some (.slice sv.a sv.n sv.c):=by rw[aJ p o];exact Z
  have f2:=aQ p o;have O:w.heap[W.heap.size]?=_:=(a.block _ (aG f) (fun e=>aDb _ (iJ h.own _ e.symm))).tr f;refine r.out _ _ O fun f=>?_;refine t1 7 f ?_;refine rA 8 fun K r=>?_;go_simp;refine r.out _ _ (aD f (by have:=aG ho;omega)) fun f=>?_;refine dn ?_;show bodyPost zQ.prog f300 _ Exit.normal _ _;simp[bodyPost,results,results300,go_sem];refine⟨⟨some ⟨g,0,none⟩,S.length+1,n⟩,aO p,⟨?_,by simp;omega,aAw d.low (aAw a.size sI)⟩,?_⟩
  .have M:(S++[x]).length=S.length+1:=sI
   rw[M,uH];have e4:fw [x]=w4 x:=by simp[fw]
   rw[e4];exact dM l fun k I=>heap_setCell_other w ⟨b,o,none⟩ k _ (fun e=>by have⟨L,m⟩:=cL l k I;exact dP m p (fun e=>Y e.symm) e)
  .exact C.tr (((aU.grown a aB.Ad d.own s).mono (fun k _ h=>by cases h) (fun t h=>h)).tr ((aU.setCell w b o _).mono (fun k _ h=>h) (fun t h=>by cases h)))
def aU.dr(h:aU B T w v):aU B T w v.drew:=h.tr (.aF bR.drew _ _)
def QO{T:K4}(h:FO W sv (T++[x]))(M:W.heap[b]?=ob c t)(N:c[o]?=some (.slice sv.a sv.n sv.c))(D:t≠41):
  Cq 296 #[pq b o] W fun e w'=>e=.returned (wd x)/\w'.heap[b]?=ob (c.setIfInBounds o (.slice sv.a T.length sv.c)) t/\FO w' ⟨sv.a,T.length,sv.c⟩ T/\aU [b] [] W w':=by
 have d:(T++[x]).length=T.length+1:=sI
 have z:=h.n;rw[d] at z;have L:=h.num;rw[d] at L;have E:T.length<=sv.c:=by
  rcases h.own.2 with⟨_,h2⟩| ⟨g,cap,R,h1,_,hg,a0,_⟩
  .simp at h2
  .simp only[Value.slice.injEq] at h1;rw[d] at a0;exact oM
 obtain⟨J,F,a5,_⟩:=h.cells (j:=T.length) (x:=x) sI;obtain⟨sa,sn,C⟩:=sv;simp only at F z E N⊢;subst F z;have a6:((T.length+1:Nat):Int) - 1=(T.length:Int):=oM
 have a4:IntKind.i64.wrap (T.length:Int)=(T.length:Int):=iW;have a9:(T.length:Int)<=(C:Int):=oM
 have A:Bw W (W.alloc (.cells wz 41)):=ba;have Z:=aT (p:=.cells wz 41) M;have a7:=aG M;have U:W.cell? ⟨b,o,none⟩=some (.slice (some ⟨J,0,none⟩) (T.length+1) C):=by rw[aJ M o];exact N
 have B:=xg (h.below A) 1 oM (j:=T.length) (x:=x) sI sI;rw[show((1:Nat):Int)=1 from rfl] at B;go_enter (qz func296),Tryz.ntmps296;go_wp2_with fail;refine B.mono ?_;rintro e w1 ⟨rfl,r⟩;clear B U;have l:=bk r Z;have s:Bw W w1:=A.trans (r.mono A.size);have a8:W.heap.size<w1.heap.size:=by have:=r.size;simp at this;exact oM
 have a2:=aG l;have U:w1.cell? ⟨b,o,none⟩=some (.slice (some ⟨J,0,none⟩) (T.length+1) C):=by rw[aJ l o];exact N
 have f1:=aQ l o;have P:=(r.block _ (aG (aM W (.cells wz 41)))).trans (aM W (.cells wz 41));have H:b≠W.heap.size:=oM
 have i:W.heap.size≠b:=oM
 have a3:=aG l;have m:=aT (p:=.cells (wq x) 41) l;have j:=aT (p:=.cells (wq x) 41) P;have y:=aM w1 (.cells (wq x) 41);have v:aU [b] [] W (w1.alloc (.cells (wq x) 41)):=.aF (s.trans ((ba).mono s.size)) _ _;have c3:(w1.alloc (.cells (wq x) 41)).cell? ⟨b,o,none⟩=some (.slice (some ⟨J,0,none⟩) (T.length+1) C):=by rw[aJ m o];exact N
 have f3:=aQ m o;go_wp2_with fail;clear U f1;change Code.wp _ _ _ _ (w1.alloc (.cells (wq x) 41));generalize w1.alloc (.cells (wq x) 41)=W2 at m j y v c3 f3⊢;refine oy (fun V=>V.heap[b]?=ob (c.setIfInBounds o (.slice (some ⟨J,0,none⟩) T.length C)) t/\V.heap[W.heap.size]?=ob wz 41/\V.heap[w1.heap.size]?=ob (wq x) 41/\aU [b] [] W V) ?_;apply Exists.intro;apply And.intro
 .skip
  refine rq (fun V=>True) trivial fun q=>?_;refine t5 0 1 2 4 5 q ?_;refine wpAnyH_ready (rs:=[3,6]) kR sI ?_;refine AllReadyH.cons rfl (fun K n=>?_) (AllReadyH.cons rfl (fun K n=>?_) AllReadyH.nil)
  .skip
   go_simp;refine n.out _ _ trivial fun q=>?_;refine rA 6 fun K n=>?_;go_simp;refine n.out _ _ trivial fun q=>?_;refine t4 7 8 9 10 q ?_;refine rA 11 fun K n=>?_;go_simp;refine n.out _ _ trivial fun q=>?_;refine dn ?_;exact⟨rfl,rfl,aO m,aD j i,aD y oM,(v.trans (aU.setCell _ b o _)).dr⟩
  .skip
   go_simp;refine n.out _ _ trivial fun q=>?_;refine t2 7 8 q ?_;refine rA 3 fun K n=>?_;go_simp;refine n.out _ _ trivial fun q=>?_;refine t2 9 10 q ?_;refine rA 11 fun K n=>?_;go_simp;refine n.out _ _ trivial fun q=>?_;refine dn ?_;exact⟨rfl,rfl,aO m,aD j i,aD y oM,(v.trans (aU.setCell _ b o _)).dr⟩
 .skip
  rintro V ⟨a1,I,Q,f⟩;obtain⟨S,Y,z2,X,y0,y1,y2,y3⟩:=q8 I;obtain⟨x0,x1,x2,x3⟩:=q4 Q;go_wp2;have G:=dV (vL x 0) (vL x 1) (vL x 2) (vL x 3) I;have a:=fX V W.heap.size (vL x 0) (vL x 1) (vL x 2) (vL x 3);generalize(((V.setCell ⟨W.heap.size,0,none⟩ (.int .u64 (aI x 0))).setCell ⟨W.heap.size,1,none⟩ (.int .u64 (aI x 1))).setCell ⟨W.heap.size,2,none⟩ (.int .u64 (aI x 2))).setCell ⟨W.heap.size,3,none⟩ (.int .u64 (aI x 3))=V5 at G a⊢;clear S Y z2 X y0 y1 y2 y3 x0 x1 x2 x3;obtain⟨S,Y,z2,X⟩:=q4 G;simp[bodyPost,results,Tryz.results296,go_sem,S,Y,z2,X];have w:aU [b] [] W V5:=⟨a.os.trans f.os,a.tape.trans f.tape,a.output.trans f.output,aAw f.size a.size,fun k O hn=>?_⟩
  .refine⟨?_,?_,w⟩
   .exact(a.obj a1 (by show t∉[];simp) (by simpa using H))
   .have u:W.ownsRow aB.b1 41 4 (.slice (some ⟨J,0,none⟩) T.length C) T.length (fw T):=FI (m:=1) (by have h0:=h.own;rw[d,uH] at h0;exact h0) (OB T);exact⟨dM u fun k O=>by obtain⟨R,p⟩:=cL u k O;refine(w.obj p (by show(41:Nat)∉[];simp) ?_).trans p.symm;simp only[aAB];exact dP p M (fun e=>D e.symm),oM,aAw h.low w.size⟩
  .rcases f.block k O hn with e| ⟨t,c,c2,D,_⟩
   .refine .inl (Eq.trans ?_ e);rcases a.block k (aAy O f.size) (by simp;exact oM) with e5| ⟨t,c,c2,D,_⟩
    .exact e5
    .cases D
   .cases D
structure fC where
 m:Nat
 bl:Int
 bg:Int
 bb:Int
 text:Lp
 mark:SV
 self:Int
 caller:Int
 val:Nat
 data:SV
 bP:Int
 place:Int
 next:Int
def vT(F:fC)(sv:SV):Ff:=#[pq F.m 0,.int .i64 F.bl,.int .i64 F.bg,.int .i64 F.bb,.string F.text,.slice F.mark.a F.mark.n F.mark.c,.int .i64 F.self,.int .i64 F.caller,.int .u64 (aI F.val 0),.int .u64 (aI F.val 1),.int .u64 (aI F.val 2),.int .u64 (aI F.val 3),.slice F.data.a F.data.n F.data.c,.int .i64 F.bP,.slice sv.a sv.n sv.c,.slice none 0 0,.int .i64 F.place,.int .i64 F.next]
def pz(F:fC)(sv:SV)(x:Int):(vT F sv).setIfInBounds 13 (.int .i64 x)=vT {F with bP:=x} sv:=rfl
def ah(F:fC)(sv:SV)(x:Int):(vT F sv).setIfInBounds 17 (.int .i64 x)=vT {F with next:=x} sv:=rfl
def UQ(f:Nat)(w:WR):Cq 291 #[pq f 0,vB 0] w fun e a=>e=.rt (.tuple #[vI 0,.nilIface])/\a=w:=by go_enter (qz func291),ntmps291;go_wp2;simp[bodyPost,results,results291,go_sem]
def p9(f:Nat)(w:WR):Cq 292 #[pq f 0,vB 0] w fun e a=>e=.rt (vI 0)/\a=w:=by go_enter (qz func292),ntmps292;go_wp2;go_ret;exact⟨rfl,rfl⟩
def qb(w:WR):Cq 293 #[.sl none 0 0,vI 0] w fun e a=>e=.rt (vI 0)/\a=w:=by go_enter (qz func293),ntmps293;go_wp2;go_ret;exact⟨rfl,rfl⟩
def Ai(w:WR):Cq 325 #[vI 0] w fun e a=>e=.rt (vI 0)/\a=w:=by go_enter (qz func325),ntmps325;go_wp2;go_ret;exact⟨rfl,rfl⟩
def qd(g:W.heap[f]?=ob c t)(k:c[o]?=some (.sl none 0 0)):
  Cq 294 #[pq f o,vI 0] W fun e h=>e=rU/\Bw W h:=by
 have i:iw 0=0:=dC
 go_enter (qz func294),ntmps294;go_wp2_with fail;refine rq (fun V=>V.heap[f]?=ob c t) g fun a=>?_;refine t3 0 3 4 a ?_;refine tD 5 10 (.sl none 0 0) (fun V b=>?_) a ?_
 .have l:V.cell? ⟨f,o,none⟩=some (.slice none 0 0):=by rw[aJ b o];exact k
  clear b a;go_simp
 refine t1 6 a ?_;refine rA 1 fun K j=>?_;go_simp;apply(Ai _).mono;rintro e m ⟨rfl,d⟩;subst d;go_wp2_with fail;refine j.out _ _ a fun a=>?_;refine t3 2 7 8 a ?_;refine dn ?_;go_wp2;simp[bodyPost,results,results294,go_sem];exact bR.drew
def ai(s:Lp)(p:Nat)(x:UInt8)(b:s.data[p]?=some x)(W:WR):(Instr.index 9 (.string s) (.int .i64 (p:Int))).run zQ.prog W=.ok (.int .u8 (x.toNat:Int)) W:=by have c:p<s.size:=(aAu.1 b).1;rw[run_index_string W 9 s .i64 (p:Int) ((aC 9).tr underlying9)];have a:s[p]=x:=(aAu.1 b).2;simp[c,a]
def UR{F:fC}(c:W.heap[f]?=ob (vT F sv) 225)(g:(F.text.size:Int)<=F.place):
  Cq 261 #[pq f 0] W fun e d=>e=.rt (vB 0)/\Bw W d:=by
 go_enter (qz func261),ntmps261;go_wp2_with fail;refine rq (fun V=>V.heap[f]?=ob (vT F sv) 225) c fun a=>?_;refine t3 0 1 2 a ?_;refine tV 3 (fun _ b=>bq b 16) a ?_;refine t3 4 5 6 a ?_;refine tV 7 (fun _ b=>bq b 4) a ?_;refine t2 8 9 a ?_;refine dn ?_;go_wp2;go_ret;exact⟨rfl,bR.drew⟩
def aU.xh{l:K4}{u:WR}(h:aU B T w v)(a:aU l T v u)(s:∀k∈l,k∈B\/w.heap.size<=k):aU B T w u:=by
 refine⟨a.os.tr h.os,a.tape.tr h.tape,a.output.tr h.output,aAw h.size a.size,fun k n p=>?_⟩;have b:k∉l:=fun e=>by
  rcases s k e with e|e
  .exact p e
  .omega
 rcases h.block k n p with e| ⟨t,c,m,g,i,j,f⟩
 .rcases a.block k (aAy n h.size) b with o| ⟨t,c,m,g,i,j,f⟩
  .exact .inl (o.tr e)
  .exact .inr ⟨t,c,m,g,i,e.symm.tr j,f⟩
 .rcases a.block k (aAy n h.size) b with o| ⟨x,d,r,q,_,h3,h4⟩
  .exact .inr ⟨t,c,m,g,i,j,o.tr f⟩
  .rw[f] at h3;cases h3;exact .inr ⟨t,c,r,g,i,j,h4⟩
def eL(n:Nat)(h:n<18446744073709551616):aI n 0=(n:Int)/\aI n 1=0/\aI n 2=0/\aI n 3=0:=by unfold aI;refine⟨?_,?_,?_,?_⟩<;>simp<;>omega
def iU(n:Nat)(h:n<18446744073709551616):wd n=.agg #[.int .u64 (n:Int),.int .u64 0,.int .u64 0,.int .u64 0]:=by have⟨c,b,a,h3⟩:=eL n h;unfold wd;rw[c,b,a,h3]
def qg(n:Nat)(h:n<18446744073709551616):n<M:=aAy h dC
def fH(b a nonce:Int)(val:Nat)(c e d:Int):Ff:=#[.int .i64 b,.int .i64 a,.int .i64 nonce,.int .u64 (aI val 0),.int .u64 (aI val 1),.int .u64 (aI val 2),.int .u64 (aI val 3),.int .i64 c,.int .i64 e,.string ⟨#[]⟩,.int .i64 d]
def jH(g p:Nat)(c:g<100000000)(b:p<100000000)(W:WR):
  Cq 50 #[vI (g:Int),vI (p:Int)] W fun e d=>e=.rt (wd (g*p))/\Bw W d:=by
 have a:g*p<10000000000000000:=aAy (aBJ c b) dC;rw[iU (g*p) oM];have f:IntKind.u64.wrap (g:Int)=(g:Int):=IntWalk.u64_in _ oM;have i:IntKind.u64.wrap (p:Int)=(p:Int):=IntWalk.u64_in _ oM;have h:IntKind.u64.wrap ((g:Int)*(p:Int))=((g*p:Nat):Int):=by rw[<-aDk];exact IntWalk.u64_in _ oM
 clear c b a;go_enter (qz func50),ntmps50;go_wp2;simp[bodyPost,results,results50,go_sem];exact ba
def sB(b a nonce:Int)(val:Nat)(c g f:Int)(h:a≠0)(W:WR):
  Cq 84 #[.agg (fH b a nonce val c g f)] W fun e d=>e=.rt (vI 21000)/\Bw W d:=by
 unfold fH;go_enter (qz func84),ntmps84;go_wp2_with fail;refine wp_loop_rounds 1 ?_;rw[rounds_succ];go_wp2;go_ret;exact⟨rfl,ba⟩
def JB(g:Int)(s:Lp)(W:WR):
  Cq 366 #[.agg #[vI g,.string s]] W fun e a=>e=.rt (vI g)/\Bw W a:=by
 go_enter (qz func366),ntmps366;go_wp2;go_ret;exact⟨rfl,ba⟩
def wP(x:Nat)(a:x<M)(W:WR):(Op.equalIn 10000 41 (.agg (wq x)) (.agg wz)).run zQ.prog W=.ok (decide (x=0)) W:=Lx x a W
def CU(a b c d:vZ)(W:WR):(Instr.index 41 (.agg #[a,b,c,d]) (.int .i64 0)).run zQ.prog W=.ok a W:=by have e:(Go.sizeOf 39).run zQ.prog W=.ok 1 W:=(aN 39 W).tr (sizeOf39 W);simp[Instr.index,run_underlying ((aC 41).tr underlying41),asIntOf,go_sem,e]
def OF{s:Dm}{L:List (Int×Nat×Ac)}(h:LG W l m s cr L J){q:Int×Nat×Ac}(n:q∈L)(x:Nat)(v:x<M):
  Calls zQ.prog 369 #[.agg #[pq q.2.1 0,.int .u64 (aI x 0),.int .u64 (aI x 1),.int .u64 (aI x 2),.int .u64 (aI x 3)],pq l 0] W fun e j=>e=.returned (.tuple #[])/\LG j l m s cr (fG L q.2.1 {q.2.2 with bal:=x}) J/\aU [q.2.1] [] W j:=by
 have b:Below W.heap.size W (W.alloc (.cells #[pq q.2.1 0,.int .u64 (aI x 0),.int .u64 (aI x 1),.int .u64 (aI x 2),.int .u64 (aI x 3)] 212)):=ba;have p:=h.below b;have a:=p.acc q n;obtain⟨C,z,c2,c3,w,y,A,B⟩:=q8 a;go_enter (qz func369),Tryz.ntmps369;go_wp2;simp[bodyPost,results,Tryz.results369,go_sem];have c:=fX (W.alloc (.cells #[pq q.2.1 0,.int .u64 (aI x 0),.int .u64 (aI x 1),.int .u64 (aI x 2),.int .u64 (aI x 3)] 212)) q.2.1 (.int .u64 (aI x 0)) (.int .u64 (aI x 1)) (.int .u64 (aI x 2)) (.int .u64 (aI x 3));have i:=dV (.int .u64 (aI x 0)) (.int .u64 (aI x 1)) (.int .u64 (aI x 2)) (.int .u64 (aI x 3)) a;have d:=p.lj.jA c dC (fun k g o r=>by
  obtain rfl:k=q.2.1:=by simpa using g
  rw[a] at r;cases r;exact⟨_,_,_,rfl,dC,dC⟩)
 have f:aU [q.2.1] [] W _:=aU.trans (.aF b _ _) c;exact⟨h.set n (a:={q.2.2 with bal:=x}) d i (f.mono (fun k _ g=>by simp at g;simp[g]) (fun t u=>u)) sI ⟨rfl,rfl⟩ v,f⟩
def FY{u:Dm}{L:List (Int×Nat×Ac)}(h:LG W l m u cr L J){q:Int×Nat×Ac}(j:q∈L)(x:Int):
  Cq 373 #[.agg #[pq q.2.1 0,vI x],pq l 0] W fun e p=>e=rU/\LG p l m u cr (fG L q.2.1 {q.2.2 with nonce:=x}) J/\aU [q.2.1] [] W p:=by
 have b:Bw W (W.nc #[pq q.2.1 0,vI x] 229):=ba;have r:=h.below b;have a:=r.acc q j;have f:=h.bal q j;have c4:=bq a 4;have w:=aQ a 4;go_enter (qz func373),ntmps373;go_wp2;simp[bodyPost,results,results373,go_sem];have c:=aU.sC (W.nc #[pq q.2.1 0,vI x] 229) q.2.1 4 (vI x);have n:=aO (i:=4) (v:=vI x) a;have d:=r.lj.jA c dC (fun k i o s=>by
  obtain rfl:k=q.2.1:=by simpa using i
  rw[a] at s;cases s;exact⟨_,_,_,rfl,dC,dC⟩)
 have g:aU [q.2.1] [] W _:=aU.tr (.aF b _ _) c;exact⟨h.set j (a:={q.2.2 with nonce:=x}) d n (g.mono (fun k _ i=>by simp at i;simp[i]) (fun t v=>v)) sI ⟨rfl,rfl⟩ f,g⟩
def fa(V:WR):(convert 31 9 (.slice none 0 0)).run zQ.prog V=.ok (.string ⟨#[]⟩) V:=kR
def r6{F:fC}(c:W.heap[f]?=ob (vT F sv) 225):
  Cq 295 #[pq f 0,.sl none 0 0] W fun e d=>e=.rt (.iface 174 (.agg #[vI F.bP,.string ⟨#[]⟩]))/\Bw W d:=by
 go_enter (qz func295),ntmps295;go_wp2_with fail;refine rq (fun V=>V.heap[f]?=ob (vT F sv) 225) c fun a=>?_;refine t3 0 1 2 a ?_;refine tV 3 (fun _ b=>bq b 13) a ?_;refine t1 4 a ?_;refine tD 5 10 (.string ⟨#[]⟩) (fun V b=>?_) a ?_
 .have g:=fa V;clear b a;go_simp
 refine t3 6 7 8 a ?_;refine dn ?_;go_wp2;go_ret;exact⟨rfl,bR.drew⟩
end
end Go.Mark
