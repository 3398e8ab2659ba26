import Derived.Test.YtbephahokhnccaaGreatDoorJ6
set_option linter.all false
set_option maxRecDepth 100000
set_option maxHeartbeats 8000000
namespace Go.Mark
open Go.RowKit Go.Proofs Go.Proofs.Tryz
variable{a:Act}{listed:Array Bool}{ops:DQ}{c d z:Ff}{L:Bool->Array Bool}{v:Int}{rest:List Oper}{n R iA f g D o p N K k1 k2 j k iB n0:Nat}{oA oB Z:Obj}{x y:Operand}{P:K5}{dA dB:Tmp}{t' t:Fh}{T:vZ->vZ->Act}{w W0 W b W' w':WR}
section
variable [aB]
attribute [local go_sem] wd
abbrev U(v:Int):Prop:=0<=v/\v<18446744073709551616
def bT(n:Int):U (IntKind.u64.wrap n):=by unfold U;rw[IntKind.wrap_u64];omega
def aj(a b:Int):U (bits .or .u64 a b):=bT _
def P4(c:Ff):Prop:=c.size=4/\∀j,j<4->∃v,c[j]?=some (.int .u64 v)/\U v
def P4.set(h:P4 c)(q:Nat)(b:U v):P4 (c.setIfInBounds q (vU v)):=by
 refine⟨by simpa using h.1,fun j a=>?_⟩;by_cases e:q=j
 .subst e;exact⟨v,by rw[aBm (by rw[h.1];exact a)],b⟩
 .rw[aAH e];exact h.2 j a
def P4.wd(h:P4 c):∃x,x<M/\c[0]?=some (.int .u64 (aI x 0))/\c[1]?=some (.int .u64 (aI x 1))/\c[2]?=some (.int .u64 (aI x 2))/\c[3]?=some (.int .u64 (aI x 3)):=by have⟨v0,e,b⟩:=h.2 0 dC;have⟨v1,f,d⟩:=h.2 1 dC;have⟨j,k,a⟩:=h.2 2 dC;have⟨i,g,u3⟩:=h.2 3 dC;obtain⟨x,l,rfl,rfl,rfl,rfl⟩:=IS v0 v1 j i b.1 d.1 a.1 u3.1 b.2 d.2 a.2 u3.2;exact⟨x,l,e,f,k,g⟩
def JC(a:Nat)(w:WR):
  Calls zQ.prog 207 #[wd a] w fun e w'=>∃k:Nat,k<=4/\(k=0\/aI a (k - 1)≠0)/\e=.returned (.int .i64 (k:Int))/\Below w.heap.size w w':=by
 have c:Below w.heap.size w (w.alloc (.cells (wq a) 41)):=ba;have d:=aM w (.cells (wq a) 41);go_enter (qz func207),Tryz.ntmps207;go_wp2_with fail
 change Code.wp _ _ _ _ (w.alloc (.cells (wq a) 41));generalize(w.alloc (.cells (wq a) 41))=V at c d⊢;go_loopw [3] (fun i W=>(∃k:Nat,i=.int .i64 (k:Int)/\k<=4)/\W=V) (fun i _=>(Go.RowKit.intOf i).toNat)
 case atStart=>exact⟨⟨4,rfl,Nat.le_refl _⟩,rfl⟩
 case round=>
  obtain⟨⟨k,rfl,g⟩,rfl⟩:=hrel;obtain⟨l,h,c2,c3⟩:=q4 d;have j:=aG d;have f:k=0\/k=1\/k=2\/k=3\/k=4:=oM
  rcases f with rfl|rfl|rfl|rfl|rfl
  .go_wp2;go_ret;exact⟨0,dC,.inl rfl,rfl,c⟩
  .by_cases b:aI a 0=0
   .go_wp2;exact⟨⟨⟨0,rfl,dC⟩,trivial⟩,by simp[Go.RowKit.intOf]⟩
   .go_wp2;go_ret;exact⟨1,dC,.inr b,rfl,c⟩
  .by_cases b:aI a 1=0
   .go_wp2;exact⟨⟨⟨1,rfl,dC⟩,trivial⟩,by simp[Go.RowKit.intOf]⟩
   .go_wp2;go_ret;exact⟨2,dC,.inr b,rfl,c⟩
  .by_cases b:aI a 2=0
   .go_wp2;exact⟨⟨⟨2,rfl,dC⟩,trivial⟩,by simp[Go.RowKit.intOf]⟩
   .go_wp2;go_ret;exact⟨3,dC,.inr b,rfl,c⟩
  .by_cases b:aI a 3=0
   .go_wp2;exact⟨⟨⟨3,rfl,dC⟩,trivial⟩,by simp[Go.RowKit.intOf]⟩
   .go_wp2;go_ret;exact⟨4,dC,.inr b,rfl,c⟩
def UC(n:Nat)(c:Ff):Prop:=c.size=n/\∀j,j<n->∃v,c[j]?=some (.int .u64 v)/\U v
def UC.set(h:UC n c)(q:Nat)(b:U v):UC n (c.setIfInBounds q (vU v)):=by
 refine⟨by simpa using h.1,fun j a=>?_⟩;by_cases e:q=j
 .subst e;exact⟨v,by rw[aBm (by rw[h.1];exact a)],b⟩
 .rw[aAH e];exact h.2 j a
def UC.wd(h:UC 4 c):∃x,x<M/\Value.agg c=wd x:=by
 have⟨x,g,b,d,f,e⟩:=P4.wd (c:=c) h;refine⟨x,g,?_⟩;unfold Go.Mark.wd;congr 1;refine aCz fun i=>?_;have:i=0\/i=1\/i=2\/i=3\/4<=i:=oM
 rcases this with rfl|rfl|rfl|rfl|a
 .rw[b];rfl
 .rw[d];rfl
 .rw[f];rfl
 .rw[e];rfl
 .rw[aBh (by rw[h.1];exact a),aBh (by simpa using a)]
def bH(a:Nat):UC 4 (wq a):=by
 refine⟨rfl,fun j b=>?_⟩;have:j=0\/j=1\/j=2\/j=3:=oM
 rcases this with rfl|rfl|rfl|rfl<;>exact⟨_,rfl,bJ a _,bN a _⟩
def pv(c:Ff)(j:Nat):Nat:=match c[j]? with|some (.int _ v)=>v.toNat|_=>0
def UC.pv(h:UC n c)(a:j<n):c[j]?=some (.int .u64 (pv c j:Int))/\pv c j<18446744073709551616:=by have⟨v,e,u⟩:=h.2 j a;unfold Go.Mark.pv;rw[e];simp only;unfold U at u;refine⟨?_,oM⟩;rw[aBG u.1]
def oF(c:Ff)(q j:Nat)(v:Int)(hq:q<c.size):pv (c.setIfInBounds q (.int .u64 v)) j=if q=j then v.toNat else pv c j:=by
 unfold pv;by_cases e:q=j
 .subst e;rw[aBm hq,if_pos rfl]
 .rw[aAH e,if_neg e]
def vl(f:Nat->Nat):Nat->Nat
 |0=>0
 |k+1=>vl f k+f k*18446744073709551616 ^ k
def xi(f:Nat->Nat)(k:Nat)(h:∀j,j<k->f j<18446744073709551616):vl f k<18446744073709551616 ^ k:=by
 induction k with
 |zero=>simp[vl]
 |succ k a=>
  have d:=a fun j b=>h j oM;have c:=aCe (18446744073709551616 ^ k) (show f k<=18446744073709551615 by have:=h k oM;omega);show vl f k+f k*18446744073709551616 ^ k<_;rw[aCj];omega
def sD{f g:Nat->Nat}(k:Nat)(h:∀j,j<k->f j=g j):vl f k=vl g k:=by
 induction k with
 |zero=>rfl
 |succ k a=>simp only[vl,a fun j b=>h j oM,h k oM]
def Ak{f:Nat->Nat}(b:j<k)(h:f j≠0):0<vl f k:=by
 induction k with
 |zero=>omega
 |succ k a=>
  show 0<vl f k+f k*18446744073709551616 ^ k;by_cases e:j=k
  .subst e;have:=Nat.mul_pos (Nat.pos_of_ne_zero h) (Nat.pow_pos (n:=j) (show 0<18446744073709551616 by decide));omega
  .have:=a oM;omega
def Al{f g h:Nat->Nat}{c:Nat}(e:vl f k+c*18446744073709551616 ^ k=vl g k+vl h k)(a:f k=(g k+h k+c) % 18446744073709551616):
  vl f (k+1)+(g k+h k+c) / 18446744073709551616*18446744073709551616 ^ (k+1)=vl g (k+1)+vl h (k+1):=by
 simp only[vl,a,aCj];have q:=aDj (g k+h k+c) 18446744073709551616;generalize 18446744073709551616 ^ k=P at*;generalize(g k+h k+c) / 18446744073709551616=A at*;generalize(g k+h k+c) % 18446744073709551616=B at*;have r:(18446744073709551616*A+B)*P=(g k+h k+c)*P:=by rw[q]
 rw[aCf,aCf,aCf] at r;have r2:A*(P*18446744073709551616)=18446744073709551616*A*P:=by rw[aCB P,<-aCM,aCB A]
 rw[r2];omega
structure Bt (R:Nat)(W W':WR):Prop where
 low:Below R W W'
 Fw:∀q,q<W.heap.size->q≠R->W'.heap[q]?=W.heap[q]?
def Bt.refl(R:Nat)(W:WR):Bt R W W:=⟨Below.refl _ _,fun _ _ _=>rfl⟩
def Bt.trans{a c:WR}(h:Bt R a b)(k:Bt R b c):Bt R a c:=⟨h.low.tr k.low,fun q d e=>(k.Fw q (aAy d h.low.size) e).tr (h.Fw q d e)⟩
def Bt.tr{a c:WR}(h:Bt R a b)(k:Bt R b c):Bt R a c:=Bt.trans h k
def Bt.drew{a:WR}(h:Bt R a b):Bt R a b.drew:=⟨h.low.drew,h.Fw⟩
def Bt.set{a:WR}(h:Bt R a b)(i:Nat)(v:vZ):Bt R a (b.setCell ⟨R,i,none⟩ v):=⟨h.low.sC lR _,fun q d c=>(Below.heap_setCell b ⟨R,i,none⟩ v q c).tr (h.Fw q d c)⟩
def Bt.of(h:Bw W W')(b:R<W.heap.size):Bt R W W':=⟨h.mono (aBQ b),fun q a _=>h.block q a⟩
def Bt.blk(h:Bt R W W'){q:Nat}{o:Obj}(e:W.heap[q]?=some o)(a:q≠R):W'.heap[q]?=some o:=(h.Fw q (aG e) a).tr e
def Bt.below(h:Bt R W W'){B:Nat}(a:B<=R){V:WR}(k:Below B V W):Below B V W':=k.tr (h.low.mono a)
end
def ptr(p:Nat):vZ:=pq p 0
def gB(a:Act):List (Tmp×vZ)->Act
 | []=>a
 |p::l=>gB (a.put (some p.1) p.2) l
def fu(f:Nat):Bool->Bool->Nat
 |true,true=>f
 |true,false=>f+1
 |false,true=>f+1
 |false,false=>f+2
def rd(c:K4)(i j:Nat):Bool->Bool->K4
 |true,true=>c
 |true,false=>c++[j]
 |false,true=>c++[i]
 |false,false=>c++[i,j]
def pP(W0:WR)(Z:WR->Nat->Prop)(w:WR)(x:vZ):Prop:=∃p,x=ptr p/\W0.heap.size<=p/\p<w.heap.size/\Z w p
def gC(W:WR)(o:Obj):Bw W (W.alloc o):=ba
def gD(h:Bw W0 W)(a:Bw W w'):Bw W0 w':=h.tr (a.mono h.size)
structure Rg (P:K5)(ops:DQ)(Q:Fg)(ZA ZB:WR->Nat->Prop)(iA iB:Nat)(dA dB:Tmp)(oA oB:Obj):Prop where
 wA:∀a w (K:Fi),K (a.put (some dA) (ptr w.heap.size)) (w.alloc oA)->wpOp P ops Q iA K a w
 wB:∀a w (K:Fi),K (a.put (some dB) (ptr w.heap.size)) (w.alloc oB)->wpOp P ops Q iB K a w
 nA:∀w:WR,ZA (w.alloc oA) w.heap.size
 nB:∀w:WR,ZB (w.alloc oB) w.heap.size
 kA:∀(w w':WR) p,p<w.heap.size->Below w.heap.size w w'->ZA w p->ZA w' p
 kB:∀(w w':WR) p,p<w.heap.size->Below w.heap.size w w'->ZB w p->ZB w' p
def Nd(P:K5)(ops:DQ)(Q:Fg)(W0:WR)(c d:WR->Nat->Prop)(f:Nat)(L:Bool->Bool->Array Bool)(T:vZ->vZ->Act):Prop:=
 ∀a b x y w,Below W0.heap.size W0 w->(a=true->pP W0 c w x)->(b=true->pP W0 d w y)->(a=true->b=true->x≠y)->
  wpAnyH P .any ops Q (fun W=>Below W0.heap.size W0 W) (fu f a b) (L a b) (T x y) w
def pP.eT{Z:WR->Nat->Prop}(k:∀(w w':WR) p,p<w.heap.size->Bw w w'->Z w p->Z w' p){x:vZ}(h:pP W0 Z w x)(b:Bw w w'):pP W0 Z w' x:=by have⟨p,e,c,a,h3⟩:=h;exact⟨p,e,c,aAy a b.size,k _ _ _ a b h3⟩
def pP.ne{Z:WR->Nat->Prop}{x:vZ}(h:pP W0 Z w x):x≠ptr w.heap.size:=by obtain⟨p,rfl,b,a,h3⟩:=h;intro e;simp only[ptr,Value.pointer.injEq,aAF,Addr.mk.injEq,and_true] at e;omega
def pP.new{Z:WR->Nat->Prop}{o:Obj}(h:Bw W0 w)(n:Z (w.alloc o) w.heap.size):pP W0 Z (w.alloc o) (ptr w.heap.size):=⟨_,rfl,h.size,sI,n⟩
def rj{Q:Fg}{o m:WR->Nat->Prop}{L:Bool->Bool->Array Bool}{cs:K4}(R:Rg P ops Q o m iA iB dA dB oA oB)(q:∀g j,Region.ready .any ops (L g j)=rd cs iA iB g j)(s:∀x y v,(T x y).put (some dA) v=T v y)(t:∀x y v,(T x y).put (some dB) v=T x v)(u:∀b,(L false b).setIfInBounds iA true=L true b)(z:∀b,(L b false).setIfInBounds iB true=L b true)(r:∀c∈cs,∀g j x y w,Bw W0 w->(g=true->pP W0 o w x)->(j=true->pP W0 m w y)->(g=true->j=true->x≠y)->
   wpOp P ops Q c (fun A w'=>Bw W0 w'/\wpAnyH P .any ops Q (fun W=>Bw W0 W) (fu f g j) ((L g j).setIfInBounds c true) A w') (T x y) w)(p:∀x y w,Bw W0 w->pP W0 o w x->pP W0 m w y->x≠y->wpAnyH P .any ops Q (fun W=>Bw W0 W) (f+1) (L true true) (T x y) w):
  Nd P ops Q W0 o m (f+1) L T:=by
 have k:∀x y w,Bw W0 w->pP W0 o w x->wpAnyH P .any ops Q (fun W=>Bw W0 W) (f+2) (L true false) (T x y) w:=by
  intro x y w h a;refine wpAnyH_all (rs:=cs++[iB]) (q true false) sI fun i d=>?_;rcases aAL.1 d with d|d
  .exact r i d true false x y w h (fun _=>a) (fun e=>nomatch e) fun _ e=>nomatch e
  .obtain rfl:=aAB.1 d;refine R.wB _ _ _ ⟨gD h (gC _ _),?_⟩;rw[z,t];exact p _ _ _ (gD h (gC _ _)) (a.eT R.kA (gC _ _)) (pP.new h (R.nB w)) a.ne
 have l:∀x y w,Bw W0 w->pP W0 m w y->wpAnyH P .any ops Q (fun W=>Bw W0 W) (f+2) (L false true) (T x y) w:=by
  intro x y w h b;refine wpAnyH_all (rs:=cs++[iA]) (q false true) sI fun i d=>?_;rcases aAL.1 d with d|d
  .exact r i d false true x y w h (fun e=>nomatch e) (fun _=>b) fun e=>nomatch e
  .obtain rfl:=aAB.1 d;refine R.wA _ _ _ ⟨gD h (gC _ _),?_⟩;rw[u,s];exact p _ _ _ (gD h (gC _ _)) (pP.new h (R.nA w)) (b.eT R.kB (gC _ _)) (Ne.symm b.ne)
 intro g j x y w h a b n;cases g<;>cases j
 .refine wpAnyH_all (rs:=cs++[iA,iB]) (q false false) sI fun i d=>?_;rcases aAL.1 d with d|d
  .exact r i d false false x y w h (fun e=>nomatch e) (fun e=>nomatch e) fun e=>nomatch e
  .simp only[aAx,aAC,or_false] at d;rcases d with rfl|rfl
   .refine R.wA _ _ _ ⟨gD h (gC _ _),?_⟩;rw[u,s];exact k _ _ _ (gD h (gC _ _)) (pP.new h (R.nA w))
   .refine R.wB _ _ _ ⟨gD h (gC _ _),?_⟩;rw[z,t];exact l _ _ _ (gD h (gC _ _)) (pP.new h (R.nB w))
 .exact l x y w h (b rfl)
 .exact k x y w h (a rfl)
 .exact p x y w h (a rfl) (b rfl) (n rfl rfl)
def Nd.step{P:K5}{ops:DQ}{Q:Fg}{W0:WR}{p:WR->Nat->Prop}{m:WR->Nat->Prop}{iA iB:Nat}{dA dB:Tmp}{oA oB:Obj}{f f':Nat}{L L':Bool->Bool->Array Bool}{T:vZ->vZ->Act}{c:Nat}{o:Oper}{d:Tmp}{φ:vZ->Prop}{n:Nat}{l:vZ->List (Tmp×vZ)}(R:Rg P ops Q p m iA iB dA dB oA oB)(C:ops[c]?=some o)(B:f=f'+n+1)(r:∀g j,Region.ready .any ops (L g j)=rd [c] iA iB g j)(t:∀x y v,(T x y).put (some dA) v=T v y)(D:∀x y v,(T x y).put (some dB) v=T x v)(F:∀b,(L false b).setIfInBounds iA true=L true b)(I:∀b,(L b false).setIfInBounds iB true=L b true)(G:∀x y w (K:Fi),Bw W0 w->Shut (∀v w',φ v->Bw w w'->K ((T x y).put (some d) v) w')->if Region.wanted o (yielded ops (T x y).tmps)=true then Oper.wp P o (T x y) w K Q else K ((T x y).put o.dst ud) w)(tk:∀v,φ v->∀g j x y w,Bw W0 w->Shut (wpAnyH P .any ops Q (fun W=>Bw W0 W) (fu f' g j) (L' g j) (gB ((T x y).put (some d) v) (l v)) w)->wpAnyH P .any ops Q (fun W=>Bw W0 W) (fu f' g j+n) ((L g j).setIfInBounds c true) ((T x y).put (some d) v) w)(E:∀v,φ v->Nd P ops Q W0 p m f' L' (fun x y=>gB ((T x y).put (some d) v) (l v))):Nd P ops Q W0 p m f L T:=by
 subst B;have z:∀g j,fu (f'+n) g j=fu f' g j+n:=by intro a b;cases a<;>cases b<;>simp[fu]<;>omega
 have H:∀g j x y w,Bw W0 w->(g=true->pP W0 p w x)->(j=true->pP W0 m w y)->(g=true->j=true->x≠y)->
   wpOp P ops Q c (fun u w'=>Bw W0 w'/\wpAnyH P .any ops Q (fun W=>Bw W0 W) (fu (f'+n) g j) ((L g j).setIfInBounds c true) u w') (T x y) w:=by
  intro g j x y w h a b n;refine wpOp_step C fun J A=>G x y w J h (fun v w' s k=>A _ _ ⟨gD h k,?_⟩);rw[z];exact tk v s g j x y w' (gD h k) (E v s g j x y w' (gD h k) (fun e=>(a e).eT R.kA k) (fun e=>(b e).eT R.kB k) n)
 refine rj R r t D F I (cs:=[c]) (fun i q=>?_) fun x y w h a b n=>?_
 .obtain rfl:=aAB.1 q;exact H
 .refine wpAnyH_all (rs:=[c]) (r true true) sI fun i q=>?_;obtain rfl:=aAB.1 q;exact H true true x y w h (fun _=>a) (fun _=>b) fun _ _=>n
def Nd.last{Q:Fg}{m l:WR->Nat->Prop}{L:Bool->Bool->Array Bool}(R:Rg P ops Q m l iA iB dA dB oA oB)(t:Region.ready .any ops (L false false)=[iA,iB])(k:Region.ready .any ops (L false true)=[iA])(g:Region.ready .any ops (L true false)=[iB])(o:∀x y v,(T x y).put (some dA) v=T v y)(r:∀x y v,(T x y).put (some dB) v=T x v)(s:∀b,(L false b).setIfInBounds iA true=L true b)(u:∀b,(L b false).setIfInBounds iB true=L b true)(d:∀p q w,Bw W0 w->W0.heap.size<=p->p<w.heap.size->W0.heap.size<=q->q<w.heap.size->p≠q->m w p->l w q->wpAnyH P .any ops Q (fun W=>Bw W0 W) (f+1) (L true true) (T (ptr p) (ptr q)) w):
  Nd P ops Q W0 m l (f+1) L T:=by
 have d:∀x y w,Bw W0 w->pP W0 m w x->pP W0 l w y->x≠y->wpAnyH P .any ops Q (fun W=>Bw W0 W) (f+1) (L true true) (T x y) w:=by rintro x y w h ⟨p,rfl,G,H,E⟩ ⟨q,rfl,B,F,C⟩ n;exact d p q w h G H B F (fun e=>n (by rw[e])) E C
 intro D I x y w h a b n;cases D<;>cases I
 .refine wpAnyH_all (rs:=[iA,iB]) t sI fun i c=>?_;simp only[aAx,aAC,or_false] at c;rcases c with rfl|rfl
  .refine R.wA _ _ _ ⟨gD h (gC _ _),?_⟩;rw[s,o];refine wpAnyH_all (rs:=[iB]) g sI fun i c=>?_;obtain rfl:=aAB.1 c;refine R.wB _ _ _ ⟨gD (gD h (gC _ _)) (gC _ _),?_⟩;rw[u,r];have j:=gD h (gC w oA);have A:=pP.new h (R.nA w);exact d _ _ _ (gD j (gC _ _)) (A.eT R.kA (gC _ _)) (pP.new j (R.nB _)) A.ne
  .refine R.wB _ _ _ ⟨gD h (gC _ _),?_⟩;rw[u,r];refine wpAnyH_all (rs:=[iA]) k sI fun i c=>?_;obtain rfl:=aAB.1 c;refine R.wA _ _ _ ⟨gD (gD h (gC _ _)) (gC _ _),?_⟩;rw[s,o];have j:=gD h (gC w oB);have z:=pP.new h (R.nB w);exact d _ _ _ (gD j (gC _ _)) (pP.new j (R.nA _)) (z.eT R.kB (gC _ _)) (Ne.symm z.ne)
 .refine wpAnyH_all (rs:=[iA]) k sI fun i c=>?_;obtain rfl:=aAB.1 c;refine R.wA _ _ _ ⟨gD h (gC _ _),?_⟩;rw[s,o];exact d _ _ _ (gD h (gC _ _)) (pP.new h (R.nA w)) ((b rfl).eT R.kB (gC _ _)) (Ne.symm (b rfl).ne)
 .refine wpAnyH_all (rs:=[iB]) g sI fun i c=>?_;obtain rfl:=aAB.1 c;refine R.wB _ _ _ ⟨gD h (gC _ _),?_⟩;rw[u,r];exact d _ _ _ (gD h (gC _ _)) ((a rfl).eT R.kA (gC _ _)) (pP.new h (R.nB w)) (a rfl).ne
 .exact d _ _ _ h (a rfl) (b rfl) (n rfl rfl)
def Nd.start{Q:Fg}{ZA ZB:WR->Nat->Prop}{L:Bool->Bool->Array Bool}(R:Rg P ops Q ZA ZB iA iB dA dB oA oB)(c:L false false=listed)(x y:vZ)(d:(a.put (some dA) x).put (some dB) y=a)(h:Bw W0 w)(b:Rg P ops Q ZA ZB iA iB dA dB oA oB->Nd P ops Q W0 ZA ZB f L (fun x y=>(a.put (some dA) x).put (some dB) y)):wpAnyH P .any ops Q (fun W=>Bw W0 W) (f+2) listed a w:=by
 have this:wpAnyH P .any ops Q (fun W=>Bw W0 W) (f+2) (L false false) ((a.put (some dA) x).put (some dB) y) w:=b R false false x y w h (fun e=>nomatch e) (fun e=>nomatch e) fun e=>nomatch e;rw[c,d] at this;exact this
structure Lg (P:K5)(ops:DQ)(Q:Fg)(ZA:WR->Nat->Prop)(iA:Nat)(dA:Tmp)(oA:Obj):Prop where
 wA:∀a w (K:Fi),K (a.put (some dA) (ptr w.heap.size)) (w.alloc oA)->wpOp P ops Q iA K a w
 nA:∀w:WR,ZA (w.alloc oA) w.heap.size
 kA:∀(w w':WR) p,p<w.heap.size->Below w.heap.size w w'->ZA w p->ZA w' p
def RI(f:Nat):Bool->Nat
 |true=>f
 |false=>f+1
def Pe(c:K4)(i:Nat):Bool->K4
 |true=>c
 |false=>c++[i]
def JW(P:K5)(ops:DQ)(Q:Fg)(W0:WR)(b:WR->Nat->Prop)(f:Nat)(L:Bool->Array Bool)(T:vZ->Act):Prop:=
 ∀a x w,Below W0.heap.size W0 w->(a=true->pP W0 b w x)->wpAnyH P .any ops Q (fun W=>Below W0.heap.size W0 W) (RI f a) (L a) (T x) w
def JW.step{P:K5}{ops:DQ}{Q:Fg}{W0:WR}{g:WR->Nat->Prop}{iA:Nat}{dA:Tmp}{oA:Obj}{f f':Nat}{L L':Bool->Array Bool}{T:vZ->Act}{c:Nat}{o:Oper}{d:Tmp}{φ:vZ->Prop}{n:Nat}{l:vZ->List (Tmp×vZ)}(R:Lg P ops Q g iA dA oA)(z:ops[c]?=some o)(y:f=f'+n+1)(p:∀b,Region.ready .any ops (L b)=Pe [c] iA b)(r:∀x v,(T x).put (some dA) v=T v)(B:(L false).setIfInBounds iA true=L true)(C:∀x w (K:Fi),Bw W0 w->Shut (∀v w',φ v->Bw w w'->K ((T x).put (some d) v) w')->if Region.wanted o (yielded ops (T x).tmps)=true then Oper.wp P o (T x) w K Q else K ((T x).put o.dst ud) w)(tk:∀v,φ v->∀b x w,Bw W0 w->Shut (wpAnyH P .any ops Q (fun W=>Bw W0 W) (RI f' b) (L' b) (gB ((T x).put (some d) v) (l v)) w)->wpAnyH P .any ops Q (fun W=>Bw W0 W) (RI f' b+n) ((L b).setIfInBounds c true) ((T x).put (some d) v) w)(A:∀v,φ v->JW P ops Q W0 g f' L' (fun x=>gB ((T x).put (some d) v) (l v))):JW P ops Q W0 g f L T:=by
 subst y;have t:∀b,RI (f'+n) b=RI f' b+n:=by intro a;cases a<;>simp[RI]<;>omega
 have H:∀b x w,Bw W0 w->(b=true->pP W0 g w x)->
   wpOp P ops Q c (fun s w'=>Bw W0 w'/\wpAnyH P .any ops Q (fun W=>Bw W0 W) (RI (f'+n) b) ((L b).setIfInBounds c true) s w') (T x) w:=by
  intro b x w h a;refine wpOp_step z fun D u=>C x w D h (fun v w' q j=>u _ _ ⟨gD h j,?_⟩);rw[t];exact tk v q b x w' (gD h j) (A v q b x w' (gD h j) (fun e=>(a e).eT R.kA j))
 have m:∀x w,Bw W0 w->pP W0 g w x->wpAnyH P .any ops Q (fun W=>Bw W0 W) (f'+n+1) (L true) (T x) w:=by intro x w h a;refine wpAnyH_all (rs:=[c]) (p true) sI fun i k=>?_;obtain rfl:=aAB.1 k;exact H true x w h fun _=>a
 intro b x w h a;cases b
 .refine wpAnyH_all (rs:=[c,iA]) (p false) sI fun i k=>?_;simp only[aAx,aAC,or_false] at k;rcases k with rfl|rfl
  .exact H false x w h fun e=>nomatch e
  .refine R.wA _ _ _ ⟨gD h (gC _ _),?_⟩;rw[B,r];exact m _ _ (gD h (gC _ _)) (pP.new h (R.nA w))
 .exact m x w h (a rfl)
def JW.last{Q:Fg}{b:WR->Nat->Prop}{T:vZ->Act}(R:Lg P ops Q b iA dA oA)(j:Region.ready .any ops (L false)=[iA])(e:∀x v,(T x).put (some dA) v=T v)(k:(L false).setIfInBounds iA true=L true)(c:∀p w,Bw W0 w->W0.heap.size<=p->p<w.heap.size->b w p->wpAnyH P .any ops Q (fun W=>Bw W0 W) f (L true) (T (ptr p)) w):
  JW P ops Q W0 b f L T:=by
 intro d x w h a;cases d
 .refine wpAnyH_all (rs:=[iA]) j sI fun i l=>?_;obtain rfl:=aAB.1 l;refine R.wA _ _ _ ⟨gD h (gC _ _),?_⟩;rw[k,e];exact c _ _ (gD h (gC _ _)) h.size sI (R.nA w)
 .obtain⟨p,rfl,m,n,g⟩:=a rfl;exact c p w h m n g
def JW.start{Q:Fg}{ZA:WR->Nat->Prop}(R:Lg P ops Q ZA iA dA oA)(c:L false=listed)(x:vZ)(d:a.put (some dA) x=a)(h:Bw W0 w)(b:Lg P ops Q ZA iA dA oA->JW P ops Q W0 ZA f L (fun x=>a.put (some dA) x)):wpAnyH P .any ops Q (fun W=>Bw W0 W) (f+1) listed a w:=by
 have this:wpAnyH P .any ops Q (fun W=>Bw W0 W) (f+1) (L false) (a.put (some dA) x) w:=b R false x w h fun e=>nomatch e;rw[c,d] at this;exact this
def Mx(n0:Nat)(Z:Obj)(w:WR)(x:vZ):Prop:=∃p,x=ptr p/\n0<=p/\w.heap[p]?=some Z
def Rh(P:K5)(ops:DQ)(Q:Fg)(Z:Obj)(iA:Nat)(dA:Tmp):Prop:=∀a w (K:Fi),K (a.put (some dA) (ptr w.heap.size)) (w.alloc Z)->wpOp P ops Q iA K a w
def Nc(P:K5)(ops:DQ)(Q:Fg)(n0:Nat)(Z:Obj)(f:Nat)(L:Bool->Array Bool)(T:vZ->Act)(I:K6):Prop:=
 ∀a x w,I w->(a=true->Mx n0 Z w x)->wpAnyH P .any ops Q (fun _=>True) (RI f a) (L a) (T x) w
def gi(w:WR)(o:Obj):(w.alloc o).heap[w.heap.size]?=some o:=by show(w.heap.push o)[w.heap.size]?=some o;simp
def Nc.step{P:K5}{ops:DQ}{Q:Fg}{n0:Nat}{Z:Obj}{I:K6}{I':K6}{iA:Nat}{dA:Tmp}{f:Nat}{f':Nat}{L:Bool->Array Bool}{L':Bool->Array Bool}{T:vZ->Act}{c:Nat}{o:Oper}{d:Tmp}{φ:vZ->Prop}{n:Nat}{l:vZ->List (Tmp×vZ)}(R:Rh P ops Q Z iA dA)(D:ops[c]?=some o)(C:f=f'+n+1)(q:∀b,Region.ready .any ops (L b)=Pe [c] iA b)(t:∀x v,(T x).put (some dA) v=T v)(F:(L false).setIfInBounds iA true=L true)(m:∀w,I w->n0<=w.heap.size/\I (w.alloc Z))(J:∀x w (K:Fi),I w->Shut (∀v w',φ v->I' w'->(∀p:Nat,w.heap[p]?=some Z->w'.heap[p]?=some Z)->K ((T x).put (some d) v) w')->if Region.wanted o (yielded ops (T x).tmps)=true then Oper.wp P o (T x) w K Q else K ((T x).put o.dst ud) w)(tk:∀v,φ v->∀b x w,Shut (wpAnyH P .any ops Q (fun _=>True) (RI f' b) (L' b) (gB ((T x).put (some d) v) (l v)) w)->wpAnyH P .any ops Q (fun _=>True) (RI f' b+n) ((L b).setIfInBounds c true) ((T x).put (some d) v) w)(E:∀v,φ v->Nc P ops Q n0 Z f' L' (fun x=>gB ((T x).put (some d) v) (l v)) I'):Nc P ops Q n0 Z f L T I:=by
 subst C;have y:∀b,RI (f'+n) b=RI f' b+n:=by intro a;cases a<;>simp[RI]<;>omega
 have H:∀b x w,I w->(b=true->Mx n0 Z w x)->wpOp P ops Q c (fun u w'=>True/\wpAnyH P .any ops Q (fun _=>True) (RI (f'+n) b) ((L b).setIfInBounds c true) u w') (T x) w:=by intro b x w h a;refine wpOp_step D fun M z=>J x w M h (fun v w' r j B=>z _ _ ⟨trivial,?_⟩);rw[y];exact tk v r b x w' (E v r b x w' j (fun e=>let⟨p,G,s,A⟩:=a e;⟨p,G,s,B p A⟩))
 have k:∀x w,I w->Mx n0 Z w x->wpAnyH P .any ops Q (fun _=>True) (f'+n+1) (L true) (T x) w:=by intro x w h a;refine wpAnyH_all (rs:=[c]) (q true) sI fun i g=>?_;obtain rfl:=aAB.1 g;exact H true x w h fun _=>a
 intro b x w h a;cases b
 .refine wpAnyH_all (rs:=[c,iA]) (q false) sI fun i g=>?_;simp only[aAx,aAC,or_false] at g;rcases g with rfl|rfl
  .exact H false x w h fun e=>nomatch e
  .refine R _ _ _ ⟨trivial,?_⟩;rw[F,t];exact k _ _ (m w h).2 ⟨_,rfl,(m w h).1,gi w Z⟩
 .exact k x w h (a rfl)
def Nc.last{Q:Fg}{I:K6}{T:vZ->Act}(R:Rh P ops Q Z iA dA)(g:Region.ready .any ops (L false)=[iA])(e:∀x v,(T x).put (some dA) v=T v)(j:(L false).setIfInBounds iA true=L true)(c:∀w,I w->n0<=w.heap.size/\I (w.alloc Z))(b:∀p w,I w->n0<=p->w.heap[p]?=some Z->wpAnyH P .any ops Q (fun _=>True) f (L true) (T (ptr p)) w):Nc P ops Q n0 Z f L T I:=by
 intro d x w h a;cases d
 .refine wpAnyH_all (rs:=[iA]) g sI fun i k=>?_;obtain rfl:=aAB.1 k;refine R _ _ _ ⟨trivial,?_⟩;rw[j,e];exact b _ _ (c w h).2 (c w h).1 (gi w Z)
 .obtain⟨p,rfl,l,m⟩:=a rfl;exact b p w h l m
def Nc.start{Q:Fg}{I:K6}(R:Rh P ops Q Z iA dA)(c:L false=listed)(x:vZ)(d:a.put (some dA) x=a)(h:I w)(b:Rh P ops Q Z iA dA->Nc P ops Q n0 Z f L (fun x=>a.put (some dA) x) I):wpAnyH P .any ops Q (fun _=>True) (f+1) listed a w:=by
 have this:wpAnyH P .any ops Q (fun _=>True) (f+1) (L false) (a.put (some dA) x) w:=b R false x w h fun e=>nomatch e;rw[c,d] at this;exact this
section
open Go.Shelf
variable [aB]
theorem sQ:∀(f x:Nat),x<2 ^ f->x<2 ^ Lib.bitLenAux f x
 |0,x,h=>by simpa[Lib.bitLenAux] using h
 |f+1,x,h=>by
  simp only[Lib.bitLenAux];split
  .subst_vars;decide
  .have:=sQ f (x / 2) (by rw[aCj] at h;omega);rw[aDi 1,aCj];omega
theorem sR:∀(f x:Nat),x≠0->x<2 ^ f->2 ^ Lib.bitLenAux f x<=2*x
 |0,x,b,h=>by simp at h;omega
 |f+1,x,b,h=>by
  simp only[Lib.bitLenAux];rw[if_neg b];by_cases a:x / 2=0
  .rw[a];have:Lib.bitLenAux f 0=0:=by cases f<;>simp[Lib.bitLenAux]
   rw[this];omega
  .have:=sR f (x / 2) a (by rw[aCj] at h;omega);rw[aDi 1,aCj];omega
def Pf(x:Int)(w:WR)(j:0<x)(k:x<18446744073709551616):
  Cq 208 #[vU x] w fun e w'=>∃s:Nat,e=.rt (vI s)/\s<64/\Shut (9223372036854775808<=x*2 ^ s/\x*2 ^ s<18446744073709551616)/\w'=w:=by
 have g:=Lib.bitLen_le x.toNat 64 lR oM;go_enter (qz func208),ntmps208;go_wp2_with fail;apply(BF x _ oM oM).mono;rintro e w' ⟨rfl,rfl⟩;have f:IntKind.i64.wrap (64 - (Lib.bitLen x.toNat:Int))=((64 - Lib.bitLen x.toNat:Nat):Int):=by rw[IntWalk.i64_in _ ⟨oM,oM⟩];omega
 go_wp2;go_ret;have a:x.toNat<2 ^ Lib.bitLen x.toNat:=sQ 64 x.toNat oM;have b:2 ^ Lib.bitLen x.toNat<=2*x.toNat:=sR 64 x.toNat oM oM;refine⟨_,rfl,?_,?_,rfl⟩
 .have:Lib.bitLen x.toNat≠0:=fun h=>by rw[h] at a;simp at a;omega
  omega
 .obtain⟨y,rfl⟩:=aAW (show 0<=x by omega);rw[aBM] at a b g⊢;clear f;generalize Lib.bitLen y=L at*;have e:((y:Int)*2 ^ (64 - L))=((y*2 ^ (64 - L):Nat):Int):=by rw[aDk,Int.natCast_pow];rfl
  have d:2 ^ L*2 ^ (64 - L)=18446744073709551616:=by rw[<-Nat.pow_add,show L+(64 - L)=64 by omega]
  have p:=Nat.two_pow_pos (64 - L);have i:=Nat.mul_lt_mul_of_pos_right a p;have c:=aCe (2 ^ (64 - L)) b;rw[aCM] at c;rw[e];show _/\_;rw[d] at i c;generalize y*2 ^ (64 - L)=P at*;omega
def UU(e:Ending):Prop:=∃a b,U a/\U b/\e=.returned (.tuple #[.int .u64 a,.int .u64 b])
def meas{z r:Int}(b:0<=z)(a:¬4294967296<=z)(h:4294967296<=r\/r<z):(if 4294967296<=z then 4294967297 else(4294967296 - z).toNat)<if 4294967296<=r then 4294967297 else(4294967296 - r).toNat:=by
 rw[if_neg a];by_cases h4:4294967296<=r
 .rw[if_pos h4];omega
 .rw[if_neg h4];omega
def Br(x y:Int)(w:WR):Cq 237 #[vU x,vU y] w fun e w'=>UU e/\w'=w:=by
 go_enter (qz func237),ntmps237;go_wp2
 go_ret2
 exact⟨⟨_,_,bT _,bT _,rfl⟩,rfl⟩
def RJ(x y s t:Int)(d:U s)(c:U t)(w:WR):Cq 206 #[vU x,vU y,vU s,vU t] w fun e w'=>UU e/\w'=w:=by
 go_enter (qz func206),ntmps206;go_wp2_with fail;apply(Br x y _).mono;rintro e w' ⟨⟨f,a,⟨_,_⟩,⟨b,_⟩,rfl⟩,rfl⟩;have k1:=uB a s 0 b d.1 (aBq _) dC;have k2:=uB (aL a s 0) t 0 (by unfold aL;omega) c.1 (aBq _) dC;go_wp2
 go_ret2
 exact⟨⟨_,_,bT _,by unfold U aL;omega,rfl⟩,rfl⟩
def qD{x:Int}(h:U x)(k:Nat):U (x / 2 ^ k):=by have a:(0:Int)<2 ^ k:=Int.pow_pos dC;exact⟨Int.ediv_nonneg h.1 (Int.le_of_lt a),Int.lt_of_le_of_lt (Int.ediv_le_self _ h.1) h.2⟩
def Bu(l p y:Int)(Y:0<=l)(Z:l<y)(Q:y<18446744073709551616)(E:U p)(w:WR):
   Cq 273 #[vU l,vU p,vU y] w fun e w'=>UU e/\Bw w w':=by
 have c0:(y==0)=false:=by simp;omega
 have c2:decide (y<=l)=false:=by simp;omega
 by_cases z:l=0
 .subst z;go_enter (qz func273),ntmps273;go_wp2
  go_region
  go_wp2
  go_ret2
  have M:=Int.ediv_nonneg E.1 (show 0<=y by omega);have X:=Int.ediv_le_self y E.1;have N:=Int.emod_nonneg p (show y≠0 by omega);have q4:=Int.emod_lt_of_pos p (show 0<y by omega);exact⟨⟨_,_,⟨M,Int.lt_of_le_of_lt X E.2⟩,⟨N,oM⟩,rfl⟩,bR.drew⟩
 .have c1:(l==0)=false:=by simp;omega
  have t:=Pf y w oM Q;go_enter (qz func273),ntmps273;go_wp2_with fail;apply t.mono;rintro e x ⟨s,rfl,hs,v,rfl⟩;have hw:IntKind.u64.wrap (s:Int)=(s:Int):=by rw[IntKind.wrap_u64];omega
  obtain⟨o,D⟩:∃o,IntKind.u64.wrap (y*2 ^ s)=o:=⟨_,rfl⟩;have L:9223372036854775808<=o/\o<18446744073709551616:=by have:=v.out;rw[<-D,IntKind.wrap_u64];generalize y*2 ^ s=P at*;omega
  obtain⟨i,W⟩:∃i,o / 4294967296=i:=⟨_,rfl⟩;have T:2147483648<=i:=oM
  have R:i<4294967296:=oM
  obtain⟨n,K⟩:∃n,bits .and .u64 o 4294967295=n:=⟨_,rfl⟩;obtain⟨A,I⟩:∃A,IntKind.u64.wrap (p*2 ^ s)=A:=⟨_,rfl⟩;obtain⟨F,S⟩:∃F,A / 4294967296=F:=⟨_,rfl⟩;obtain⟨u,J⟩:∃u,bits .and .u64 A 4294967295=u:=⟨_,rfl⟩;obtain⟨H,O⟩:∃H,bits .or .u64 (IntKind.u64.wrap (l*2 ^ s)) (p / 2 ^ (64 - s))=H:=⟨_,rfl⟩;clear v t L;go_wp2_with fail;go_loopw [15,16] (fun a b V=>(∃q r:Int,a=vU q/\b=vU r/\U q/\U r)/\V=x) (fun _ b _=>if 4294967296<=Go.RowKit.intOf b then 4294967297 else(4294967296 - Go.RowKit.intOf b).toNat)
  case atStart=>exact⟨⟨_,_,rfl,rfl,bT _,bT _⟩,rfl⟩
  case round=>
   obtain⟨⟨q,r,rfl,rfl,C,k⟩,m⟩:=hrel;obtain rfl:=m.symm;obtain⟨z,f⟩:∃z,IntKind.u64.wrap (r+i)=z:=⟨_,rfl⟩;have c:U z:=f▸bT _;have d:z<4294967296->(4294967296<=r\/r<z):=fun h=>by rw[IntKind.wrap_u64] at f;unfold U at k;omega
   obtain⟨a,G⟩:∃a,IntKind.u64.wrap (q*n)=a:=⟨_,rfl⟩;obtain⟨b,B⟩:∃b,IntKind.u64.wrap (IntKind.u64.wrap (4294967296*r)+F)=b:=⟨_,rfl⟩;by_cases j:¬4294967296<=q/\¬b<a
   · have⟨t1,t2⟩:=j
     go_wp2;go_loopw [18,16] (fun a b V=>(∃q r:Int,a=vU q/\b=vU r/\U q/\U r)/\V=x) (fun _ b _=>if 4294967296<=Go.RowKit.intOf b then 4294967297 else(4294967296 - Go.RowKit.intOf b).toNat)
     case atStart=>exact⟨⟨_,_,rfl,rfl,bT _,bT _⟩,rfl⟩
     case round=>
      obtain⟨⟨q,r,rfl,rfl,C,k⟩,m⟩:=hrel;obtain rfl:=m.symm;obtain⟨z,f⟩:∃z,IntKind.u64.wrap (r+i)=z:=⟨_,rfl⟩;have c:U z:=f▸bT _;have d:z<4294967296->(4294967296<=r\/r<z):=fun h=>by rw[IntKind.wrap_u64] at f;unfold U at k;omega
      obtain⟨a,G⟩:∃a,IntKind.u64.wrap (q*n)=a:=⟨_,rfl⟩;obtain⟨b,B⟩:∃b,IntKind.u64.wrap (IntKind.u64.wrap (4294967296*r)+u)=b:=⟨_,rfl⟩;by_cases j:¬4294967296<=q/\¬b<a
      · have⟨t1,t2⟩:=j
        go_wp2
        go_ret2
        exact⟨⟨_,_,by first|exact bT _| (unfold U at*;omega),qD (bT _) _,rfl⟩,Below.refl _ _⟩
      · by_cases t3:4294967296<=z
        · by_cases t1:4294967296<=q
          .go_wp2
           go_ret2
           exact⟨⟨_,_,by first|exact bT _| (unfold U at*;omega),qD (bT _) _,rfl⟩,Below.refl _ _⟩
          .have t2:b<a:=oM
           go_wp2
           go_ret2
           exact⟨⟨_,_,by first|exact bT _| (unfold U at*;omega),qD (bT _) _,rfl⟩,Below.refl _ _⟩
        · have g:=d oM
          by_cases t1:4294967296<=q
          .go_wp2;go_roundw
           case rel=>exact⟨⟨_,_,rfl,rfl,by first|exact bT _| (unfold U at*;omega),c⟩,trivial⟩
           case measure=>exact meas c.1 t3 g
          .have t2:b<a:=oM
           go_wp2;go_roundw
           case rel=>exact⟨⟨_,_,rfl,rfl,by first|exact bT _| (unfold U at*;omega),c⟩,trivial⟩
           case measure=>exact meas c.1 t3 g
   · by_cases t3:4294967296<=z
     · by_cases t1:4294967296<=q
       · go_wp2
         go_loopw [18,16] (fun a b V=>(∃q r:Int,a=vU q/\b=vU r/\U q/\U r)/\V=x) (fun _ b _=>if 4294967296<=Go.RowKit.intOf b then 4294967297 else(4294967296 - Go.RowKit.intOf b).toNat)
         case atStart=>exact⟨⟨_,_,rfl,rfl,bT _,bT _⟩,rfl⟩
         case round=>
          obtain⟨⟨q,r,rfl,rfl,C,k⟩,m⟩:=hrel;obtain rfl:=m.symm;obtain⟨z,f⟩:∃z,IntKind.u64.wrap (r+i)=z:=⟨_,rfl⟩;have c:U z:=f▸bT _;have d:z<4294967296->(4294967296<=r\/r<z):=fun h=>by rw[IntKind.wrap_u64] at f;unfold U at k;omega
          obtain⟨a,G⟩:∃a,IntKind.u64.wrap (q*n)=a:=⟨_,rfl⟩;obtain⟨b,B⟩:∃b,IntKind.u64.wrap (IntKind.u64.wrap (4294967296*r)+u)=b:=⟨_,rfl⟩;by_cases j:¬4294967296<=q/\¬b<a
          .have⟨t1,t2⟩:=j;go_wp2
           go_ret2
           exact⟨⟨_,_,by first|exact bT _| (unfold U at*;omega),qD (bT _) _,rfl⟩,Below.refl _ _⟩
          .by_cases t3:4294967296<=z
           .by_cases t1:4294967296<=q
            .go_wp2
             go_ret2
             exact⟨⟨_,_,by first|exact bT _| (unfold U at*;omega),qD (bT _) _,rfl⟩,Below.refl _ _⟩
            .have t2:b<a:=oM
             go_wp2
             go_ret2
             exact⟨⟨_,_,by first|exact bT _| (unfold U at*;omega),qD (bT _) _,rfl⟩,Below.refl _ _⟩
           .have g:=d oM;by_cases t1:4294967296<=q
            .go_wp2;go_roundw
             case rel=>exact⟨⟨_,_,rfl,rfl,by first|exact bT _| (unfold U at*;omega),c⟩,trivial⟩
             case measure=>exact meas c.1 t3 g
            .have t2:b<a:=oM
             go_wp2;go_roundw
             case rel=>exact⟨⟨_,_,rfl,rfl,by first|exact bT _| (unfold U at*;omega),c⟩,trivial⟩
             case measure=>exact meas c.1 t3 g
       · have t2:b<a:=oM
         go_wp2;go_loopw [18,16] (fun a b V=>(∃q r:Int,a=vU q/\b=vU r/\U q/\U r)/\V=x) (fun _ b _=>if 4294967296<=Go.RowKit.intOf b then 4294967297 else(4294967296 - Go.RowKit.intOf b).toNat)
         case atStart=>exact⟨⟨_,_,rfl,rfl,bT _,bT _⟩,rfl⟩
         case round=>
          obtain⟨⟨q,r,rfl,rfl,C,k⟩,m⟩:=hrel;obtain rfl:=m.symm;obtain⟨z,f⟩:∃z,IntKind.u64.wrap (r+i)=z:=⟨_,rfl⟩;have c:U z:=f▸bT _;have d:z<4294967296->(4294967296<=r\/r<z):=fun h=>by rw[IntKind.wrap_u64] at f;unfold U at k;omega
          obtain⟨a,G⟩:∃a,IntKind.u64.wrap (q*n)=a:=⟨_,rfl⟩;obtain⟨b,B⟩:∃b,IntKind.u64.wrap (IntKind.u64.wrap (4294967296*r)+u)=b:=⟨_,rfl⟩;by_cases j:¬4294967296<=q/\¬b<a
          .have⟨t1,t2⟩:=j;go_wp2
           go_ret2
           exact⟨⟨_,_,by first|exact bT _| (unfold U at*;omega),qD (bT _) _,rfl⟩,Below.refl _ _⟩
          .by_cases t3:4294967296<=z
           .by_cases t1:4294967296<=q
            .go_wp2
             go_ret2
             exact⟨⟨_,_,by first|exact bT _| (unfold U at*;omega),qD (bT _) _,rfl⟩,Below.refl _ _⟩
            .have t2:b<a:=oM
             go_wp2
             go_ret2
             exact⟨⟨_,_,by first|exact bT _| (unfold U at*;omega),qD (bT _) _,rfl⟩,Below.refl _ _⟩
           .have g:=d oM;by_cases t1:4294967296<=q
            .go_wp2;go_roundw
             case rel=>exact⟨⟨_,_,rfl,rfl,by first|exact bT _| (unfold U at*;omega),c⟩,trivial⟩
             case measure=>exact meas c.1 t3 g
            .have t2:b<a:=oM
             go_wp2;go_roundw
             case rel=>exact⟨⟨_,_,rfl,rfl,by first|exact bT _| (unfold U at*;omega),c⟩,trivial⟩
             case measure=>exact meas c.1 t3 g
     · have g:=d oM
       by_cases t1:4294967296<=q
       · go_wp2
         go_roundw
         case rel=>exact⟨⟨_,_,rfl,rfl,by first|exact bT _| (unfold U at*;omega),c⟩,trivial⟩
         case measure=>exact meas c.1 t3 g
       · have t2:b<a:=oM
         go_wp2;go_roundw
         case rel=>exact⟨⟨_,_,rfl,rfl,by first|exact bT _| (unfold U at*;omega),c⟩,trivial⟩
         case measure=>exact meas c.1 t3 g
def Bv(d g y:Int)(j:U d)(i:U g)(h3:U y)(w:WR):
   Cq 238 #[vU d,vU g,vU y] w fun e w'=>(∃x,U x/\e=.rt (vU x))/\Bw w w':=by
 by_cases c:y<=d
 .go_enter (qz func238),ntmps238;go_wp2;go_ret;exact⟨⟨_,dC,rfl⟩,Below.refl _ _⟩
 .have k:d<y:=oM
  have h:=Bu d g y j.1 k h3.2 i w;go_enter (qz func238),ntmps238;go_wp2_with fail;apply h.mono;rintro e w1 ⟨⟨a,b,l,m,rfl⟩,f⟩;clear h;go_wp2;go_ret;exact⟨⟨a,l,rfl⟩,f⟩
def Gw{a b:Int}(c:U a)(d:U b)(h:a≠0):bits .or .u64 a b≠0:=by obtain⟨x,rfl⟩:=aAW c.1;obtain⟨y,rfl⟩:=aAW d.1;unfold U at c d;rw[bits_or_u64_nat x y oM oM];have:=Nat.left_le_or (n:=x) (m:=y);omega
def By{f g:Nat->Nat}{c X:Nat}(e:vl f k+c*18446744073709551616 ^ k=vl g k+X)(a:f k=(g k+c) % 18446744073709551616):
  vl f (k+1)+(g k+c) / 18446744073709551616*18446744073709551616 ^ (k+1)=vl g (k+1)+X:=by
 simp only[vl,a,aCj];have q:=aDj (g k+c) 18446744073709551616;generalize 18446744073709551616 ^ k=P at*;generalize(g k+c) / 18446744073709551616=A at*;generalize(g k+c) % 18446744073709551616=B at*;have r:(18446744073709551616*A+B)*P=(g k+c)*P:=by rw[q]
 rw[aCf,aCf] at r;have r2:A*(P*18446744073709551616)=18446744073709551616*A*P:=by rw[aCB P,<-aCM,aCB A]
 rw[r2];omega
def Gx(x y c:Nat)(d:c<=1):∃a b:Nat,Shut (a=(x+y+c) % 18446744073709551616/\b=(x+y+c) / 18446744073709551616)/\∀w,(callFunc 142 #[.int .u64 (x:Int),.int .u64 (y:Int),.int .u64 (c:Int)]).run zQ.prog w=.ok (.value (.tuple #[.int .u64 (a:Int),.int .u64 (b:Int)])) w:=
 ⟨_,_,⟨rfl,rfl⟩,fun w=>by rw[QJ x y c oM oM oM oM w];congr 4⟩
def Gy(x y c:Nat)(d:y<18446744073709551616)(e:c<=1):∃a b:Nat,a<18446744073709551616/\b<=1/\∀w,(callFunc 132 #[.int .u64 (x:Int),.int .u64 (y:Int),.int .u64 (c:Int)]).run zQ.prog w=.ok (.value (.tuple #[.int .u64 (a:Int),.int .u64 (b:Int)])) w:=by refine⟨(((x:Int) - y - c) % 18446744073709551616).toNat,if(x:Int)<y+c then 1 else 0,oM,by split<;>omega,fun w=>?_⟩;rw[wy x y c oM oM oM oM oM w,aBG oM];congr 5;split<;>rfl
def dz(X:W.heap[R]?=ob c t)(O:W.heap[D]?=some (.cells d t' (0,0)))(Y:UC N c)(G:UC K d)(ho:o+n+1<=N)(hp:p+n<=K)(hK:K<=9)(C:R≠D):Cq 240 #[.slice (some ⟨R,o,none⟩) (n+1) k1,.slice (some ⟨D,p,none⟩) n k2] W fun e w'=>∃(g:Ff) (m:Nat),UC N g/\m<=1/\e=.returned (vU (m:Int))/\w'.heap[R]?=ob g t/\Shut (vl (fun j=>pv g (o+j)) (n+1)+m*18446744073709551616 ^ (n+1)=vl (fun j=>pv c (o+j)) (n+1)+vl (fun j=>pv d (p+j)) n)/\Bt R W w':=by
 go_enter (qz func240),Tryz.ntmps240;go_wp2;go_loopw [11,5] (fun i a V=>∃(k m:Nat) (g:Ff),i=vI (k:Int)/\a=vU (m:Int)/\k<=n/\m<=1/\V.heap[R]?=ob g t/\UC N g/\Shut (∀j,o+k<=j->pv g j=pv c j)/\Shut (vl (fun j=>pv g (o+j)) k+m*18446744073709551616 ^ k=vl (fun j=>pv c (o+j)) k+vl (fun j=>pv d (p+j)) k)/\Bt R W V) (fun i _ _=>n - (Go.RowKit.intOf i).toNat)
 case atStart=>exact⟨0,0,c,rfl,rfl,aBa _,oM,X,Y,fun _ _=>rfl,rfl,Bt.refl _ _⟩
 case round=>
  obtain⟨k,m,g,rfl,rfl,Z,B,u,f,v,z,s⟩:=hrel;have x:=s.blk O (Ne.symm C);have L:=aG u;have T:=aG x;by_cases M:k<n
  .have S:=aJ x (p+k);have E:=aJ u (o+k);have P:=aQ u (o+k);rw[(G.pv (show p+k<K by exact oM)).1] at S;rw[(f.pv (show o+k<N by exact oM)).1] at E;obtain⟨a,b,h,I⟩:=Gx (pv g (o+k)) (pv d (p+k)) m B;have Q:=(f.pv (show o+k<N by exact oM)).2;have db:=(G.pv (show p+k<K by exact oM)).2;have H:(k:Int)<(n:Int):=oM
   have A:(k:Int)<(n:Int)+1:=oM
   have a9:IntKind.i64.wrap ((k:Int)+1)=((k+1:Nat):Int):=by rw[IntWalk.i64_in _ ⟨oM,oM⟩];exact oM
   have F:U (a:Int):=by have:=h.out;unfold U;exact oM
   have w:b<=1:=by have:=h.out;exact oM
   have l:=oF g (o+k) (v:=(a:Int)) (hq:=by rw[f.1];exact oM);go_wp2;go_roundw
   case rel=>
    refine⟨k+1,b,_,rfl,rfl,oM,w,aO u,f.set _ F,fun j J=>?_,?_,s.set _ _⟩
    .rw[l,if_neg oM];exact v.out j oM
    .have y:=z.out;rw[<-sD (f:=fun j=>pv (g.setIfInBounds (o+k) (vU (a:Int))) (o+j)) k fun j J=>by rw[l,if_neg oM]] at y;have r:=v.out (o+k) lR;have q:=h.out;rw[r] at q;rw[q.2];exact Al (g:=fun j=>pv c (o+j)) (h:=fun j=>pv d (p+j)) y (by show pv _ (o+k)=_;rw[l,if_pos rfl,aBM];exact q.1)
   case measure=>simp[Go.RowKit.intOf];exact oM
  .obtain rfl:k=n:=oM
   have E:=aJ u (o+k);have P:=aQ u (o+k);rw[(f.pv (show o+k<N by exact oM)).1] at E;obtain⟨a,b,h,I⟩:=Gx (pv g (o+k)) 0 m B;simp only[Int.natCast_zero] at I;have Q:=(f.pv (show o+k<N by exact oM)).2;have F:U (a:Int):=by have:=h.out;unfold U;exact oM
   have w:b<=1:=by have:=h.out;exact oM
   have l:=oF g (o+k) (v:=(a:Int)) (hq:=by rw[f.1];exact oM);have A:(k:Int)<(k:Int)+1:=oM
   go_wp2;go_ret;refine⟨_,b,f.set _ F,w,rfl,aO u,?_,s.set _ _⟩;have y:=z.out;rw[<-sD (f:=fun j=>pv (g.setIfInBounds (o+k) (vU (a:Int))) (o+j)) k fun j J=>by rw[l,if_neg oM]] at y;have r:=v.out (o+k) lR;have q:=h.out;rw[r,aBd] at q;rw[q.2];exact By (g:=fun j=>pv c (o+j)) y (by show pv _ (o+k)=_;rw[l,if_pos rfl,aBM];exact q.1)
def ed(P:W.heap[R]?=ob c t)(I:W.heap[D]?=some (.cells d t' (0,0)))(S:UC N c)(F:UC K d)(ho:o+n+1<=N)(Z:p+n<=K)(Y:K<=9)(v:R≠D)(E:Int):Cq 239 #[.sl (some (ad R o)) (n+1) k1,.sl (some (ad D p)) n k2,vU E] W fun e w'=>∃(f:Ff) (g:Nat),UC N f/\g<=1/\e=.rt (vU (g:Int))/\w'.heap[R]?=ob f t/\Bt R W w':=by
 go_enter (qz func239),ntmps239;go_wp2;go_loopw [15,7,8] (fun i a b V=>∃(k s g:Nat) (f:Ff),i=vI (k:Int)/\a=vU (s:Int)/\b=vU (g:Int)/\k<=n/\s<18446744073709551616/\g<=1/\V.heap[R]?=ob f t/\UC N f/\Bt R W V) (fun i _ _ _=>n - (Go.RowKit.intOf i).toNat)
 case atStart=>exact⟨0,0,0,c,rfl,rfl,rfl,aBa _,dC,oM,P,S,Bt.refl _ _⟩
 case round=>
  obtain⟨k,s,g,f,rfl,rfl,rfl,X,w,m,u,h,j⟩:=hrel;have l:=j.blk I (Ne.symm v);have G:=aG u;have M:=aG l;have J:=aJ u (o+k);have T:=aQ u (o+k);rw[(h.pv (show o+k<N by omega)).1] at J;by_cases H:k<n
  .have L:=aJ l (p+k);rw[(F.pv (show p+k<K by omega)).1] at L;have A:(k:Int)<(n:Int):=oM
   have q:(k:Int)<(n:Int)+1:=oM
   have a9:IntKind.i64.wrap ((k:Int)+1)=((k+1:Nat):Int):=by rw[IntWalk.i64_in _ ⟨oM,oM⟩];omega
   have r:=RJ (pv d (p+k)) E s 0 (by unfold U;omega) dC;go_wp2_with fail;apply(r _).mono;rintro e w1 ⟨⟨x,y,C,B,rfl⟩,rfl⟩;clear r;obtain⟨x,rfl⟩:=aAW C.1;obtain⟨y,rfl⟩:=aAW B.1;have⟨a,b,O,z,Q⟩:=Gy (pv f (o+k)) y g (by unfold U at B;omega) m;go_wp2;go_roundw
   case rel=>exact⟨k+1,x,b,_,rfl,rfl,rfl,oM,by unfold U at C;omega,z,aO u,h.set _ (by unfold U;omega),j.set _ _⟩
   case measure=>simp[Go.RowKit.intOf];omega
  .obtain rfl:k=n:=oM
   have⟨a,b,O,z,Q⟩:=Gy (pv f (o+k)) s g w m;have q:(k:Int)<(k:Int)+1:=oM
   go_wp2;go_ret;exact⟨_,b,h.set _ (by unfold U;omega),z,rfl,aO u,j.set _ _⟩
def Gz{a b v P c:Nat}(h:a+c*P=b+v)(e:0<v)(f:a<P)(g:b<P)(i:c<=1):(Go.RowKit.intOf (vU ((1 - c:Nat):Int))).toNat*(P - a)<(Go.RowKit.intOf (vU ((1:Nat):Int))).toNat*(P - b):=by
 have d:c=0\/c=1:=oM
 rcases d with rfl|rfl
 .simp[Go.RowKit.intOf] at h⊢;omega
 .simp[Go.RowKit.intOf];omega
def ms(V:WR)(R o n:Nat):Nat:=match V.heap[R]? with
 |some (.cells c _ _)=>vl (fun j=>pv c (o+j)) n
 |_=>0
def VK(hR:W.heap[R]?=ob c t)(F:W.heap[D]?=some (.cells d t' (0,0)))(u:UC N c)(C:UC K d)(Y:o+(n+1)+1<=N)(hp:p+(n+1)<=K)(B:K<=9)(q:R≠D)(hz:pv d (p+n)≠0):Calls zQ.prog 210 #[.slice (some ⟨R,o,none⟩) (n+1+1) k1,.slice (some ⟨D,p,none⟩) (n+1) k2] W fun e w'=>∃(g:Ff) (x:Int),UC N g/\U x/\e=.returned (.int .u64 x)/\w'.heap[R]?=ob g t/\Bt R W w':=by
 have e1:=(u.pv (show o+(n+1)<N by exact oM)).1;have e2:=(u.pv (show o+n<N by exact oM)).1;have e3:=(C.pv (show p+n<K by exact oM)).1;have u1:U (pv c (o+(n+1)):Int):=by have:=(u.pv (show o+(n+1)<N by exact oM)).2;unfold U;exact oM
 have u2:U (pv c (o+n):Int):=by have:=(u.pv (show o+n<N by exact oM)).2;unfold U;exact oM
 have u3:U (pv d (p+n):Int):=by have:=(C.pv (show p+n<K by exact oM)).2;unfold U;exact oM
 have a1:IntKind.i64.wrap (((n+1:Nat):Int) - 1)=(n:Int):=by rw[IntWalk.i64_in _ ⟨oM,oM⟩];exact oM
 have a2:IntKind.i64.wrap (n:Int)=(n:Int):=IntWalk.i64_in _ ⟨oM,oM⟩;have l1:(n:Int)<(n:Int)+1:=oM
 have l2:¬((n:Int)+1<0):=oM
 have l3:¬((n:Int)+1+1<=(n:Int)):=oM
 have M:=aG hR;have a0:=aG F;have hv:0<vl (fun j=>pv d (p+j)) (n+1):=Ak (j:=n) oM hz;go_enter (qz func210),Tryz.ntmps210;go_wp2_with fail
 refine rq (fun V=>V.heap[R]?=ob c t/\V.heap[D]?=some (.cells d t' (0,0))) ⟨hR,F⟩ (fun f=>?_);refine t3 0 1 2 f ?_;refine tD 3 13 (.int .u64 (pv c (o+(n+1)):Int)) (fun V k=>?_) f ?_
 .have A:=aJ k.1 (o+(n+1));rw[e1] at A;clear k f;go_simp
 refine t4 4 5 6 7 f ?_;refine tD 8 18 (.int .u64 (pv c (o+n):Int)) (fun V k=>?_) f ?_
 .have A:=aJ k.1 (o+n);rw[e2] at A;clear k f;go_simp
 refine t4 9 10 11 12 f ?_;refine tD 13 23 (.int .u64 (pv d (p+n):Int)) (fun V k=>?_) f ?_
 .have A:=aJ k.2 (p+n);rw[e3] at A;clear k f;go_simp
 refine rA 14 (fun K B=>?_);go_simp;refine(Bv _ _ _ u1 u2 u3 _).mono ?_;rintro e w1 ⟨⟨Z,O,rfl⟩,h⟩;go_wp2_with fail
 refine B.out _ _ ⟨bk h f.1,bk h f.2⟩ (fun f=>?_);clear B K;refine t1 15 f ?_;refine dn ?_;have b1:Bt R W w1:=(Bt.refl R W).drew.trans (Bt.of h (by exact M));have v:=ed f.1 f.2 u C Y hp B q Z (k1:=k1) (k2:=k2);go_wp2_with fail
 refine v.mono ?_;rintro e w2 ⟨c2,bo,J,G,rfl,E,b2⟩;clear v;have T:=b1.trans b2;clear b1 b2 f h;obtain⟨P,w⟩:∃P,18446744073709551616 ^ (n+1+1)=P:=⟨_,rfl⟩;have hP:=US w;clear w;go_wp2_with fail
 go_loopw [6,7] (fun a b V=>∃(x:Int) (m:Nat) (g:Ff),a=.int .u64 x/\b=.int .u64 (m:Int)/\U x/\m<=1/\V.heap[R]?=ob g t/\UC N g/\Bt R W V) (fun _ b V=>(Go.RowKit.intOf b).toNat*(P - ms V R o (n+1+1)))
 case atStart=>exact⟨Z,bo,c2,rfl,rfl,O,G,E,J,T⟩
 case round=>
  obtain⟨x,m,g,rfl,rfl,hx,hm,S,s,r⟩:=hrel;have I:m=0\/m=1:=oM
  rcases I with rfl|rfl
  .go_wp2;go_ret;exact⟨g,x,s,hx,rfl,S,r⟩
  .have pb:=dz S (r.blk F (Ne.symm q)) s C Y hp B q (k1:=k1) (k2:=k2);go_wp2_with fail
   refine pb.mono ?_;rintro e w3 ⟨c3,X,z,H,rfl,y,Q,b3⟩;clear pb;have b4:=r.trans b3;have hw:IntKind.u64.wrap (1 - (X:Int))=((1 - X:Nat):Int):=by rw[IntKind.wrap_u64];exact oM
   have hM:ms w3 R o (n+1+1)=vl (fun j=>pv c3 (o+j)) (n+1+1):=by unfold ms;rw[y]
   have L:ms wr R o (n+1+1)=vl (fun j=>pv g (o+j)) (n+1+1):=by unfold ms;rw[S]
   have l:=xi (fun j=>pv g (o+j)) (n+1+1) fun j hj=>(s.pv (show o+j<N by exact oM)).2;have i:=xi (fun j=>pv c3 (o+j)) (n+1+1) fun j hj=>(z.pv (show o+j<N by exact oM)).2;go_wp2;go_roundw
   case rel=>exact⟨_,_,c3,rfl,rfl,bT _,oM,y,z,b4⟩
   case measure=>
    have h0:=Q.out;rw[hP.out] at h0 l i;rw[hM,L];exact Gz h0 hv i l H
end
section
open Go.Shelf
variable [aB]
attribute [local go_sem] wd
def UC.one(h:UC n c):c.all (·.oneCell')=true:=aBD.2 fun v e=>by have⟨j,a⟩:=aCT (aCS.2 e);rw[aBp] at a;have⟨d,_⟩:=aAu.1 a;have⟨b,f,_⟩:=h.2 j (by rw[<-h.1];exact d);rw[f] at a;rw[<-aAv a];rfl
structure Rt (t:Fh)(n:Nat):Prop where
 G0:∃e,zQ.prog.underlying t=some (.array n e)
 inf:(zQ.prog.info? t).map (·.size)=some n
def bG:Rt 41 4:=⟨⟨39,kR⟩,kR⟩
def jC:Rt 254 8:=⟨⟨39,kR⟩,kR⟩
def pG{o:Oper}{Q:Fg}(d:Rt t n)(k:w.heap[g]?=some (.cells c t' (0,0)))(j:c.size=n)(h:wpList zQ.prog ops Q rest (a.put o.dst (.agg c)) w)(b:o.guard=none:=by rfl)(f:o.op=.load t x:=by rfl)(l:a.eval x=pq g 0:=by rfl):wpList zQ.prog ops Q (o::rest) a w:=by
 have⟨e,i⟩:=d.G0;exact wpList_load_row b t x f g l t' c (0,0) _ k i rfl (by rw[j];exact d.inf) h
def ee(a:w.heap[g]?=some (.cells z t' (0,0)))(c:Ff):(w.setRow g c).heap[g]?=some (.cells c t' (0,0))/\Bt g w (w.setRow g c):=
 ⟨setRow_heap w g z c t' (0,0) a,⟨⟨rfl,rfl,rfl,sI,fun k d=>setRow_other w g k c oM⟩,fun q _ b=>setRow_other w g q c b⟩⟩
def OL{o:Oper}{Q:Fg}{K:Fi}(d:Rt t n)(u:UC n c)(b:w.heap[g]?=some (.cells z t' (0,0)))(j:z.size=n)(h:∀V,V.heap[g]?=some (.cells c t' (0,0))->Bt g w V->K (a.put o.dst ud) V)(e:o.op=.store t x y:=by rfl)(i:a.eval x=pq g 0:=by rfl)(f:a.eval y=.agg c:=by rfl):o.wp zQ.prog a w K Q:=
 wp_store_row t x y e g c i f t' z b (by rw[u.1];exact d.inf) (by rw[j,u.1]) u.one (h _ (ee b c).1 (ee b c).2)
def iX{o:Oper}{Q:Fg}(d:Rt t n)(u:UC n c)(l:w.heap[g]?=some (.cells z t' (0,0)))(p:z.size=n)(h:∀V,V.heap[g]?=some (.cells c t' (0,0))->Bt g w V->wpList zQ.prog ops Q rest (a.put o.dst ud) V)(b:o.guard=none:=by rfl)(e:o.op=.store t x y:=by rfl)(m:a.eval x=pq g 0:=by rfl)(f:a.eval y=.agg c:=by rfl):wpList zQ.prog ops Q (o::rest) a w:=
 wpList_plain b fun _ j=>OL d u l p (fun V k i=>j _ _ (h V k i)) e m f
def eH{fn:Func}{p:Tmp}{R:Ending->K6}(b:Rt t n)(l:w.heap[g]?=some (.cells c t' (0,0)))(i:c.size=n)(j:fn.results=#[.cell p t])(h:R (.rt (.agg c)) w)(f:a.tmps.getD p ud=pq g 0:=by rfl)(d:a.defers=[]:=by rfl):bodyPost zQ.prog fn R .ret a w:=by
 have⟨e,k⟩:=b.G0;exact bodyPost_ret (results_cell_row j _ w g t' c (0,0) _ f l k rfl (by rw[i];exact b.inf)) d h
def UC.Me(h:UC 4 c):∃x,x<M/\c=(wq x):=by have⟨x,a,e⟩:=h.wd;exact⟨x,a,by unfold Go.Mark.wd at e;injection e⟩
def JX{m:Nat}(Q:W.heap[R]?=ob c t)(L:W.heap[D]?=some (.cells d t' (0,0)))(T:UC N c)(C:UC K d)(ho:o+m<=N)(hp:p+n<=K)(S:n<=m)(Y:K<=9)(x:R≠D)(s:Nat)(hs:s<64):
  Cq 209 #[.sl (some (ad R o)) m k1,.sl (some (ad D p)) n k2,vI (s:Int)] W fun e w'=>e=rU/\∃g:Ff,UC N g/\w'.heap[R]?=ob g t/\Shut (∀j,j<n->IntKind.u64.wrap ((pv d (p+j):Int)*2 ^ s)≠0->pv g (o+j)≠0)/\Bt R W w':=by
 have Z:IntKind.i64.wrap (64 - (s:Int))=((64 - s:Nat):Int):=by rw[IntWalk.i64_in _ ⟨oM,oM⟩];omega
 go_enter (qz func209),ntmps209;go_wp2;go_loopw [11,6] (fun i a V=>∃(k:Nat) (b:Int) (g:Ff),i=vI (k:Int)/\a=vU b/\k<=n/\U b/\V.heap[R]?=ob g t/\UC N g/\Shut (∀j,j<k->IntKind.u64.wrap ((pv d (p+j):Int)*2 ^ s)≠0->pv g (o+j)≠0)/\Bt R W V) (fun i _ _=>n - (Go.RowKit.intOf i).toNat)
 case atStart=>exact⟨0,0,c,rfl,rfl,aBa _,dC,Q,T,fun j B=>oM,Bt.refl _ _⟩
 case round=>
  obtain⟨k,b,g,rfl,rfl,X,E,u,f,v,l⟩:=hrel;have w:=l.blk L (Ne.symm x);have I:=aG u;have P:=aG w;by_cases J:k<n
  .have O:=aJ w (p+k);have A:=aJ u (o+k);have M:=aQ u (o+k);rw[(C.pv (show p+k<K by omega)).1] at O;rw[(f.pv (show o+k<N by omega)).1] at A;have F:(k:Int)<(n:Int):=oM
   have r:(k:Int)<(m:Int):=oM
   have a9:IntKind.i64.wrap ((k:Int)+1)=((k+1:Nat):Int):=by rw[IntWalk.i64_in _ ⟨oM,oM⟩];omega
   have H:U (pv d (p+k):Int):=by have:=(C.pv (show p+k<K by omega)).2;unfold U;omega
   obtain⟨z,G⟩:∃z,IntKind.u64.wrap ((pv d (p+k):Int)*2 ^ s)=z:=⟨_,rfl⟩;have y:U z:=G▸bT _;have q:=oF g (o+k) (v:=bits .or .u64 z b) (hq:=by rw[f.1];omega);go_wp2;go_roundw
   case rel=>
    refine⟨k+1,_,_,rfl,rfl,oM,qD H _,aO u,f.set _ (aj _ _),fun j B h=>?_,l.set _ _⟩;by_cases e:j=k
    .subst e;rw[G] at h;rw[q,if_pos rfl];have:=Gw y E h;have:=(aj z b).1;omega
    .rw[q,if_neg oM];exact v.out j oM h
   case measure=>simp[Go.RowKit.intOf];omega
  .obtain rfl:k=n:=oM
   by_cases hm:k<m
   .have A:=aJ u (o+k);have M:=aQ u (o+k);rw[(f.pv (show o+k<N by omega)).1] at A;have r:(k:Int)<(m:Int):=oM
    have q:=oF g (o+k) (v:=b) (hq:=by rw[f.1];omega);go_wp2;refine bodyPost_end (results_none rfl _ _ _) rfl ?_;refine⟨rfl,_,f.set _ E,aO u,fun j B h=>?_,l.set _ _⟩;rw[q,if_neg oM];exact v.out j B h
   .have r:¬(k:Int)<(m:Int):=oM
    go_wp2;refine bodyPost_end (results_none rfl _ _ _) rfl ?_;exact⟨rfl,g,f,u,v,l⟩
def r2{Q:Fg}{d:Region.Mode}{S:K6}{b:Nat}{i:Nat}{o e:Oper}(k:ops[i]?=some o)(f:ops[j]?=some e)(h:∀c:Fi,Shut (∀a w,S w->(S w->wpAnyH P d ops Q S b (listed.setIfInBounds i true) a w)->c a w)->if Region.wanted o (yielded ops a.tmps)=true then Oper.wp P o a w c Q else c (a.put o.dst ud) w)(g:∀c:Fi,Shut (∀a w,S w->(S w->wpAnyH P d ops Q S b (listed.setIfInBounds j true) a w)->c a w)->if Region.wanted e (yielded ops a.tmps)=true then Oper.wp P e a w c Q else c (a.put e.dst ud) w)(l:Region.ready d ops listed=[i,j]:=by kernel_rfl):wpAnyH P d ops Q S (b+1) listed a w:=wpAnyH_ready l sI (AllReadyH.cons k h (AllReadyH.cons f g AllReadyH.nil))
def OM(a s:Nat)(T:s<64)(W:WR):Calls zQ.prog 211 #[wd a,.int .i64 (s:Int)] W fun e w'=>(∃x,x<M/\e=.returned (wd x))/\Below W.heap.size W w':=by
 have t:Below W.heap.size W ((W.alloc (.cells (wq a) 41)).alloc (.cells wz 41)):=(ba).trans ((ba).mono sI);have m:((W.alloc (.cells (wq a) 41)).alloc (.cells wz 41)).heap[W.heap.size]?=ob (wq a) 41:=aT (aM W _);have l:((W.alloc (.cells (wq a) 41)).alloc (.cells wz 41)).heap[W.heap.size+1]?=ob wz 41:=by have:=aM (W.alloc (.cells (wq a) 41)) (.cells wz 41);simpa using this
 have S:IntKind.i64.wrap (64 - (s:Int))=((64 - s:Nat):Int):=by rw[IntWalk.i64_in _ ⟨oM,oM⟩];exact oM
 change Calls zQ.prog 211 #[.agg (wq a),.int .i64 (s:Int)] W _;go_enter (qz func211),Tryz.ntmps211;go_wp2_with fail
 change Code.wp _ _ _ _ ((W.alloc (.cells (wq a) 41)).alloc (.cells wz 41));generalize((W.alloc (.cells (wq a) 41)).alloc (.cells wz 41))=R at t m l⊢;obtain⟨B,O⟩:∃B,W.heap.size+1=B:=⟨_,rfl⟩;obtain⟨A,y⟩:∃A,W.heap.size=A:=⟨_,rfl⟩;rw[O] at l⊢;rw[y] at m⊢;go_loopw [6,5] (fun i b V=>∃(k w:Int) (c:Ff),i=.int .i64 k/\b=.int .u64 w/\ -1<=k/\k<=3/\U w/\V.heap[A]?=ob c 41/\UC 4 c/\V.heap[B]?=ob wz 41/\Below W.heap.size W V) (fun i _ _=>(Go.RowKit.intOf i+1).toNat)
 case atStart=>exact⟨3,0,_,rfl,rfl,dC,dC,dC,m,bH a,l,t⟩
 case round=>
  obtain⟨k,b,c,rfl,rfl,G,L,D,p,f,u,h⟩:=hrel;have E:=aG p;have P:=aG u;by_cases F:0<=k
  .obtain⟨q,rfl⟩:=Int.eq_ofNat_of_zero_le F;have C:(q:Int)<4:=oM
   have I:=aJ (w:=wr.drew) p q;have Q:=aQ (w:=wr.drew) p q;rw[(f.pv (show q<4 by exact oM)).1] at I;obtain⟨z,J⟩:∃z,IntKind.u64.wrap ((pv c q:Int)*2 ^ (64 - s))=z:=⟨_,rfl⟩;have r:U z:=J▸bT _;have X:IntKind.i64.wrap ((q:Int) - 1)=(q:Int) - 1:=IntWalk.i64_in _ ⟨oM,oM⟩;go_wp2_with fail
   refine rq (fun V=>True) trivial (fun g=>?_);refine t6 0 1 2 4 6 8 g ?_;refine t3 9 11 12 g ?_;refine r2 (i:=3) (j:=10) rfl rfl (fun K d=>?_) (fun K d=>?_)
   .skip
    go_simp;refine d.out _ _ trivial (fun g=>?_);clear d K;refine t2 5 7 g ?_;refine rA 10 (fun K d=>?_);go_simp;refine d.out _ _ trivial (fun g=>?_);clear d K;refine t2 13 14 g ?_;refine rA 15 (fun K d=>?_);go_simp;refine d.out _ _ trivial (fun g=>?_);clear d K;refine t1 16 g ?_;refine dn ?_;have n:=aO (w:=wr.drew) (i:=q) (v:=.int .u64 (bits .or .u64 ((pv c q:Int) / 2 ^ s) b)) p;have j:(wr.drew.setCell ⟨A,q,none⟩ (.int .u64 (bits .or .u64 ((pv c q:Int) / 2 ^ s) b))).heap[B]?=_:=aD (w:=wr.drew) u oM;have o:Below W.heap.size W (wr.drew.setCell ⟨A,q,none⟩ (.int .u64 (bits .or .u64 ((pv c q:Int) / 2 ^ s) b))):=h.drew.setCell (by show W.heap.size<=A;exact oM) _;go_wp2;go_roundw
    case rel=>exact⟨_,_,_,rfl,rfl,oM,oM,r,n,f.set q (aj _ _),j,o⟩
    case measure=>simp[Go.RowKit.intOf]
   .skip
    go_simp;refine d.out _ _ trivial (fun g=>?_);clear d K;refine t1 13 g ?_;refine rA 3 (fun K d=>?_);go_simp;refine d.out _ _ trivial (fun g=>?_);clear d K;refine t3 5 7 14 g ?_;refine rA 15 (fun K d=>?_);go_simp;refine d.out _ _ trivial (fun g=>?_);clear d K;refine t1 16 g ?_;refine dn ?_;have n:=aO (w:=wr.drew) (i:=q) (v:=.int .u64 (bits .or .u64 ((pv c q:Int) / 2 ^ s) b)) p;have j:(wr.drew.setCell ⟨A,q,none⟩ (.int .u64 (bits .or .u64 ((pv c q:Int) / 2 ^ s) b))).heap[B]?=_:=aD (w:=wr.drew) u oM;have o:Below W.heap.size W (wr.drew.setCell ⟨A,q,none⟩ (.int .u64 (bits .or .u64 ((pv c q:Int) / 2 ^ s) b))):=h.drew.setCell (by show W.heap.size<=A;exact oM) _;go_wp2;go_roundw
    case rel=>exact⟨_,_,_,rfl,rfl,oM,oM,r,n,f.set q (aj _ _),j,o⟩
    case measure=>simp[Go.RowKit.intOf]
  .obtain rfl:k= -1:=oM
   go_wp2_with (first| (refine pG bG p f.1 ?_)| (refine iX bG f u rfl (fun V H v=>?_)))
   obtain⟨x,N,e⟩:=f.wd;exact eH bG H f.1 Tryz.results211 ⟨⟨x,N,by rw[e]⟩,by rw[y] at h;exact v.below oM h⟩
end
end Go.Mark
