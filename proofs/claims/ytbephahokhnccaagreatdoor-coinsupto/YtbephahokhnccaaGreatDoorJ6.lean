import Derived.Lib.BitFns
import Derived.Stop.Asserts
import Derived.Test.YtbephahokhnccaaGreatDoorJ5
set_option linter.all false
set_option maxRecDepth 100000
set_option maxHeartbeats 4000000
namespace Go.Mark
open Go.RowKit Go.Proofs Go.Proofs.Tryz
variable{a a':Act}{listed:Array Bool}{ops:DQ}{c ca cb:Ff}{B:K4}{T:List Fh}{J xs:K3}{k b fuel i base size n fb:Nat}{o p:Obj}{oi:Oper}{d:Option Tmp}{P:K5}{t ta e tb:Fh}{v:vZ}{w w' W u:WR}
section
class aB where
 b0:Nat
 b1:Nat
 le:b0<=b1
def aB.lo[aB](t:Fh):Nat:=if t=41\/t=5 then aB.b1 else aB.b0
def aB.xa[aB](t:Fh):aB.b0<=aB.lo t:=by
 unfold aB.lo;split
 .exact aB.le
 .exact aAz _
def aB.Fv[aB]:aB.lo 262<=aB.b0:=by simp[aB.lo]
def aB.Ad[aB]:aB.lo 41<=aB.b1:=by simp[aB.lo]
variable [aB]
structure aU (B:K4) (T:List Fh) (w w':WR):Prop where
 os:w'.os=w.os
 tape:w'.tape=w.tape
 output:w'.output=w.output
 size:w.heap.size<=w'.heap.size
 block:∀k,k<w.heap.size->k∉B->w'.heap[k]?=w.heap[k]?\/∃t c c',t∈T/\aB.lo t<=k/\w.heap[k]?=ob c t/\w'.heap[k]?=ob c' t
def aU.mono{B':K4}{T':List Fh}(h:aU B T w w')(i:∀k,k<w.heap.size->k∈B->k∈B')(b:∀t∈T,t∈T'):aU B' T' w w':=
 ⟨h.os,h.tape,h.output,h.size,fun k a l=>(h.block k a (fun e=>l (i k a e))).imp id fun⟨t,c,d,j,f,g⟩=>⟨t,c,d,b t j,f,g⟩⟩
def aU.trans{v:WR}(h:aU B T w v)(a:aU B T v u):aU B T w u:=by
 refine⟨a.os.tr h.os,a.tape.tr h.tape,a.output.tr h.output,aAw h.size a.size,fun k l n=>?_⟩;rcases h.block k l n with e| ⟨t,c,j,f,g,i,b⟩
 .rcases a.block k (aAy l h.size) n with m| ⟨t,c,j,f,g,i,b⟩
  .exact .inl (m.tr e)
  .exact .inr ⟨t,c,j,f,g,e.symm.tr i,b⟩
 .rcases a.block k (aAy l h.size) n with m| ⟨q,d,p,o,_,h3,h4⟩
  .exact .inr ⟨t,c,j,f,g,i,m.tr b⟩
  .rw[b] at h3;cases h3;exact .inr ⟨t,c,p,f,g,i,h4⟩
def aU.tr{v:WR}(h:aU B T w v)(a:aU B T v u):aU B T w u:=aU.trans h a
def aU.aF(h:Bw w w')(B:K4)(T:List Fh):aU B T w w':=⟨h.os,h.tape,h.output,h.size,fun k a _=>.inl (h.block k a)⟩
def aU.setCell(w:WR)(b i:Nat)(v:vZ):aU [b] [] w (w.setCell ⟨b,i,none⟩ v):=by have h:=FJ w ⟨b,i,none⟩ v;exact⟨h.os,h.tape,h.output,h.size,fun k a c=>.inl (h.block k a (fun e=>c (by simp only[aAB];exact e)))⟩
def aU.sC(w:WR)(b i:Nat)(v:vZ):aU [b] [] w (w.setCell ⟨b,i,none⟩ v):=aU.setCell w b i v
def pc(h:w.ownsRow base e size v n xs)(k:Nat)(a:v.ownBlock=some k):base<=k:=by
 rcases h.2 with⟨rfl,_⟩| ⟨g,cap,b,rfl,c,_⟩
 .cases a
 .cases a;exact c
def aU.floor(h:aU B T w w')(c:k<aB.b0)(a:k<w.heap.size)(b:k∉B):w'.heap[k]?=w.heap[k]?:=
 (h.block k a b).elim id fun⟨t,_,_,_,d,_⟩=>by have:=aB.xa t;omega
def aU.grown{m:Nat}{g:K3}{a:Nat}(h:w.grownBy w' v.ownBlock)(i:aB.lo e<=base)(l:w.ownsRow base e size v n xs)(h3:w'.ownsRow a e size v m g):aU [] [e] w w':=by
 have b:=yP h;refine⟨b.os,b.tape,b.output,b.size,fun k f _=>?_⟩;by_cases d:v.ownBlock=some k
 .have⟨c,p⟩:=cL l k d;have⟨o,j⟩:=cL h3 k d;exact .inr ⟨e,c,o,sI,aAw i (pc l k d),p,j⟩
 .exact .inl (b.block k f d)
def qB(T:List Fh):Obj->Prop
 |.cells _ t _=>t∉T
 |_=>True
def aU.obj(h:aU B T w w')(a:w.heap[k]?=some o)(f:qB T o)(g:k∉B):w'.heap[k]?=some o:=by
 have d:=(aAu.1 a).1;rcases h.block k d g with e| ⟨t,c,j,i,_,b,_⟩
 .exact e.tr a
 .rw[a] at b;cases b;exact absurd i f
def dS{a:Nat}(f:w.heap[a]?=some o)(d:w.heap[b]?=some p)(c:o≠p):a≠b:=fun e=>by subst e;rw[f] at d;exact c (aAv d)
def dP{a:Nat}{i:Ff}{g:Fh}{f j:Nat×Nat}(k:w.heap[a]?=some (.cells c t f))(h:w.heap[b]?=some (.cells i g j))(d:t≠g):a≠b:=dS k h (fun e=>by cases e;exact d rfl)
def aJ(h:w.heap[b]?=ob c t)(i:Nat):w.cell? ⟨b,i,none⟩=c[i]?:=cell_of_row w b i c t (0,0) h
def aQ(h:w.heap[b]?=ob c t)(i:Nat):w.frozen? ⟨b,i,none⟩=false:=frozen_of_row w b i c t h
def aG(h:w.heap[b]?=some o):b<w.heap.size:=(aAu.1 h).1
def aO(h:w.heap[b]?=ob c t):(w.setCell ⟨b,i,none⟩ v).heap[b]?=ob (c.setIfInBounds i v) t:=heap_setCell_same w b i c t v h
def aD(h:w.heap[k]?=some o)(a:k≠b):(w.setCell ⟨b,i,none⟩ v).heap[k]?=some o:=(heap_setCell_other w ⟨b,i,none⟩ k v a).tr h
def aM(w:WR)(o:Obj):(w.alloc o).heap[w.heap.size]?=some o:=by show(w.heap.push _)[w.heap.size]?=_;rw[aAT]
def aT(h:w.heap[b]?=some o):(w.alloc p).heap[b]?=some o:=(Below.heap_alloc w _ b (aG h)).tr h
end
def tu{Q:Fg}{b:Region.Mode}{S:K6}(o:ops[i]?=some oi)(e:oi.dst=d)(k:S w)(h:wpAnyH P b ops Q S fuel (listed.setIfInBounds i true) a' w)(m:Region.noSelect ops=true:=by kernel_rfl)(j:Region.free b ops listed i=true:=by kernel_rfl)(l:(Region.ready b ops listed).contains i=true:=by kernel_rfl)(n:∀c a w,Q (.panic c) (a.put oi.dst ud) w->Q (.panic c) a w:=by intro _ _ _ h;first|exact h|cases h.1)(f:Region.wanted oi (yielded ops a.tmps)=false:=by rfl)(g:a.put d ud=a':=by(simp only[Act.put,aAA,aAD,aAE];try rfl)):wpAnyH P b ops Q S (fuel+1) listed a w:=by
 subst g;exact qN o e m j l n (Or.inr ⟨f,rfl⟩) k h
def fD(P:K5)(b:Region.Mode)(ops:DQ)(Q:Fg)(S:K6)(k:Nat):Nat->Array Bool->Fi
 |0,listed,a,w=>Region.ready b ops listed=[]/\Q .normal a w
 |fuel+1,listed,a,w=>
  (Region.ready b ops listed=[]->Q .normal a w)/\
  ∀i∈Region.ready b ops listed,wpOp P ops Q i (fun a' w'=>(i≠k->S w')/\fD P b ops Q S k fuel (listed.setIfInBounds i true) a' w') a w
section
variable{P:K5}{ops:DQ}{Q:Fg}{b:Region.Mode}{S:K6}{k:Nat}
theorem yQ:∀(fuel:Nat) (listed:Array Bool) (a:Act) (w:WR),fD P b ops Q S k fuel listed a w->wpAny P b ops Q fuel listed a w
 |0,_,_,_,h=>h
 |fuel+1,_,_,_,h=>⟨h.1,fun i d=>wpOp_mono (fun a' w' c=>yQ fuel _ a' w' c.2) (h.2 i d)⟩
end
def FP{Q:Fg}{s:Region.Mode}{S:K6}(J:ops[i]?=some oi)(q:∀(j:Nat) (o:Oper) x b,ops[j]?=some o->o.op≠.select x b)(O:i≠k)(G:∀o,ops[k]?=some o->∃e∈o.after,Region.binds s e=true/\e.on=i)(N:∀c a w,Q (.panic c) (a.put oi.dst v) w->Q (.panic c) a w):
  ∀(fuel:Nat) (listed:Array Bool) (a:Act) (w:WR),
   (∀j r,ops[j]?=some r->j≠i->listed.getD j true=false->(∀e∈r.after,Region.binds s e=true->e.on≠i)->oi.apart ops r=true)->
   i∈Region.ready s ops listed->YieldsIf P ops S oi v a->S w->
   fD P s ops Q S k fuel (listed.setIfInBounds i true) (a.put oi.dst v) w->fD P s ops Q S k (fuel+1) listed a w:=by
 intro fuel;induction fuel with
 |zero=>
  intro listed a w _ u B A H;refine⟨fun h=>(by rw[h] at u;cases u),fun j C=>?_⟩;by_cases d:j=i
  .subst d;exact B.wpOp J A ⟨fun _=>A,H⟩
  .have:=ready_mono C d;rw[H.1] at this;cases this
 |succ fuel T=>
  intro listed a w f u B A H;refine⟨fun h=>(by rw[h] at u;cases u),fun j C=>?_⟩;by_cases d:j=i
  .subst d;exact B.wpOp J A ⟨fun _=>A,H⟩
  .have t:=H.2 j (ready_mono C d);have⟨n,r,m,z⟩:=mem_ready.1 C;have p:∀e∈r.after,Region.binds s e=true->e.on≠i:=fun e K F heq=>by
    have t:=z e K F;have L:=(mem_ready.1 u).1;rw[heq] at t;rcases aCi i listed.size with I|I
    .simp[I] at L t;rw[L] at t;cases t
    .simp[aBh I] at t
   have l:j≠k:=fun e=>by subst e;have⟨e,K,F,R⟩:=G r m;exact p e K F R
   have M:=wpOp_putIf m (f j r m d n p) (fun x b=>q i oi x b J) (fun x b=>q j r x b m) N B t;have g:∀k ok,ops[k]?=some ok->k≠i->(listed.setIfInBounds j true).getD k true=false->
     (∀e∈ok.after,Region.binds s e=true->e.on≠i)->oi.apart ops ok=true:=fun k ok G E y D=>by
    refine f k ok G E ?_ D;by_cases l:j=k
    .subst l;exact n
    .rw[getD_set_ne true l] at y;exact y
   refine wpOp_mono (fun a' w' h3=>⟨h3.2.1,T (listed.setIfInBounds j true) a' w' g (ready_mono u (Ne.symm d)) h3.1 (h3.2.1 l) ?_⟩) M;rw[Array.setIfInBounds_comm _ _ d];exact h3.2.2
def lX(a:Region.Mode)(ops:DQ)(k i:Nat):Bool:=match ops[k]? with
 |some o=>o.after.any fun e=>Region.binds a e && e.on==i
 |none=>true
def yR{a:Region.Mode}(h:lX a ops k i=true):∀o,ops[k]?=some o->∃e∈o.after,Region.binds a e=true/\e.on=i:=fun o b=>by unfold lX at h;rw[b] at h;simp only[Array.any_eq_true] at h;have⟨j,c,h⟩:=h;simp only[aBT,beq_iff_eq] at h;exact⟨_,Array.getElem_mem c,h⟩
def tk{Q:Fg}{b:Region.Mode}{S:K6}(f:ops[i]?=some oi)(g:oi.dst=d)(p:∀w,S w->(execOp a.eval oi).run P w=.ok (.value v) w)(s:S w)(h:fD P b ops Q S k fuel (listed.setIfInBounds i true) a' w)(r:Region.noSelect ops=true:=by kernel_rfl)(o:Region.free b ops listed i=true:=by kernel_rfl)(q:(Region.ready b ops listed).contains i=true:=by kernel_rfl)(l:lX b ops k i=true:=by kernel_rfl)(e:i≠k:=by decide)(j:∀c a w,Q (.panic c) (a.put oi.dst v) w->Q (.panic c) a w:=by intro _ _ _ h;first|exact h|cases h.1)(m:Region.wanted oi (yielded ops a.tmps)=true:=by rfl)(n:a.put d v=a':=by(simp only[Act.put,aAA,aAD,aAE];try rfl)):fD P b ops Q S k (fuel+1) listed a w:=by
 subst n g;exact FP f (Region.noSelect_spec r) e (yR l) j fuel listed a w (Region.free_spec f o) (by simpa using q) (Or.inl ⟨m,p⟩) s h
def rk{Q:Fg}{c:Region.Mode}{S:K6}{o:Oper}(m:ops[i]?=some o)(h:∀b:Fi,Shut (∀a w,S w->(S w->fD P c ops Q S k fuel (listed.setIfInBounds i true) a w)->b a w)->if Region.wanted o (yielded ops a.tmps)=true then Oper.wp P o a w b Q else b (a.put o.dst ud) w)(f:Region.ready c ops listed=[i]:=by kernel_rfl):fD P c ops Q S k (fuel+1) listed a w:=by
 refine⟨fun g=>(by rw[f] at g;cases g),fun j d=>?_⟩;rw[f] at d;obtain rfl:=aAB.1 d;exact wpOp_step m fun b n=>h b (fun a w e l=>n a w ⟨fun _=>e,l e⟩)
def rl{Q:Fg}{c:Region.Mode}{S:K6}{o:Oper}(l:ops[k]?=some o)(h:∀b:Fi,Shut (∀a w,fD P c ops Q S k fuel (listed.setIfInBounds k true) a w->b a w)->if Region.wanted o (yielded ops a.tmps)=true then Oper.wp P o a w b Q else b (a.put o.dst ud) w)(f:Region.ready c ops listed=[k]:=by kernel_rfl):fD P c ops Q S k (fuel+1) listed a w:=by
 refine⟨fun g=>(by rw[f] at g;cases g),fun j d=>?_⟩;rw[f] at d;obtain rfl:=aAB.1 d;exact wpOp_step l fun b m=>h b (fun a w i=>m a w ⟨fun e=>absurd rfl e,i⟩)
def tE{Q:Fg}{b:Region.Mode}{S:K6}(i d:Nat)(v:vZ)(o:∀w,S w->(execOp a.eval oi).run P w=.ok (.value v) w)(s:S w)(h:fD P b ops Q S k fuel (listed.setIfInBounds i true) a' w)(r:ops[i]?=some oi:=by rfl)(f:oi.dst=some d:=by rfl)(q:Region.noSelect ops=true:=by kernel_rfl)(n:Region.free b ops listed i=true:=by kernel_rfl)(p:(Region.ready b ops listed).contains i=true:=by kernel_rfl)(j:lX b ops k i=true:=by kernel_rfl)(e:i≠k:=by decide)(g:∀c a w,Q (.panic c) (a.put oi.dst v) w->Q (.panic c) a w:=by intro _ _ _ h;first|exact h|cases h.1)(l:Region.wanted oi (yielded ops a.tmps)=true:=by rfl)(m:a.put (some d) v=a':=by(simp only[Act.put,aAA,aAD,aAE];try rfl)):fD P b ops Q S k (fuel+1) listed a w:=tk r f o s h q n p j e g l m
def tF{Q:Fg}{b:Region.Mode}{S:K6}{d:Nat}(i:Nat)(s:S w)(h:fD P b ops Q S k fuel (listed.setIfInBounds i true) a' w)(r:ops[i]?=some oi:=by rfl)(f:oi.dst=some d:=by rfl)(o:∀w,S w->(execOp a.eval oi).run P w=.ok (.value v) w:=by(intro _ h;clear h;go_simp;rfl))(q:Region.noSelect ops=true:=by kernel_rfl)(n:Region.free b ops listed i=true:=by kernel_rfl)(p:(Region.ready b ops listed).contains i=true:=by kernel_rfl)(j:lX b ops k i=true:=by kernel_rfl)(e:i≠k:=by decide)(g:∀c a w,Q (.panic c) (a.put oi.dst v) w->Q (.panic c) a w:=by intro _ _ _ h;first|exact h|cases h.1)(l:Region.wanted oi (yielded ops a.tmps)=true:=by rfl)(m:a.put (some d) v=a':=by(simp only[Act.put,aAA,aAD,aAE];try rfl)):fD P b ops Q S k (fuel+1) listed a w:=tk r f o s h q n p j e g l m
def rB{Q:Fg}{b:Region.Mode}{S:K6}{o:Oper}(i:Nat)(h:∀c:Fi,Shut (∀a w,S w->(S w->fD P b ops Q S k fuel (listed.setIfInBounds i true) a w)->c a w)->if Region.wanted o (yielded ops a.tmps)=true then Oper.wp P o a w c Q else c (a.put o.dst ud) w)(d:ops[i]?=some o:=by rfl)(e:Region.ready b ops listed=[i]:=by kernel_rfl):fD P b ops Q S k (fuel+1) listed a w:=rk d h e
def rC{Q:Fg}{b:Region.Mode}{S:K6}{o:Oper}(h:∀c:Fi,Shut (∀a w,fD P b ops Q S k fuel (listed.setIfInBounds k true) a w->c a w)->if Region.wanted o (yielded ops a.tmps)=true then Oper.wp P o a w c Q else c (a.put o.dst ud) w)(d:ops[k]?=some o:=by rfl)(e:Region.ready b ops listed=[k]:=by kernel_rfl):fD P b ops Q S k (fuel+1) listed a w:=rl d h e
theorem dk{Q:Fg}{b:Region.Mode}{S:K6}(c:Region.ready b ops listed=[])(h:Q .normal a w):∀fuel,fD P b ops Q S k fuel listed a w
 |0=>⟨c,h⟩
 |_+1=>⟨fun _=>h,by rw[c];simp⟩
def sk{Q:Fg}{S:K6}{id:Nat}(k:Nat)(b:P.follows .mixedOrders=true)(c:S w.drew)(h:S w.drew->fD P .any ops Q S k ops.size (Array.replicate ops.size false) a w.drew):(Code.region id ops true).wp P Q a w:=
 wp_region_any b (yQ _ _ _ _ (h c))
section
variable [aB]
def pe:∃i z,zQ.prog.info? 262=some i/\i.zero=some z/\i.size=1/\i.bytes=16/\z.cells.size=1:=by
 obtain⟨i,d⟩:∃i,zQ.prog.info? 262=some i:=by
  cases h:zQ.prog.info? 262 with
  |none=>have:=congrArg Option.isSome h;rw[show(zQ.prog.info? 262).isSome=true by kernel_rfl] at this;cases this
  |some i=>exact⟨i,rfl⟩
 have e8:(zQ.prog.info? 262).map (·.size)=some 1:=kR
 have a:(zQ.prog.info? 262).map (·.bytes)=some 16:=kR
 have b:((zQ.prog.info? 262).bind (·.zero)).map (·.cells.size)=some 1:=kR
 rw[d] at e8 a b;simp only[aAX,aAF,aCO] at e8 a b;cases c:i.zero with
 |none=>rw[c] at b;cases b
 |some z=>rw[c] at b;exact⟨i,z,d,c,e8,a,by simpa using b⟩
structure LJ (W:WR) (l m:Nat) (cr:Int) (dm:Nat) (J:K3):Prop where
 lo:aB.b0<=l
 ex:∃jv:SV,W.heap[l]?=ob #[.map (some m),.int .i64 cr,.slice jv.a jv.n jv.c,.map (some dm)] 128/\W.ownsRow aB.b0 262 1 (.slice jv.a jv.n jv.c) J.length J
def note(l m:Nat)(H:Int)(K:Nat)(J:K3)(p:Fh)(n:vZ)(W:WR)(h:LJ W l m H K J)(T:J.length<400000000000):
  Cq 131 #[pq l 0,.iface p n] W fun e w'=>e=rU/\LJ w' l m H K (J++[.iface p n])/\aU [l] [262] W w':=by
 have⟨i,z,Q,O,P,M,D⟩:=pe;have⟨b,C,r⟩:=h.ex;have S:=aG C;have E:=h.lo;have c2:W.cell? ⟨l,2,none⟩=some (.slice b.a b.n b.c):=by rw[aJ C 2];rfl
 have s:Bw W (W.nc #[.iface p n] 262):=ba;have a:=dI r s;have R:(W.alloc (.cells #[.iface p n] 262)).cell? ⟨W.heap.size,0,none⟩=some (.iface p n):=by rw[aJ (aM W _) 0];rfl
 have q:=aT (p:=.ce #[.iface p n] 262) C;go_enter (qz func131),ntmps131;go_wp2_with (at_builtin;go_loud (refine jW _ rI _ _ 126 rI aB.b0 262 i z 1 16 ((aC 126).tr underlying126) Q O P M D oM (.sl b.a b.n b.c) J.length J rI a ⟨W.heap.size,0,none⟩ 1 1 [.iface p n] rI rfl (fun j v F=>?_) (fun u I=>?_) oM sQ9 oM sQ0 (W.heap.size+1) sI ?_))
 .obtain rfl:j=0:=by rcases j with _|j;rfl;simp at F
  simp only[aAP,aAF] at F;subst F;exact R
 .simp only[aAB] at I;subst I;rfl
 intro g cap x c f N L w;have y:∀k,(Value.slice b.a b.n b.c).ownBlock=some k->k≠l:=fun k A=>by have⟨B,d⟩:=cL a k A;exact dP d q dC
 have o:x.heap[l]?=_:=(f.block l (aG q) (fun e=>y l e.symm rfl)).tr q;have d2:x.cell? ⟨l,2,none⟩=some (.slice b.a b.n b.c):=by rw[aJ o 2];rfl
 have U:=aQ o 2;clear c2;go_wp2;simp[bodyPost,results,results131,go_sem];refine⟨⟨E,⟨some ⟨g,0,none⟩,J.length+1,cap⟩,aO o,?_⟩,?_⟩
 .have G:(J++[Value.iface p n]).length=J.length+1:=sI
  rw[G];exact dM c fun k A=>heap_setCell_other x ⟨l,2,none⟩ k _ (fun e=>by have⟨B,d⟩:=cL c k A;exact dP d o dC e)
 .refine aU.tr (v:=W.nc #[.iface p n] 262) (.aF s _ _) (aU.tr (v:=x) ?_ ?_)
  .exact(aU.grown f aB.Fv a w).mono (fun k _ h=>by cases h) fun t h=>h
  .exact(aU.sC x l 2 _).mono (fun k _ h=>h) (fun t h=>by cases h)
end
section
open Go.Shelf
section
def Aj:(⟨((List.append [0,1,2,2,3,3,3,3,4,4,4,4,4,4,4,4,5,5,5,5,5,5,5,5,5,5,5,5,5,5,5,5,6,6,6,6,6,6,6,6,6,6,6,6,6,6,6,6,6,6,6,6,6,6,6,6,6,6,6,6,6,6,6,6] [7,7,7,7,7,7,7,7,7,7,7,7,7,7,7,7,7,7,7,7,7,7,7,7,7,7,7,7,7,7,7,7,7,7,7,7,7,7,7,7,7,7,7,7,7,7,7,7,7,7,7,7,7,7,7,7,7,7,7,7,7,7,7,7]).append (List.append [8,8,8,8,8,8,8,8,8,8,8,8,8,8,8,8,8,8,8,8,8,8,8,8,8,8,8,8,8,8,8,8,8,8,8,8,8,8,8,8,8,8,8,8,8,8,8,8,8,8,8,8,8,8,8,8,8,8,8,8,8,8,8,8] [8,8,8,8,8,8,8,8,8,8,8,8,8,8,8,8,8,8,8,8,8,8,8,8,8,8,8,8,8,8,8,8,8,8,8,8,8,8,8,8,8,8,8,8,8,8,8,8,8,8,8,8,8,8,8,8,8,8,8,8,8,8,8,8])).toArray⟩:Lp)=Lib.len8tab:=by decide+kernel
def vV(i:Int)(a:0<=i)(b:i<256)(w:WR):(Instr.index 9 (.string Lib.len8tab) (.int .u8 i)).run zQ.prog w=.ok (.int .u8 (Lib.len8 i)) w:=
 Lib.run_index_len8tab w 9 .u8 i kR a oM
def kT(i:Int)(a:0<=i)(b:i<256):0<=Lib.len8 i/\Lib.len8 i<=8:=by rw[Lib.len8_of i a oM];have:=Lib.bitLen_le8' i a oM;omega
def BF(x:Int)(w:WR)(j:0<=x)(i:x<=18446744073709551615):
  Cq 201 #[vU x] w fun e w'=>e=.rt (vI (Lib.bitLen x.toNat))/\w'=w:=by
 rcases aCr (x) 4294967296 with h|h
 .rcases aCr (x) 65536 with g|g
  .rcases aCr (x) 256 with d|d
   .have a:0<=x:=oM
    have k1:x<256:=oM
    have f:=vV (x) a k1;have⟨b,c⟩:=kT (x) a k1;go_enter (qz func201),ntmps201;rw[Aj];go_wp2;go_ret;refine⟨congrArg Ending.returned (congrArg (Value.int IntKind.i64) ?_),rfl⟩;rw[Lib.len8_of (x) a oM]
   .have a:0<=x / 256:=oM
    have k1:x / 256<256:=oM
    have f:=vV (x / 256) a k1;have⟨b,c⟩:=kT (x / 256) a k1;go_enter (qz func201),ntmps201;rw[Aj];go_wp2;go_ret;refine⟨congrArg Ending.returned (congrArg (Value.int IntKind.i64) ?_),rfl⟩;rw[Lib.len8_of (x / 256) a oM];have s:=Lib.bitLen_shift8 x.toNat oM oM;have e:(x / 256).toNat=x.toNat / 256:=oM
    rw[e];omega
  .rcases aCr (x / 65536) 256 with d|d
   .have a:0<=x / 65536:=oM
    have k1:x / 65536<256:=oM
    have f:=vV (x / 65536) a k1;have⟨b,c⟩:=kT (x / 65536) a k1;go_enter (qz func201),ntmps201;rw[Aj];go_wp2;go_ret;refine⟨congrArg Ending.returned (congrArg (Value.int IntKind.i64) ?_),rfl⟩;rw[Lib.len8_of (x / 65536) a oM];have s:=Lib.bitLen_shift16 x.toNat oM oM;have e:(x / 65536).toNat=x.toNat / 65536:=oM
    rw[e];omega
   .have a:0<=x / 65536 / 256:=oM
    have k1:x / 65536 / 256<256:=oM
    have f:=vV (x / 65536 / 256) a k1;have⟨b,c⟩:=kT (x / 65536 / 256) a k1;go_enter (qz func201),ntmps201;rw[Aj];go_wp2;go_ret;refine⟨congrArg Ending.returned (congrArg (Value.int IntKind.i64) ?_),rfl⟩;rw[Lib.len8_of (x / 65536 / 256) a oM];have s:=Lib.bitLen_shift24 x.toNat oM oM;have e:(x / 65536 / 256).toNat=x.toNat / 16777216:=oM
    rw[e];omega
 .rcases aCr (x / 4294967296) 65536 with g|g
  .rcases aCr (x / 4294967296) 256 with d|d
   .have a:0<=x / 4294967296:=oM
    have k1:x / 4294967296<256:=oM
    have f:=vV (x / 4294967296) a k1;have⟨b,c⟩:=kT (x / 4294967296) a k1;go_enter (qz func201),ntmps201;rw[Aj];go_wp2;go_ret;refine⟨congrArg Ending.returned (congrArg (Value.int IntKind.i64) ?_),rfl⟩;rw[Lib.len8_of (x / 4294967296) a oM];have s:=Lib.bitLen_shift32 x.toNat oM oM;have e:(x / 4294967296).toNat=x.toNat / 4294967296:=oM
    rw[e];omega
   .have a:0<=x / 4294967296 / 256:=oM
    have k1:x / 4294967296 / 256<256:=oM
    have f:=vV (x / 4294967296 / 256) a k1;have⟨b,c⟩:=kT (x / 4294967296 / 256) a k1;go_enter (qz func201),ntmps201;rw[Aj];go_wp2;go_ret;refine⟨congrArg Ending.returned (congrArg (Value.int IntKind.i64) ?_),rfl⟩;rw[Lib.len8_of (x / 4294967296 / 256) a oM];have s:=Lib.bitLen_shift40 x.toNat oM oM;have e:(x / 4294967296 / 256).toNat=x.toNat / 1099511627776:=oM
    rw[e];omega
  .rcases aCr (x / 4294967296 / 65536) 256 with d|d
   .have a:0<=x / 4294967296 / 65536:=oM
    have k1:x / 4294967296 / 65536<256:=oM
    have f:=vV (x / 4294967296 / 65536) a k1;have⟨b,c⟩:=kT (x / 4294967296 / 65536) a k1;go_enter (qz func201),ntmps201;rw[Aj];go_wp2;go_ret;refine⟨congrArg Ending.returned (congrArg (Value.int IntKind.i64) ?_),rfl⟩;rw[Lib.len8_of (x / 4294967296 / 65536) a oM];have s:=Lib.bitLen_shift48 x.toNat oM oM;have e:(x / 4294967296 / 65536).toNat=x.toNat / 281474976710656:=oM
    rw[e];omega
   .have a:0<=x / 4294967296 / 65536 / 256:=oM
    have k1:x / 4294967296 / 65536 / 256<256:=oM
    have f:=vV (x / 4294967296 / 65536 / 256) a k1;have⟨b,c⟩:=kT (x / 4294967296 / 65536 / 256) a k1;go_enter (qz func201),ntmps201;rw[Aj];go_wp2;go_ret;refine⟨congrArg Ending.returned (congrArg (Value.int IntKind.i64) ?_),rfl⟩;rw[Lib.len8_of (x / 4294967296 / 65536 / 256) a oM];have s:=Lib.bitLen_shift56 x.toNat oM oM;have e:(x / 4294967296 / 65536 / 256).toNat=x.toNat / 72057594037927936:=oM
    rw[e];omega
def qh(x:Int)(w:WR)(d:0<=x)(c:x<=18446744073709551615):
  Cq 201 #[vU x] w fun e w'=>∃n:Int,0<=n/\n<=64/\e=.rt (vI n)/\w'=w:=
 (BF x w d c).mono fun _ _ ⟨b,a⟩=>⟨_,oM,by have:=Lib.bitLen_le x.toNat 64 lR oM;omega,b,a⟩
end
end
section
variable [aB]
attribute [local go_sem] wd
def F4{b:SV}(h:W.ownsRow aB.b0 262 1 (.slice b.a b.n b.c) J.length J):b.n=J.length:=by
 rcases h.2 with⟨a,d⟩| ⟨g,cap,c,a,_⟩
 .simp only[Value.slice.injEq] at a;omega
 .simp only[Value.slice.injEq] at a;exact a.2.1
def qs{a:yj}{c:Nat}(h:W.ownsRow aB.b0 262 1 (.slice a J.length c) J.length J)(b:Nat)(d:b<=J.length):W.ownsRow aB.b0 262 1 (.slice a b c) (J.take b).length (J.take b):=by
 have l:(J.take b).length=b:=by simp[d]
 rw[l];rcases h.2 with⟨f,n⟩| ⟨g,cap,j,f,_⟩
 .obtain rfl:J=[]:=aAZ n;simp only[Value.slice.injEq] at f;obtain⟨rfl,_,rfl⟩:=f;obtain rfl:b=0:=by simpa using d
  exact⟨sI,.inl ⟨rfl,rfl⟩⟩
 .simp only[Value.slice.injEq] at f;obtain⟨rfl,_,rfl⟩:=f;obtain⟨m,k⟩:∃m,J.length=b+m:=⟨J.length - b,oM⟩;have i:=h;rw[k] at i;have e:J=J.take b++J.drop b:=(aBA b J).symm;rw[e] at i;exact FI i oM
def qu{l m dm:Nat}{cr:Int}(h:Nat)(F:h<=J.length)(hJ:J.length<400000000000)(I:Nat->K6)(r:∀n w,I n w->LJ w l m cr dm J)(y:∀n w,h<=n->n<J.length->I (n+1) w->∃t v fn,J[n]?=some (.iface t v)/\(∀w,(Go.method 543 t v "purser/ledger.undo").run zQ.prog w=.ok (fn,v) w)/\(∀args w,(callFunc fn args).run zQ.prog w=.ok (.enter fn args) w)/\Cq fn #[v,pq l 0] w fun e w'=>e=rU/\I n w')(H:I J.length W):Cq 223 #[pq l 0,vI (h:Int)] W fun e w'=>e=rU/\∃w1,I h w1/\LJ w' l m cr dm (J.take h)/\aU [l] [] w1 w':=by
 have⟨u,j,a⟩:=(r _ _ H).ex;have G:=F4 a;have c2:=bq j 2;rw[G] at c2;have x:=aG j;have i1:iw ((J.length:Int) - 1)=(J.length:Int) - 1:=iW;have K:=US H;have p:=US y;have c:=US r;clear y r H;go_enter (qz func223),ntmps223;go_wp2_with fail;clear c2 j a G i1 x;go_loopw [4] (fun i w=>∃n:Nat,i=vI ((n:Int) - 1)/\h<=n/\n<=J.length/\Shut (I n w)) (fun i _=>(Go.RowKit.intOf i+1).toNat)
 case atStart=>exact⟨J.length,rfl,F,aAz _,K⟩
 case round=>
  obtain⟨n,rfl,h1,h2,B⟩:=hrel;have⟨u,j,a⟩:=(c.out _ _ B.out).ex;have G:=F4 a;have c2:=bq j 2;rw[G] at c2 a;have x:=aG j;by_cases S:h<n
  .obtain⟨k,rfl⟩:∃k,n=k+1:=⟨n - 1,oM⟩;have T:((k+1:Nat):Int) - 1=(k:Int):=oM
   rw[T];have⟨t,v,fn,hj,L,O,f⟩:=p.out k wr oM oM B.out;obtain⟨g,cap,b,z⟩:∃g cap b,Value.slice u.a J.length u.c=.sl (some (ad g 0)) J.length cap/\wr.heap[g]?=ob b 262:=by
    rcases a.2 with⟨_,s⟩| ⟨g,cap,b,s,_,V,_⟩
    .omega
    .exact⟨g,cap,b,s,V⟩
   simp only[Value.slice.injEq] at z;obtain⟨⟨M,_,rfl⟩,a0⟩:=z;rw[M] at c2 a;have q:=(a.cells (g:=g) rfl) k _ hj;have o:(⟨g,0,none⟩:Addr).add k=⟨g,k,none⟩:=by unfold Addr.add;split<;>simp_all
   rw[o] at q;clear o;have P:(k:Int)<(J.length:Int):=oM
   have Z:(h:Int)<=(k:Int):=oM
   have i2:iw ((k:Int) - 1)=(k:Int) - 1:=iW;have E:=US f;clear f B T p c;go_wp2_with fail;apply E.out.mono;rintro e w2 ⟨rfl,A⟩;have C:=US A;clear A E L O;go_wp2_with fail;refine⟨⟨k,rfl,oM,oM,C⟩,?_⟩;simp[Go.RowKit.intOf]
  .obtain rfl:n=h:=oM
   have U:¬((n:Int)<=(n:Int) - 1):=oM
   have d:=qs a n F;have f2:=aQ j 2;have R:(n:Int)<=(J.length:Int):=oM
   have Q:J.length<=u.c:=by
    rcases a.2 with⟨s,X⟩| ⟨g,cap,b,s,_,_,N,_⟩
    .omega
    .simp only[Value.slice.injEq] at s;obtain⟨_,_,rfl⟩:=s;exact N
   go_wp2_with fail;simp[bodyPost,results,results223,go_sem];refine⟨wr,B.out,⟨(c.out _ _ B.out).lo,⟨u.a,n,u.c⟩,aO j,dM d fun k Y=>heap_setCell_other wr ⟨l,2,none⟩ k _ (fun e=>?_)⟩,aU.sC _ _ _ _⟩;have⟨b,D⟩:=cL d k Y;exact dP D j dC e
end
section
open Go.Extern.Stop Go.Stop Go.Extern
section
section
variable (w:WR)
def VN(t:Addr):(ReflectliteValue.unpack (.iface 301 (.pointer (some t)))).run zQ.prog w=.ok (.agg #[pq 11 301,pq w.heap.size 0,.int .u64 150]) (w.alloc (.cells #[.pointer (some t)] 301)):=kR
def OT(e:Addr):(ReflectliteValue.unpack (.iface 299 (.pointer (some e)))).run zQ.prog w=.ok (.agg #[pq 11 299,pq w.heap.size 0,.int .u64 150]) (w.alloc (.cells #[.pointer (some e)] 299)):=kR
def sf(a:Addr):(ReflectliteValue.methodAny (ReflectliteValue.valueError "reflectlite.Value.Type" 0) (fun t _ _ _=>ReflectliteType.toType t) #[.agg #[pq 11 301,.pointer (some a),.int .u64 150]]).run zQ.prog w=.ok (.iface 355 (.agg #[pq 11 301])) w:=kR
def fg(h:vZ):(Go.method 543 355 (.agg #[h]) "Kind").run zQ.prog w=.ok (362,h) w:=kR
def fh(h:vZ):(Go.method 543 355 (.agg #[h]) "Elem").run zQ.prog w=.ok (383,.agg #[h]) w:=kR
def zK(h:vZ):(Go.method 543 355 (.agg #[h]) "Implements").run zQ.prog w=.ok (384,.agg #[h]) w:=kR
def uL(h:vZ):(Go.method 543 355 (.agg #[h]) "AssignableTo").run zQ.prog w=.ok (381,.agg #[h]) w:=kR
def OU:((ReflectliteType.abiMethod fun t=>Functor.map (fun a:Nat=>Value.int IntKind.u8 (a:Int)) (Rtype.kind t)) #[pq 11 301]).run zQ.prog w=.ok (.int .u8 22) w:=kR
def OV:((ReflectliteType.abiMethod fun t=>Functor.map (fun a:Nat=>Value.int IntKind.u8 (a:Int)) (Rtype.kind t)) #[pq 11 299]).run zQ.prog w=.ok (.int .u8 22) w:=kR
def si:(ReflectliteType.method ReflectliteType.elem #[.agg #[pq 11 301]]).run zQ.prog w=.ok (.iface 355 (.agg #[pq 11 299])) w:=kR
def sj:(ReflectliteType.relation "Implements" ReflectliteType.implements_ #[.agg #[pq 11 299],.iface 355 (.agg #[pq 11 36])]).run zQ.prog w=.ok (.bool true) w:=kR
def VO(v:vZ):(ReflectliteType.typeOf #[.iface 299 v]).run zQ.prog w=.ok (.iface 355 (.agg #[pq 11 299])) w:=kR
def VP:(ReflectliteType.relation "AssignableTo" ReflectliteType.assignableTo #[.agg #[pq 11 299],.iface 355 (.agg #[pq 11 299])]).run zQ.prog w=.ok (.bool true) w:=kR
def KA(a:Addr):(ReflectliteValue.parts (.agg #[pq 11 301,.pointer (some a),.int .u64 150])).run zQ.prog w=.ok (some (301,a,150)) w:=kR
def VQ(a:Addr):(ReflectliteValue.parts (.agg #[pq 11 299,.pointer (some a),.int .u64 406])).run zQ.prog w=.ok (some (299,a,406)) w:=kR
def VR(a:Addr):(ReflectliteValue.parts (.agg #[pq 11 299,.pointer (some a),.int .u64 150])).run zQ.prog w=.ok (some (299,a,150)) w:=kR
def fj:(Rtype.elem? 301).run zQ.prog w=.ok (some 299) w:=kR
def Hq(p:Addr):(ReflectliteValue.mk 299 p ReflectliteValue.flagAddr).run zQ.prog w=.ok (.agg #[pq 11 299,.pointer (some p),.int .u64 406]) w:=kR
def VS:(Rtype.directlyAssignable 299 299).run zQ.prog w=.ok (true) w:=kR
end
def xt(z:Sem vZ)(f:Fh->Addr->Nat->Nat->Sem vZ)(v:vZ):ReflectliteValue.method z f #[v]=ReflectliteValue.parts v>>=fun p=>p.elim z fun q=>f q.1 q.2.1 q.2.2 (q.2.2 % 32):=by show(ReflectliteValue.parts v>>=_)=_;congr 1;funext p;rcases p with _| ⟨t,a,b⟩<;>rfl
def fo(a p:Addr)(W:WR)(b:W.cell? a=some (.pointer (some p))):
  (ReflectliteValue.method (ReflectliteValue.valueError "reflectlite.Value.IsNil" 0) ReflectliteValue.isNil #[.agg #[pq 11 301,.pointer (some a),.int .u64 150]]).run zQ.prog W=.ok (.bool false) W:=by
 rw[xt];simp only[Sem.run_bind,KA,Result.andThen_ok,Option.elim];simp[ReflectliteValue.isNil,loadVar,isAgg,underlying,underlying301,b,Result.andThen]
def fp(a p:Addr)(W:WR)(b:W.cell? a=some (.pointer (some p))):
  (ReflectliteValue.method (ReflectliteValue.valueError "reflectlite.Value.Elem" 0) ReflectliteValue.elem #[.agg #[pq 11 301,.pointer (some a),.int .u64 150]]).run zQ.prog W=.ok (.agg #[pq 11 299,.pointer (some p),.int .u64 406]) W:=by
 rw[xt];simp only[Sem.run_bind,KA,Result.andThen_ok,Option.elim];simp[ReflectliteValue.elem,loadVar,isAgg,underlying,underlying301,b,Result.andThen,fj,Hq]
def B8(a b e:Addr)(c:vZ)(W:WR)(g:W.cell? b=some (.pointer (some e)))(f:W.cell? a=some c)(d:W.frozen? a=false):
  (ReflectliteValue.set #[.agg #[pq 11 299,.pointer (some a),.int .u64 406],.agg #[pq 11 299,.pointer (some b),.int .u64 150]]).run zQ.prog W=.ok (.tuple #[]) (W.setCell a (.pointer (some e))):=by
 show(ReflectliteValue.parts (.agg #[pq 11 299,.pointer (some a),vU 406])>>=fun p=>ReflectliteValue.parts (.agg #[pq 11 299,.pointer (some b),vU 150])>>=fun q=>_).run zQ.prog W=_;simp only[Sem.run_bind,VQ,VR,Result.andThen];simp[ReflectliteValue.flagAddr,loadVar,isAgg,underlying,underlying299,g,Result.andThen,VS,storeVar,Value.cells,storeCells,Addr.add];rw[run_store zQ.prog W a _ _ rI];simp[f,d]
def Hr(e t:Addr)(a:vZ)(w:WR)(i:w.cA 4 0=some (.iface 355 (.agg #[pq 11 36])))(c:w.cell? t=some a)(f:w.frozen? t=false):
  Cq 222 #[.iface 299 (.pointer (some e)),.iface 301 (.pointer (some t))] w fun u s=>u=.rt (.bool true)/\s=((((w.alloc (.ce #[.pointer (some t)] 301)).alloc (.ce #[pq 11 301,pq w.heap.size 0,vU 150] 326)).alloc (.ce #[pq 11 301,pq w.heap.size 0,vU 150] 326)).alloc (.ce #[.pointer (some e)] 299)).setCell t (.pointer (some e)):=by
 have g:= @run_callFunc_extern zQ.prog 257 _ (fun args=>ReflectliteValue.unpack (args.getD 0 (.tuple #[]))) Yt kR kR kR kR;have k:= @run_callFunc_extern zQ.prog 258 _ (ReflectliteValue.methodAny (ReflectliteValue.valueError "reflectlite.Value.Type" 0) (fun t _ _ _=>ReflectliteType.toType t)) Yu kR kR kR kR;have l:= @run_callFunc_extern zQ.prog 259 _ (ReflectliteValue.method (ReflectliteValue.valueError "reflectlite.Value.IsNil" 0) ReflectliteValue.isNil) Yv kR kR kR kR;have q:= @run_callFunc_extern zQ.prog 362 _ (ReflectliteType.abiMethod fun t=>do pure (vB (<-Rtype.kind t))) Yy kR kR kR kR;have o:= @run_callFunc_extern zQ.prog 383 _ (ReflectliteType.method ReflectliteType.elem) Y0 kR kR kR kR;have j:= @run_callFunc_extern zQ.prog 384 _ (ReflectliteType.relation "Implements" ReflectliteType.implements_) Y1 kR kR kR kR;have n:= @run_callFunc_extern zQ.prog 287 _ (ReflectliteType.typeOf) R2 kR kR kR kR;have p:= @run_callFunc_extern zQ.prog 381 _ (ReflectliteType.relation "AssignableTo" ReflectliteType.assignableTo) Yz kR kR kR kR;have m:= @run_callFunc_extern zQ.prog 288 _ (ReflectliteValue.method (ReflectliteValue.valueError "reflectlite.Value.Elem" 0) ReflectliteValue.elem) Yw kR kR kR kR;have r:= @run_callFunc_extern zQ.prog 289 _ (ReflectliteValue.set) Yx kR kR kR kR;have D:=VN;have H:=OT;have C:=sf;have L:=fg;have G:=fh;have K:=zK;have A:=uL;have E:=OU;have F:=OV;have B:=si;have z:=sj;have v:=VO;have y:=VP;have d:4<w.heap.size:=by
  rcases aCi 4 w.heap.size with h|h
  .exact h
  .simp[World.cell?,aBh h] at i
 have b:t.block<w.heap.size:=by
  rcases aCi t.block w.heap.size with h|h
  .exact h
  .simp[World.cell?,aBh h] at c
 have I:=fo ⟨w.heap.size,0,none⟩ t ((w.nc #[.pointer (some t)] 301).nc #[pq 11 301,pq w.heap.size 0,vU 150] 326) sI;have x:((w.alloc (.cells #[.pointer (some t)] 301)).alloc (.cells #[pq 11 301,pq w.heap.size 0,.int .u64 150] 326)).cell? ⟨4,0,none⟩=some (.iface 355 (.agg #[pq 11 36])):=by rw[World.cell?_alloc_lt _ _ ⟨4,0,none⟩ sQ0,World.cell?_alloc_lt _ _ ⟨4,0,none⟩ d];exact i
 have el:=fp ⟨w.heap.size,0,none⟩ t (((w.nc #[.pointer (some t)] 301).nc #[pq 11 301,pq w.heap.size 0,vU 150] 326).nc #[pq 11 301,pq w.heap.size 0,vU 150] 326) (by rw[World.cell?_alloc_lt _ _ ⟨w.heap.size,0,none⟩ sQ0];simp);have J:=B8 t ⟨w.heap.size+1+1+1,0,none⟩ e a ((((w.nc #[.pointer (some t)] 301).nc #[pq 11 301,pq w.heap.size 0,vU 150] 326).nc #[pq 11 301,pq w.heap.size 0,vU 150] 326).nc #[.pointer (some e)] 299)
  (by rw[World.cell?_alloc_at _ _ _ _ sI];rfl)
  (by rw[World.cell?_alloc_lt _ _ t sQ0,World.cell?_alloc_lt _ _ t sQ0,World.cell?_alloc_lt _ _ t sQ0,World.cell?_alloc_lt _ _ t b];exact c)
  (by rw[World.frozen?_alloc_old _ _ t sQ0,World.frozen?_alloc_old _ _ t sQ0,World.frozen?_alloc_old _ _ t sQ0,World.frozen?_alloc_old _ _ t (Nat.ne_of_lt b)];exact f)
 go_enter (qz func222),ntmps222;go_wp2;refine wp_loop_rounds 1 ?_;rw[rounds_succ];go_wp2;go_ret;exact⟨rfl,rfl⟩
end
end
section
open Go.Extern.Stop Go.Stop Go.Extern
variable [aB]
def fs(v:vZ)(w:WR):(ReflectliteType.typeOf #[.iface 407 v]).run zQ.prog w=.ok (.iface 355 (.agg #[pq 11 407])) w:=kR
def OX(w:WR):((ReflectliteType.method fun t=>do Rtype.noPackHeld "Comparable" t;Functor.map (fun a:TypeInfo=>Value.bool a.comparable) (typeInfo t)) #[.agg #[pq 11 407]]).run zQ.prog w=.ok (.bool true) w:=kR
def GI(v:vZ)(w:WR):(Go.method 543 355 v "Comparable").run zQ.prog w=.ok (382,v) w:=kR
def GJ:(zQ.prog.info? 407).map (·.comparable)=some true:=kR
def GK:(zQ.prog.info? 431).map (·.size)=some 1:=kR
def KD(v:vZ)(a:Fh)(w:WR):(Instr.typeAssert (.iface 407 v) a 423 true).run zQ.prog w=.ok (.tuple #[.nilIface,.bool false]) w:=run_typeAssert_lacksB ((aC 423).tr underlying423) kR kR v a w
def KE(v:vZ)(a:Fh)(w:WR):(Instr.typeAssert (.iface 407 v) a 363 true).run zQ.prog w=.ok (.tuple #[.nilIface,.bool false]) w:=run_typeAssert_lacksB ((aC 363).tr underlying363) kR kR v a w
def DI(v:vZ)(a:Fh)(w:WR):(Instr.typeAssert (.iface 407 v) a 365 true).run zQ.prog w=.ok (.tuple #[.nilIface,.bool false]) w:=run_typeAssert_lacksB ((aC 365).tr underlying365) kR kR v a w
def KF(v:vZ)(a:Fh)(w:WR):(Instr.typeAssert (.iface 299 v) a 423 true).run zQ.prog w=.ok (.tuple #[.nilIface,.bool false]) w:=run_typeAssert_lacksB ((aC 423).tr underlying423) kR kR v a w
def ft(v:vZ)(a:Fh)(w:WR):(Instr.typeAssert (.iface 299 v) a 363 true).run zQ.prog w=.ok (.tuple #[.iface 299 v,.bool true]) w:=run_typeAssert_hasB ((aC 363).tr underlying363) kR v a w
def fx(v:vZ)(w:WR):(Go.method 543 299 v "Unwrap").run zQ.prog w=.ok (375,v) w:=kR
def sr(a:Addr)(w:WR):
  Cq 371 #[.iface 407 (.pointer (some a)),.iface 407 (.pointer (some a))] w fun e w'=>e=.rt (.bool true)/\w'=w:=by
 have⟨i,g,b⟩:=aAU.1 GJ;have⟨j,f,h⟩:=aAU.1 GK;have d:= @run_callFunc_extern zQ.prog 287 _ ReflectliteType.typeOf R2 kR kR kR kR;have c:= @run_callFunc_extern zQ.prog 382 _ (ReflectliteType.method fun t=>do Rtype.noPackHeld "Comparable" t;pure (.bool (<-typeInfo t).comparable)) Sm kR kR kR kR;have k:=fs;have m:=OX;have l:=GI;have heq:=run_eql_iface_ptr_same (P:=zQ.prog) w a ((aC 36).tr underlying36) ((aC 407).tr underlying407) g b f;go_enter (qz func371),ntmps371;go_wp2;refine wp_loop_rounds 1 ?_;rw[rounds_succ];go_wp2;go_ret;exact⟨rfl,rfl⟩
def fy{a b:Addr}(d:a≠b)(n:w.heap[a.block]?=ob ca ta)(k:w.heap[b.block]?=ob cb tb):
  Cq 371 #[.iface 407 (.pointer (some a)),.iface 407 (.pointer (some b))] w fun e w'=>e=.rt (.bool false)/\w'=w:=by
 have⟨i,l,c⟩:=aAU.1 GJ;have⟨j,m,f⟩:=aAU.1 GK;have h:= @run_callFunc_extern zQ.prog 287 _ ReflectliteType.typeOf R2 kR kR kR kR;have g:= @run_callFunc_extern zQ.prog 382 _ (ReflectliteType.method fun t=>do Rtype.noPackHeld "Comparable" t;pure (.bool (<-typeInfo t).comparable)) Sm kR kR kR kR;have p:=fs;have y:=OX;have o:=GI;have u:=KD;have v:=KE;have x:=DI;have q:=KF;have s:=ft;have r:=fx;have heq:=run_eql_iface_ptr_other (P:=zQ.prog) w ((aC 36).tr underlying36) ((aC 407).tr underlying407) l c m (by rw[f];decide) d n k;go_enter (qz func371),ntmps371;go_wp2;refine wp_loop_rounds 1 ?_;rw[rounds_succ];go_wp2;go_ret;exact⟨rfl,rfl⟩
def KG{a b:Addr}(r:w.cA fb 2=some (.iface 407 (.pointer (some a))))(d:a≠b)(o:w.heap[a.block]?=ob ca ta)(k:w.heap[b.block]?=ob cb tb):
  Cq 371 #[.iface 299 (pq fb 0),.iface 407 (.pointer (some b))] w fun e w'=>e=.rt (.bool false)/\w'=w:=by
 have⟨i,m,c⟩:=aAU.1 GJ;have⟨j,n,f⟩:=aAU.1 GK;have h:= @run_callFunc_extern zQ.prog 287 _ ReflectliteType.typeOf R2 kR kR kR kR;have g:= @run_callFunc_extern zQ.prog 382 _ (ReflectliteType.method fun t=>do Rtype.noPackHeld "Comparable" t;pure (.bool (<-typeInfo t).comparable)) Sm kR kR kR kR;have q:=fs;have A:=OX;have p:=GI;have x:=KD;have y:=KE;have z:=DI;have s:=KF;have v:=ft;have u:=fx;have heq:=run_eql_iface_ptr_other (P:=zQ.prog) w ((aC 36).tr underlying36) ((aC 407).tr underlying407) m c n (by rw[f];decide) d o k;have l:=run_eql_iface_types (P:=zQ.prog) 299 407 (pq fb 0) (.pointer (some b)) ((aC 36).tr underlying36) dC w;go_enter (qz func371),ntmps371;go_wp2;refine wp_loop_rounds 2 ?_;rw[rounds_succ];go_wp2;rw[rounds_succ];go_wp2;go_ret;exact⟨rfl,rfl⟩
def BO{a d i:Addr}{t v:Ff}{td s:Fh}{g:Int}(o:W.cA fb 2=some (.iface 407 (.pointer (some a))))(u:fb<W.heap.size)(p:W.cA 0 0=some (.iface 407 (.pointer (some d))))(c3:W.cA 3 0=some (.iface 407 (.pointer (some i))))(l:3<W.heap.size)(r:W.heap[a.block]?=ob ca ta)(m:W.heap[d.block]?=ob t td)(f:W.heap[i.block]?=ob v s)(j:a≠d)(h:a≠i):
  Cq 370 #[.agg #[vI g,.iface 299 (pq fb 0)]] W fun e w'=>e=.rt (vI 0)/\Bw W w':=by
 have b:Bw W (W.nc #[vI g,.iface 299 (pq fb 0)] 217):=ba;have k:=(b.cell (p:=(ad fb 2)) u).tr o;have w:=(b.cell (p:=(ad 0 0)) (by show 0<_;omega)).tr p;have d3:=(b.cell (p:=(ad 3 0)) l).tr c3;have c:=bk b r;have q:=KG (b:=d) k j c (bk b m);have n:=KG (b:=i) k h c (bk b f);clear o k p c3 r m f c;go_enter (qz func370),ntmps370;go_wp2_with fail;apply q.mono;rintro e w1 ⟨rfl,rfl⟩;clear q;go_wp2_with fail;apply n.mono;rintro e w1 ⟨rfl,rfl⟩;clear n;go_wp2;go_ret;exact⟨rfl,b⟩
end
end Go.Mark
namespace Go.Mark
section
section
variable {α:Type} (f:α->Int)
def JL(x:α):List α->List α
 | []=>[x]
 |y::l=>if f x<f y then x::y::l else y::JL x l
def XW(l:List α):List α:=l.foldr (JL f) []
abbrev Up (l:List α):Prop:=l.Pairwise fun a b=>f a<f b
theorem uJ(x:α):∀l:List α,(JL f x l).Perm (x::l)
 | []=>.refl _
 |y::l=>by
  unfold JL;split
  .exact .refl _
  .exact((uJ x l).cons y).trans (.swap x y l)
theorem jY:∀l:List α,(XW f l).Perm l
 | []=>.refl _
 |x::l=>(uJ f x (XW f l)).trans ((jY l).cons x)
theorem QZ(x:α):∀l:List α,Up f l->(∀y∈l,f x≠f y)->Up f (JL f x l)
 | [],_,_=>by simp[JL]
 |y::l,h,d=>by
  unfold JL;have b:=aCl.1 h;split
  .rename_i c;exact aCl.2 ⟨fun z a=>by
    rcases aAx.1 a with rfl|a
    .exact c
    .exact Int.lt_trans c (b.1 z a),h⟩
  .rename_i c;refine aCl.2 ⟨fun z a=>?_,QZ x l b.2 fun z a=>d z (aAR _ a)⟩;rcases aAx.1 ((uJ f x l).mem_iff.1 a) with rfl|a
   .have:=d y (aAQ ..);omega
   .exact b.1 z a
theorem GF:∀l:List α,(l.map f).Nodup->Up f (XW f l)
 | [],_=>by simp[XW]
 |x::l,h=>by have a:=aBt.1 h;refine QZ f x (XW f l) (GF l a.2) fun y b e=>a.1 ?_;rw[e];exact aAI ((jY f l).mem_iff.1 b)
variable {f}
theorem pF:∀{l m:List α},l.Perm m->Up f l->Up f m->l=m
 | [],m,h,_,_=>(List.nil_perm.1 h).symm
 |x::l,[],h,_,_=>by simp at h
 |x::l,y::m,h,g,d=>by
  have b:=aCl.1 g;have a:=aCl.1 d;have e:x=y:=by
   rcases aAx.1 (h.mem_iff.1 (aAQ ..)) with e|e
   .exact e
   .rcases aAx.1 (h.mem_iff.2 (aAQ ..)) with c|c
    .exact c.symm
    .have:=a.1 x e;have:=b.1 y c;omega
  subst e;rw[pF (List.perm_cons x|>.1 h) b.2 a.2]
abbrev down (l:List α) (x:α) (j:Nat):List α:=l.take j++x::l.drop j
end
end
end Go.Mark
namespace Go.Mark
open Go.RowKit Go.Proofs Go.Proofs.Tryz
variable{base n g cap i:Nat}{W:WR}
def lZ(a:K3):Nat->K3->K3
 |_,[]=>a
 |o,u::l=>lZ (a.set o u) (o+1) l
theorem zA:∀(l a b:K3) (o:Nat),lZ (a++b) (a.length+o) l=a++lZ b o l
 | [],_,_,_=>rfl
 |u::l,a,b,o=>by rw[lZ,lZ,aCP _ _ oM,Nat.add_sub_cancel_left,aBY,zA l]
theorem DC:∀(l a c:K3) (b:K3),l.length=a.length->lZ (b++a++c) b.length l=b++l++c
 | [],a,c,b,h=>by
  cases a with
  |nil=>simp[lZ]
  |cons x a=>simp at h
 |u::l,a,c,b,h=>by
  cases a with
  |nil=>simp at h
  |cons x a=>
   have:=DC l a c (b++[u]) (by simpa using h);rw[lZ];simp only[aBs,aBr,aBN,aAM,aBL,aBi,aBW,aCP _ _ lR,Nat.sub_self,aAD] at this⊢;exact this
theorem wW{size:Nat}{e:Fh}:∀(l:K3) (W:WR) (a:K3) (o:Nat),W.ownsRow base e size (.slice (some ⟨g,0,none⟩) n cap) n a->(W.setCells g o l).ownsRow base e size (.slice (some ⟨g,0,none⟩) n cap) n (lZ a o l)/\W.grownBy (W.setCells g o l) (some g)
 | [],W,a,o,h=>⟨h,QL W _⟩
 |u::l,W,a,o,h=>by
  have c:=h.stored o u;have b:=wW l _ _ (o+1) c.1;exact⟨b.1,c.2.trans b.2⟩
theorem DD:∀l:List (bF×SV),(eJ l).length=l.length*8
 | []=>rfl
 |p::l=>by rw[eJ,aBs,DD l,aBr];show 8+_=_;omega
theorem JM:∀(l:List (Nat×Nat)) (i:Nat) (p:Nat×Nat),l[i]?=some p->∀j:Nat,j<8->(eW l)[i*8+j]?=(bX p)[j]?
 | [],_,_,h,_,_=>by simp at h
 |q::l,0,p,h,j,a=>by cases h;rw[eW,aBI (by show _<8;omega)];congr 1;omega
 |q::l,i+1,p,h,j,a=>by rw[eW,aBn (by show 8<=_;omega),<-JM l i p (by simpa using h) j a];congr 1;show _ - 8=_;omega
theorem JN:∀(l:List (bF×SV)) (i:Nat) (p:bF×SV),l[i]?=some p->∀j:Nat,j<8->(eJ l)[i*8+j]?=(aV p.1 p.2)[j]?
 | [],_,_,h,_,_=>by simp at h
 |q::l,0,p,h,j,a=>by cases h;rw[eJ,aBI (by show _<8;omega)];congr 1;omega
 |q::l,i+1,p,h,j,a=>by rw[eJ,aBn (by show 8<=_;omega),<-JN l i p (by simpa using h) j a];congr 1;show _ - 8=_;omega
def cj{l:List (Nat×Nat)}(h:W.ownsRow base 72 8 (.slice (some ⟨g,0,none⟩) n cap) n (eW l)){p:Nat×Nat}(b:l[i]?=some p):cI W g (i*8) (bX p):=fun j v c=>by have e:=(aAO.1 b).1;have a:j<8:=(aAO.1 c).1;have d:=h.1;rw[CM] at d;rw[h.cellAt (i*8+j) oM,JM l i p b j a];exact c
def RA{l:List (bF×SV)}(h:W.ownsRow base 52 8 (.slice (some ⟨g,0,none⟩) n cap) n (eJ l)){p:bF×SV}(b:l[i]?=some p):cI W g (i*8) (aV p.1 p.2):=fun j v c=>by have e:=(aAO.1 b).1;have a:j<8:=(aAO.1 c).1;have d:=h.1;rw[DD] at d;rw[h.cellAt (i*8+j) oM,JN l i p b j a];exact c
def sK(d:bF):bF:={d with bE:=XW (fun q=>(q.1:Int)) d.bE}
def told(a:List bF):List bF:=XW (·.id) (a.map sK)
abbrev SV.blk(s:SV):Option Nat:=(Value.slice s.a s.n s.c).ownBlock
structure Xr (V W:WR) (d:bF) (vS:SV) (ls:List (Nat×Nat)):Prop where
 below:Below V.heap.size V W
 lt:V.heap.size<W.heap.size
 cells:cI W V.heap.size 0 (aV d vS)
 th:W.there V.heap.size 0 8
 own:W.ownsRow (V.heap.size+1) 72 8 (.slice vS.a vS.n vS.c) ls.length (eW ls)
structure Ro (w W:WR) (es:List (bF×SV)) (vO:SV) (os:List (bF×SV)) (k:Nat):Prop where
 below:Below w.heap.size w W
 num:os.length=k
 own:W.ownsRow w.heap.size 52 8 (.slice vO.a vO.n vO.c) k (eJ os)
 sl:∀p∈os,W.ownsRow w.heap.size 72 8 (.slice p.2.a p.2.n p.2.c) p.1.bE.length (eW p.1.bE)
 HI:∀p∈os,∀g,p.2.blk=some g->vO.blk≠some g
 apart:os.Pairwise fun p q=>∀g,p.2.blk=some g->q.2.blk≠some g
 perm:(os.map (·.1)).Perm ((es.take k).map fun p=>sK p.1)
 up:Up (fun p=>p.1.id) os
structure dD (B:Nat) (W:WR) (v:SV) (os:List (bF×SV)):Prop where
 own:W.ownsRow B 52 8 (.slice v.a v.n v.c) os.length (eJ os)
 sl:∀p∈os,W.ownsRow B 72 8 (.slice p.2.a p.2.n p.2.c) p.1.bE.length (eW p.1.bE)
 HI:∀p∈os,∀g,p.2.blk=some g->v.blk≠some g
 apart:os.Pairwise fun p q=>∀g,p.2.blk=some g->q.2.blk≠some g
structure Rq (w W:WR) (g k n:Nat) (l m:List (bF×SV)):Prop where
 below:Below w.heap.size w W
 own:W.ownsRow w.heap.size 52 8 (.slice (some ⟨g,0,none⟩) (k+1) n) (k+1) (eJ l)
 sl:∀p∈m,W.ownsRow w.heap.size 72 8 (.slice p.2.a p.2.n p.2.c) p.1.bE.length (eW p.1.bE)
def dD.below{B:Nat}{c:WR}{v:SV}{a:List (bF×SV)}(h:dD B W v a)(b:Bw W c):dD B c v a:=⟨dI h.own b,fun p d=>dI (h.sl p d) b,h.HI,h.apart⟩
end Go.Mark
