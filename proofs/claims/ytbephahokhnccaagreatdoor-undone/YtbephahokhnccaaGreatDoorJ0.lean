import Derived.Test.YtbephahokhnccaaGreatDoorJz
set_option linter.all false
theorem oM{p:Prop}(h:p:=by first|omega|(simp only[Go.World.zs] at*;omega)):p:=h
theorem dC{p:Prop}(h:p:=by decide):p:=h
theorem kR{p:Prop}(h:p:=by kernel_rfl):p:=h
theorem sI{p:Prop}(h:p:=by simp):p:=h
theorem rI{p:Prop}(h:p:=by rfl):p:=h
namespace Go.Lift
def tC{α:Type}:Result α->World
 |.ok _ w=>w
 |.halt _ w=>w
structure dX where
 gP:Nat->Prop
 ok:Code->Prop
instance:CoeFun dX (fun _=>Nat->Prop):=⟨dX.gP⟩
def QC:Obj->Prop
 |.view a _=>a.spot.isSome=true
 |_=>False
def eZ:Obj->Prop
 |.view _ _=>True
 |_=>False
def dE:Obj->Prop
 |.cells _ _ _=>True
 |_=>False
def kF(Z:dX):Obj->Prop
 |.loop l=>Z.ok l.assign/\Z.ok l.body/\∀c,l.pending=some c->Z.ok c
 |.deferred x=>x=some []\/x=none
 |.pending _ _=>False
 |_=>True
def uY(Z:dX)(o:Obj):Prop:=¬eZ o/\kF Z o
inductive MC (z:Prop):Option Obj->Option Obj->Prop
 |gP {c:Array Value} {e:TypeId}:z->MC z (some (.cells c e)) (some (.cells #[] e))
 |shut {o:Obj}:z->¬dE o->¬eZ o->(∀a l,o≠.number a l)->MC z (some o) (some (.coro none))
 |view {o o':Obj}:eZ o->QC o'->MC z (some o) (some o')
 |same {x:Option Obj}:(∀o,x=some o->¬eZ o/\(z->¬dE o))->MC z x x
structure Rel (Z:dX)(w v:World):Prop where
 size:v.heap.size=w.heap.size
 low:∀b,Z b->b<w.heap.size
 look:∀b,MC (Z b) (w.heap[b]?) (v.heap[b]?)
 code:∀(b:Nat) (o:Obj),v.heap[b]?=some o->kF Z o
 os:v.os=w.os
 out:v.output=w.output
def fA(w v:World)(d:Nat):Prop:=∀j,w.drawn+j<d->v.tape (v.drawn+j)=w.tape (w.drawn+j)
def QD(o:Obj):Prop:=eZ o\/o=.coro none
def tH(w v w' v':World):Prop:=∀(b:Nat) (o:Obj),v'.heap[b]?=some o->QD o->b<w.heap.size->(∃o₀,v.heap[b]?=some o₀/\QD o₀)/\w'.heap[b]?=w.heap[b]?
structure On (Z:dX)(w v w' v':World):Prop where
 rel:Rel Z w' v'
 tw:w'.tape=w.tape
 tv:v'.tape=v.tape
 up:w.drawn<=w'.drawn
 grow:w.heap.size<=w'.heap.size
 step:v'.drawn=v.drawn+(w'.drawn - w.drawn)
 off:tH w v w' v'
def EK:Halt->Prop
 |.panic _=>True
 |.unsupported (.initOrder _)=>False
 |.unsupported _=>True
 |_=>False
def Alike{α:Type}(Z:dX)(w v:World):Result α->Result α->Prop
 |.ok a w',.ok b v'=>a=b/\On Z w v w' v'
 |.halt h w',.halt k v'=>h=k/\EK h/\On Z w v w' v'
 |_,_=>False
def yw:Halt->Prop
 |.stuck _=>True
 |.unsupported (.extern _)=>True
 |.unsupported (.unsafePointer _)=>True
 |_=>False
def HH{α:Type}:Result α->Prop
 |.halt h _=>yw h
 |_=>False
def Clean(Z:dX)(B:Nat)(e:Event):Prop:=
 match e.loc with
 |.cell a=>¬Z a.block/\a.block<B
 |.obj r=>r<B
 |.mark m=>(∃f,m=.extern f)\/m=.noRoom
 |_=>False
def cV(Z:dX)(B:Nat)(es:Array Event):Prop:=∀e∈es,Clean Z B e
def iQ{α:Type}(P Q:Program)(Z:dX)(s:Sem α):Prop:=
 ∀w v es B,Rel Z w v->cV Z B es->fA w v (tC (s.run P w)).drawn->(tC (s.run P w)).heap.size<=B->
  HH (s.run Q v)\/(Alike Z w v (s.run P w) (s.run Q v)/\cV Z B (s.events P w es))
theorem Rel.frozen{Z:dX}{w v:World}(h:Rel Z w v)(a:Addr):v.frozen? a=w.frozen? a:=by
 have:=h.look a.block;unfold World.frozen?;revert this;generalize w.heap[a.block]?=x;generalize v.heap[a.block]?=y;intro l;cases l with
 |gP _=>simp
 | @shut o _ h1 _ _=>cases o<;>first|exact absurd trivial h1|rfl
 | @view o o' h1 h2=>cases o<;>first|exact h1.elim| (cases o'<;>first|exact h2.elim|rfl)
 |same _=>rfl
theorem wE{P:Program}{w w':World}{a:Addr}{u:TypeId}{k:Addr}{x:Value}{m:Bool}{l:List Addr}(h:w.viewStore P a u k x m=.ok (w',l)):
  w'.drawn=w.drawn/\w'.tape=w.tape/\w'.heap.size=w.heap.size:=by
 unfold World.viewStore at h;simp only[bind,Except.bind,pure,Except.pure] at h;split at h
 .cases h
 .split at h
  .cases h
  .split at h
   .split at h
    .cases h
    .split at h
     .cases h
     .cases h;exact⟨rfl,rfl,sI⟩
   .cases h
theorem xG{P:Program}{w w':World}{a:Addr}{x:Value}{m:Bool}{l:List Addr}(h:w.farStore P a x m=.ok (w',l)):
  w'.drawn=w.drawn/\w'.tape=w.tape/\w'.heap.size=w.heap.size:=by
 unfold World.farStore at h;split at h
 .rename_i at_ u ho;cases hv:w.viewStore P at_ u a x m with
  |error e=>rw[hv] at h;cases h
  |ok r=>rw[hv] at h;cases h;exact wE hv
 .cases h
end Go.Lift
namespace Go.Lift
variable{a:Addr}{es:aA}{F:yg}{m:Mode}{r d:Nat}{o:Obj}{f:Obj->Obj}{P Q:K5}{t:Fh}{x:vZ}{w v w₁ v₁ b c w₂ v₂:WR}
def one:vZ->Bool
 |.agg _|.tuple _=>false
 |_=>true
structure Up (w w':WR):Prop where
 drawn:w.drawn<=w'.drawn
 tape:w'.tape=w.tape
 size:w.heap.size<=w'.heap.size
def Up.refl(w:WR):Up w w:=⟨aAz _,rfl,aAz _⟩
def Up.trans{a:WR}(h:Up a b)(k:Up b c):Up a c:=⟨aAw h.drawn k.drawn,k.tape.tr h.tape,aAw h.size k.size⟩
def Up.tr{a:WR}(h:Up a b)(k:Up b c):Up a c:=Up.trans h k
def yx{d:Type}(x:Ask d):∀w:WR,Up w (w.ask x).2/\(w.ask x).2.heap=w.heap:=by
 induction x with
 |done a=>intro w;exact⟨.refl w,rfl⟩
 |ask b range k c=>
  intro w;simp only[World.ask];split
  .exact c _ w
  .have:=c ((Question.extern b range).cut (w.tape w.drawn (Question.extern b range))) {w with drawn:=w.drawn+1};exact⟨⟨aAw (aBx _) this.1.drawn,this.1.tape,this.1.size⟩,this.2⟩
def yz(w:WR)(c:Sys):Up w (w.sys c).2:=by have h:=(yx (Kernel.perform c w.os) w).1;unfold World.sys;revert h;generalize w.ask (Kernel.perform c w.os)=x;have⟨⟨r,a⟩,b⟩:=x;intro h;cases r<;>first|exact .refl w|exact⟨h.drawn,h.tape,h.size⟩
def MD{c:Type}{k:Sem c}:(∃s,(Sem.store m a x k).run P w=.halt s w)\/(one x=true/\(∃y,w.cell? a=some y)/\w.frozen? a=false/\(Sem.store m a x k).run P w=k.run P (w.setCell a x))\/
    ∃b l,w.farStore P a x (m==.atomic)=.ok (b,l)/\(Sem.store m a x k).run P w=k.run P b:=by
  cases x<;>first
    |exact .inl ⟨_,rfl⟩
    | (simp only[Sem.run]
       cases g:w.cell? a with
       |some y=>
         cases d:w.frozen? a with
         |true=>exact .inl ⟨_,rfl⟩
         |false=>exact .inr (.inl ⟨rfl,⟨_,rfl⟩,rfl,sI⟩)
       |none=>
         simp only[];cases f:w.farStore P a _ (m==.atomic) with
         |error e=>exact .inl ⟨e,sI⟩
         |ok r=>exact .inr (.inr ⟨r.1,r.2,rfl,sI⟩))
def fT{g:Type}(P:K5)(s:Sem g):∀w:WR,Up w (tC (s.run P w)):=by
 induction s with
 |pure a=>intro w;exact .refl w
 |load m a k b=>
  intro w;simp only[Sem.run];split
  .exact b _ w
  .split
   .exact b _ w
   .exact .refl w
 |store m a x k b=>
  intro w;rcases MD (P:=P) (m:=m) (a:=a) (x:=x) (k:=k) (w:=w) with⟨s,h⟩| ⟨_,_,_,h⟩| ⟨d,l,e,h⟩
  .rw[h];exact .refl w
  .rw[h];exact Up.tr (b:=w.sC a x) ⟨aAz _,rfl,by simp[World.sC]⟩ (b _)
  .rw[h];have⟨i,f,j⟩:=xG e;exact Up.tr ⟨aBz i.symm,f,aBz j.symm⟩ (b d)
 |new o k b=>intro w;exact Up.tr (b:={w with heap:=w.heap.push o}) ⟨aAz _,rfl,sI⟩ (b _ _)
 |shape r k b=>intro w;exact b _ w
 |freeze a n k b=>
  intro w;refine Up.tr (b:=w.freeze a n) ?_ (b _);unfold World.freeze;split
  .exact .refl w
  .exact⟨aAz _,rfl,sI⟩
 |frozen a k b=>intro w;exact b _ w
 |getObj r k b=>
  intro w;simp only[Sem.run];split
  .exact .refl w
  .exact b _ w
  .exact .refl w
 |setObj r o k b=>
  intro w;simp only[Sem.run];split
  .exact .refl w
  .exact Up.tr (b:={w with heap:=w.heap.setIfInBounds r o}) ⟨aAz _,rfl,sI⟩ (b _)
  .exact .refl w
 |choose q k b=>
  intro w;simp only[Sem.run];split
  .exact b _ w
  .exact Up.tr (b:={w with drawn:=w.drawn+1}) ⟨aBx _,rfl,aAz _⟩ (b _ _)
 |sys c k b=>intro w;exact Up.tr (yz w c) (b _ _)
 |program k b=>intro w;exact b _ w
 |mark m k b=>intro w;exact b w
 |halt h=>intro w;exact .refl w
def kW{a:Type}(Q:K5)(s:Sem a):Prop:=∀v,HH (s.run Q v)
def tH.refl(w v:WR):tH w v w v:=fun _ o b a _=>⟨⟨o,b,a⟩,rfl⟩
def On.refl{Z:dX}(h:Rel Z w v):On Z w v w v:=⟨h,rfl,rfl,aAz _,aAz _,oM,tH.refl w v⟩
def On.trans{Z:dX}(h:On Z w v w₁ v₁)(k:On Z w₁ v₁ w₂ v₂):On Z w v w₂ v₂:=
 ⟨k.rel,k.tw.tr h.tw,k.tv.tr h.tv,aAw h.up k.up,aAw h.grow k.grow,by have:=h.up;have:=k.up;have:=h.step;have:=k.step;omega,fun b o e d h3=>let⟨⟨a,g,j⟩,i⟩:=k.off b o e d (aAy h3 h.grow);let⟨c,f⟩:=h.off b a g j h3;⟨c,i.tr f⟩⟩
def On.tr{Z:dX}(h:On Z w v w₁ v₁)(k:On Z w₁ v₁ w₂ v₂):On Z w v w₂ v₂:=On.trans h k
def Alike.on{b:Type}{Z:dX}{r a:Result b}(h:On Z w v w₁ v₁)(k:Alike Z w₁ v₁ r a):Alike Z w v r a:=by cases r<;>cases a<;>first|exact k.elim|exact⟨k.1,h.tr k.2⟩|exact⟨k.1,k.2.1,h.tr k.2.2⟩
def fA.on{Z:dX}(h:On Z w v w₁ v₁)(k:fA w v d):fA w₁ v₁ d:=by intro j c;have b:=h.up;have a:=h.step;have:=k ((w₁.drawn - w.drawn)+j) oM;rw[h.tv,h.tw,a,aBY,this];congr 1;omega
def fA.less{a:Nat}(k:fA w v d)(h:a<=d):fA w v a:=fun j b=>k j (aAy b h)
def dL{Z:dX}{B:Nat}{e:Event}(h:cV Z B es)(b:Clean Z B e):cV Z B (es.push e):=by
 intro x a;rcases aDl.1 a with a|rfl
 .exact h x a
 .exact b
def jQ{b:Nat}:(w.heap.modify r f)[b]?=if r=b then(w.heap[b]?).map f else w.heap[b]?:=by rw[aCq]
def Rel.push{Z:dX}(h:Rel Z w v)(c:uY Z o):Rel Z {w with heap:=w.heap.push o} {v with heap:=v.heap.push o}:=by
 have f:¬Z w.heap.size:=fun z=>aDb _ (h.low _ z);refine⟨by simp[h.size],fun b d=>by have:=h.low b d;simp;omega,fun b=>?_,fun b x a=>?_,h.os,h.out⟩
 .simp only[aAV,h.size];by_cases e:b=w.heap.size
  .simp only[e,if_true];exact .same fun x a=>by cases a;exact⟨c.1,fun z=>absurd z f⟩
  .simp only[if_neg e];exact h.look b
 .simp only[aAV] at a;split at a
  .cases a;exact c.2
  .exact h.code b x a
def Rel.setObj{Z:dX}(h:Rel Z w v)(c:uY Z o)(f:¬dE o):Rel Z {w with heap:=w.heap.setIfInBounds r o} {v with heap:=v.heap.setIfInBounds r o}:=by
 refine⟨by simp[h.size],fun b d=>by simpa using h.low b d,fun b=>?_,fun b x a=>?_,h.os,h.out⟩
 .simp only[aBK,h.size];by_cases e:r=b
  .simp only[e,if_true];split
   .exact .same fun x a=>by cases a;exact⟨c.1,fun _=>f⟩
   .exact .same fun x a=>by cases a
  .simp only[if_neg e];exact h.look b
 .simp only[aBK] at a;split at a
  .split at a
   .cases a;exact c.2
   .cases a
  .exact h.code b x a
def Rel.modify{Z:dX}(h:Rel Z w v)(k:¬Z r)(i:∀o,¬dE o->f o=o)(p:∀o,dE o->dE (f o)):Rel Z {w with heap:=w.heap.modify r f} {v with heap:=v.heap.modify r f}:=by
 refine⟨by simp[h.size],fun b s=>by simpa using h.low b s,fun b=>?_,fun b x c=>?_,h.os,h.out⟩
 rotate_left
 .simp only[jQ] at c;split at c
  .cases m:v.heap[b]? with
   |none=>rw[m] at c;cases c
   |some o=>
    rw[m] at c;simp only[aAX,aAF] at c;subst c;by_cases d:dE o
    .have:=p o d;generalize f o=q at this;cases q<;>first|exact this.elim|exact trivial
    .rw[i o d];exact h.code b o m
  .exact h.code b x c
 simp only[jQ];by_cases e:r=b
 .subst e;simp only[if_true];have:=h.look r;revert this;generalize w.heap[r]?=x;generalize v.heap[r]?=y;intro l;cases l with
  |gP z=>exact absurd z k
  |shut z=>exact absurd z k
  | @view o a g n=>
   have u:f o=o:=i o (by cases o<;>first|exact id|exact g.elim);have t:f a=a:=i a (by cases a<;>first|exact id|exact n.elim);simp only[aAX,u,t];exact .view g n
  |same g=>
   refine .same fun o j=>?_;cases x with
   |none=>cases j
   |some a=>
    simp only[aAX,aAF] at j;subst j;refine⟨?_,fun z=>absurd z k⟩;by_cases d:dE a
    .have:=p a d;generalize f a=q at this;cases q<;>first|exact this.elim|exact id
    .rw[i a d];exact(g a rfl).1
 .simp only[if_neg e];exact h.look b
def Rel.setCell{Z:dX}(h:Rel Z w v)(c:¬Z a.block):Rel Z (w.setCell a x) (v.setCell a x):=
 h.modify c (fun o b=>by cases o<;>first|rfl|exact absurd trivial b) (fun o b=>by cases o<;>first|exact trivial|exact b.elim)
def Rel.sC{Z:dX}(h:Rel Z w v)(b:¬Z a.block):Rel Z (w.setCell a x) (v.setCell a x):=Rel.setCell h b
def QD.oR(h:QD o):¬dE o:=by
 rcases h with h|rfl
 .cases o<;>first|exact id|exact h.elim
 .exact id
def Rel.Fc{Z:dX}(h:Rel Z w v){b:Nat}(g:v.heap[b]?=some o)(e:QD o):∃f,w.heap[b]?=some f/\¬dE f:=by
 have c:=h.look b;rw[g] at c;generalize w.heap[b]?=x at c;cases c with
 |gP=>exact absurd trivial e.oR
 |shut _ d=>exact⟨_,rfl,d⟩
 | @view a _ d _=>exact⟨_,rfl,fun i=>by cases a<;>first|exact i.elim|exact d.elim⟩
 |same=>exact⟨_,rfl,e.oR⟩
def tH.modify{Z:dX}(h:Rel Z w v)(n:∀o,¬dE o->f o=o)(l:∀o,dE o->dE (f o)):tH w v {w with heap:=w.heap.modify r f} {v with heap:=v.heap.modify r f}:=fun b o a g _=>by
 have key:∀(u:WR) (d:Obj),u.heap[b]?=some d->¬dE d->(u.heap.modify r f)[b]?=some d:=fun u d e j=>by
  rw[jQ,e];split
  .rw[aAX,n d j]
  .rfl
 replace a:(v.heap.modify r f)[b]?=some o:=a;cases i:v.heap[b]? with
 |none=>
  rw[jQ,i] at a;split at a<;>cases a
 |some c=>
  have p:¬dE c:=fun j=>by
   rw[jQ,i] at a;split at a
   .cases a;exact g.oR (l _ j)
   .cases a;exact g.oR j
  have e:=key v c i p;rw[a] at e;cases e;have⟨d,k,m⟩:=h.Fc i g;exact⟨⟨_,rfl,g⟩,(key w d k m).tr k.symm⟩
def tH.setCell{Z:dX}(h:Rel Z w v)(a:Addr)(x:vZ):tH w v (w.setCell a x) (v.setCell a x):=
 tH.modify h (fun o b=>by cases o<;>first|rfl|exact absurd trivial b) (fun o b=>by cases o<;>first|exact trivial|exact b.elim)
def tH.sC{Z:dX}(h:Rel Z w v)(a:Addr)(x:vZ):tH w v (w.setCell a x) (v.setCell a x):=tH.setCell h a x
def On.setCell{Z:dX}(h:Rel Z w v)(b:¬Z a.block):On Z w v (w.setCell a x) (v.setCell a x):=
 ⟨h.sC b,rfl,rfl,aAz _,by simp[World.sC],by show v.drawn=v.drawn+(w.drawn - w.drawn);omega,.setCell h a x⟩
def On.sC{Z:dX}(h:Rel Z w v)(b:¬Z a.block):On Z w v (w.setCell a x) (v.setCell a x):=On.setCell h b
def On.push{Z:dX}(h:Rel Z w v)(c:uY Z o):On Z w v {w with heap:=w.heap.push o} {v with heap:=v.heap.push o}:=
 ⟨h.push c,rfl,rfl,aAz _,sI,by show v.drawn=v.drawn+(w.drawn - w.drawn);omega,fun b e a d h3=>by simp only[aAV] at a⊢;rw[if_neg (by rw[h.size];omega)] at a;rw[if_neg oM];exact⟨⟨_,a,d⟩,rfl⟩⟩
def On.setObj{Z:dX}(h:Rel Z w v)(d:uY Z o)(g:¬dE o)(f:o≠.coro none):On Z w v {w with heap:=w.heap.setIfInBounds r o} {v with heap:=v.heap.setIfInBounds r o}:=
 ⟨h.setObj d g,rfl,rfl,aAz _,sI,by show v.drawn=v.drawn+(w.drawn - w.drawn);omega,fun b i c a h3=>by
  simp only[aBK] at c⊢;by_cases e:r=b
  .rw[if_pos e,if_pos (by rw[e,h.size];exact h3)] at c;cases c;rcases a with a|a
   .exact absurd a d.1
   .exact absurd a f
  .rw[if_neg e] at c;rw[if_neg e];exact⟨⟨_,c,a⟩,rfl⟩⟩
def On.draw{Z:dX}(h:Rel Z w v):On Z w v {w with drawn:=w.drawn+1} {v with drawn:=v.drawn+1}:=
 ⟨⟨h.size,h.low,h.look,h.code,h.os,h.out⟩,rfl,rfl,aBx _,aAz _,by show v.drawn+1=v.drawn+(w.drawn+1 - w.drawn);omega,fun _ o b a _=>⟨⟨o,b,a⟩,rfl⟩⟩
def QE(h:w.cell? a=some x):a.block<w.heap.size:=by
 unfold World.cell? at h;cases b:w.heap[a.block]? with
 |none=>rw[b] at h;cases h
 |some o=>exact(aAu.1 b).1
def Rel.ways{Z:dX}(h:Rel Z w v)(b:Nat):(∃e,v.heap[b]?=some (.cells #[] e))/\Z b\/(v.heap[b]?=some (.coro none))\/(∃d,v.heap[b]?=some d/\QC d)\/(v.heap[b]?=w.heap[b]?/\(∀o,w.heap[b]?=some o->¬eZ o)/\(∀o,w.heap[b]?=some o->dE o->¬Z b)):=by
 have:=h.look b;revert this;generalize w.heap[b]?=x;generalize v.heap[b]?=y;intro l;cases l with
 |gP z=>exact .inl ⟨⟨_,rfl⟩,z⟩
 |shut=>exact .inr (.inl rfl)
 |view c f=>exact .inr (.inr (.inl ⟨_,rfl,f⟩))
 |same c=>exact .inr (.inr (.inr ⟨rfl,fun o a=>(c o a).1,fun o a g z=>(c o a).2 z g⟩))
def qG(h:w.cell? a=some x):∃o,w.heap[a.block]?=some o/\dE o:=by
 unfold World.cell? at h;cases b:w.heap[a.block]? with
 |none=>rw[b] at h;cases h
 |some o=>cases o<;>first|exact⟨_,rfl,trivial⟩| (rw[b] at h;cases h)
def xH{u:Fh}{k:Addr}{m:Bool}(b:a.spot.isSome=true):∃s,v.seen Q a u k m=.error s:=by unfold World.seen;simp only[b,Bool.or_true,if_true,bind,Except.bind];exact⟨_,rfl⟩
def xI{m:Bool}(h:v.heap[a.block]?=some o)(b:QC o):v.cell? a=none/\∃s,v.farLoad Q a m=.error (.unsupported (.unsafePointer s)):=by
 cases o<;>first|exact b.elim|skip
 rename_i x u;refine⟨by simp[World.cell?,h],?_⟩;have⟨s,c⟩:=xH (v:=v) (Q:=Q) (u:=u) (k:=a) (m:=m) b;refine⟨s,?_⟩;simp only[World.farLoad,h,World.viewLoad,c,bind,Except.bind]
def HJ{m:Bool}(h:v.heap[a.block]?=some o)(b:QC o):v.cell? a=none/\∃s,v.farStore Q a x m=.error (.unsupported (.unsafePointer s)):=by
 cases o<;>first|exact b.elim|skip
 rename_i y u;refine⟨by simp[World.cell?,h],?_⟩;have⟨s,c⟩:=xH (v:=v) (Q:=Q) (u:=u) (k:=a) (m:=m) b;simp only[World.farStore,h,World.viewStore,c,bind,Except.bind];split
 .rename_i heq;split at heq<;>cases heq
 .rename_i e heq;exact⟨_,rfl⟩
def oS(h:∀o,w.heap[a.block]?=some o->¬eZ o)(m:Bool):w.farLoad P a m=.error (w.noCell a "load: no such cell"):=by
 unfold World.farLoad;cases b:w.heap[a.block]? with
 |none=>rfl
 |some o=>cases o<;>first|rfl|exact absurd trivial (h _ b)
def xJ(h:∀o,w.heap[a.block]?=some o->¬eZ o)(m:Bool):w.farStore P a x m=.error (w.noCell a "store: no such cell"):=by
 unfold World.farStore;cases b:w.heap[a.block]? with
 |none=>rfl
 |some o=>cases o<;>first|rfl|exact absurd trivial (h _ b)
def tI(h:v.heap[a.block]?=w.heap[a.block]?):v.cell? a=w.cell? a:=by simp[World.cell?,h]
def kJ(h:v.heap[a.block]?=w.heap[a.block]?)(s:String):v.noCell a s=w.noCell a s:=by simp[World.noCell,h]
def qZ{e:Fh}(h:v.heap[a.block]?=some (.cells #[] e))(m:Bool):v.cell? a=none/\v.farLoad Q a m=.error (.stuck "load: no such cell")/\∀x,v.farStore Q a x m=.error (.stuck "store: no such cell"):=by refine⟨by simp[World.cell?,h],by simp[World.farLoad,World.noCell,h],fun x=>by simp[World.farStore,World.noCell,h]⟩
def xK(h:v.heap[a.block]?=some (.coro none))(m:Bool):v.cell? a=none/\v.farLoad Q a m=.error (.stuck "load: no such cell")/\∀x,v.farStore Q a x m=.error (.stuck "store: no such cell"):=by refine⟨by simp[World.cell?,h],by simp[World.farLoad,World.noCell,h],fun x=>by simp[World.farStore,World.noCell,h]⟩
def mJ{Z:dX}(h:∀o,v.heap[a.block]?=some o->¬eZ o/\kF Z o)(s:String):v.noCell a s=.stuck s:=by
 unfold World.noCell;cases b:v.heap[a.block]? with
 |none=>rfl
 |some o=>
  have⟨d,c⟩:=h o b;cases o<;>first|rfl|exact absurd trivial d|exact c.elim
def fJ{b:Type}{k:Sem b}(c:one x=true):(Sem.store m a x k).run P w=
  match w.cell? a with
  |some _=>if w.frozen? a then .halt (.unsupported (.unsafePointer "a write to bytes that a string shares")) w else k.run P (w.sC a x)
  |none=>match w.farStore P a x (m==.atomic) with
   |.ok (w,_)=>k.run P w
   |.error h=>.halt h w:=by
 cases x<;>first| (simp[one] at c;done)|rfl
def AR{c:Type}{k:Sem c}(d:one x=true):(Sem.store m a x k).events P w es=
    match w.cell? a with
    |some _=>if w.frozen? a then es else k.events P (w.sC a x) (es.push ⟨.cell a,true,m==.atomic⟩)
    |none=>match w.farStore P a x (m==.atomic) with
      |.ok (w,b)=>k.events P w (es++b.toArray.map (⟨.cell ·,true,m==.atomic⟩))
      |.error _=>es:=by
  cases x<;>first
    | (simp[one] at d;done)
    | (simp only[Sem.events,Sem.runT]
       cases e:w.cell? a with
       |some y=>simp only[];split<;>rfl
       |none=>simp only[];split<;>rename_i heq<;>simp[heq])
def mK{b:Type}{k:Sem b}(c:one x=false):(Sem.store m a x k).run P w=.halt (.stuck "store: not the value of one cell") w:=by cases x<;>first| (simp[one] at c;done)|rfl
def cW{b:Type}{Z:dX}(a:b):iQ P Q Z (.pure a:Sem b):=by intro w v es B c d _ _;exact .inr ⟨⟨rfl,.refl c⟩,d⟩
def BX{p:Type}{Z:dX}{k:vZ->Sem p}(r:∀v,iQ P Q Z (k v)):iQ P Q Z (.load m a k):=by
 intro w v es B h u i g;rcases h.ways a.block with⟨⟨e,b⟩,_⟩|b| ⟨y,b,c⟩| ⟨b,c,h3⟩
 .have⟨f,d,_⟩:=qZ (Q:=Q) b (m==.atomic);left;simp only[Sem.run,f,d];trivial
 .have⟨f,d,_⟩:=xK (Q:=Q) b (m==.atomic);left;simp only[Sem.run,f,d];trivial
 .have⟨f,s,d⟩:=xI (Q:=Q) (m:=m==.atomic) b c;left;simp only[Sem.run,f,d];trivial
 .simp only[Sem.run,oS (P:=P) c] at i g;simp only[Sem.run,Sem.events,Sem.runT,oS (P:=P) c,tI b,oS (w:=v) (P:=Q) (b▸c),kJ b];cases j:w.cell? a with
  |none=>
   left;simp only[<-kJ b,mJ (Z:=Z) (fun o l=>⟨c o (b▸l),h.code _ o l⟩)];trivial
  |some x=>
   rw[j] at i g;have n:¬Z a.block:=let⟨o,t,q⟩:=qG j;h3 o t q
   exact r x w v _ B h (dL u (show Clean Z B ⟨.cell a,_,_⟩ from⟨n,aAy (QE j) (aAw (fT P (k x) w).size g)⟩)) i g
def ME{u:Type}{Z:dX}{k:Sem u}(A:iQ P Q Z k):iQ P Q Z (.store m a x k):=by
 intro w v es B l D j f;cases d:one x with
 |false=>left;rw[mK d];trivial
 |true=>
  rcases l.ways a.block with⟨⟨e,b⟩,_⟩|b| ⟨E,b,g⟩| ⟨b,g,h3⟩
  .have⟨i,_,h⟩:=qZ (Q:=Q) b (m==.atomic);left;rw[fJ d,i];simp only[h];trivial
  .have⟨i,_,h⟩:=xK (Q:=Q) b (m==.atomic);left;rw[fJ d,i];simp only[h];trivial
  .have⟨i,s,h⟩:=HJ (Q:=Q) (x:=x) (m:=m==.atomic) b g;left;rw[fJ d,i];simp only[h];trivial
  .rw[fJ d] at j f;rw[fJ d,fJ d,AR d,tI b,l.frozen a];simp only[xJ (P:=P) g,xJ (w:=v) (P:=Q) (b▸g),kJ b] at j f⊢;cases n:w.cell? a with
   |none=>
    left;simp only[<-kJ b,mJ (Z:=Z) (fun o q=>⟨g o (b▸q),l.code _ o q⟩)];trivial
   |some y=>
    rw[n] at j f;cases r:w.frozen? a with
    |true=>exact .inl trivial
    |false=>
     simp only[r,aBU,if_false] at j f⊢;have p:¬Z a.block:=let⟨o,C,z⟩:=qG n;h3 o C z
     have c:On Z w v (w.sC a x) (v.sC a x):=.setCell l p;exact(A _ _ _ B c.rel (dL D (show Clean Z B ⟨.cell a,_,_⟩ from⟨p,aAy (QE n) (aAw c.grow (aAw (fT P k _).size f))⟩)) (j.on c) f).imp id fun t=>⟨t.1.on c,t.2⟩
def jR{f:Type}{Z:dX}{k:Nat->Sem f}(c:uY Z o)(d:∀r,iQ P Q Z (k r)):iQ P Q Z (.new o k):=by intro w v es B b h e g;have a:=On.push b c;simp only[Sem.run,b.size];exact(d w.heap.size _ _ es B a.rel h (fA.on a e) g).imp id fun t=>⟨t.1.on a,t.2⟩
def HK{f:Type}{Z:dX}{k:Bool->Sem f}(d:∀b,iQ P Q Z (k b)):iQ P Q Z (.frozen a k):=by intro w v es B c h e g;simp only[Sem.run,c.frozen a];exact d _ w v es B c h e g
def uZ{j:Type}{Z:dX}{k:Obj->Sem j}(m:∀o,¬eZ o->kF Z o->iQ P Q Z (k o))(h:∀o,QD o->kW Q (k o)):iQ P Q Z (.getObj r k):=by
  intro w v es B f n i g;rcases f.ways r with⟨⟨e,a⟩,_⟩|a| ⟨l,a,d⟩| ⟨a,d,_⟩
  · left;simp only[Sem.run,a];trivial
  · left
    simp only[Sem.run,a];exact h _ (.inr rfl) v
  · left
    cases l<;>first|exact d.elim|skip
    simp only[Sem.run,a];exact h _ (.inl (show eZ (.view _ _) from trivial)) v
  · cases b:w.heap[r]? with
    |none=>left;simp only[Sem.run,a,b];trivial
    |some o=>
      have c:=d o b;cases o<;>first
        | (left;simp only[Sem.run,a,b];trivial)
        |exact absurd trivial c
        | (simp only[Sem.run,b] at i g
           simp only[Sem.run,a,b,Sem.events,Sem.runT];exact m _ c (f.code r _ (a.tr b)) w v _ B f (dL n (show Clean Z B ⟨.obj r,_,_⟩ from aAy (aAu.1 b).1 (aAw (fT P _ w).size g))) i g)
def iR{x:Type}{Z:dX}{k:Sem x}(u:uY Z o)(y:¬dE o)(q:o≠.coro none)(A:iQ P Q Z k):iQ P Q Z (.setObj r o k):=by
 intro w v es B j C m i;have b:=On.setObj (r:=r) j u y q;have go:∀(c a:Obj),w.heap[r]?=some c->v.heap[r]?=some a->¬dE c->¬dE a->HH ((Sem.setObj r o k).run Q v)\/(Alike Z w v ((Sem.setObj r o k).run P w) ((Sem.setObj r o k).run Q v)/\cV Z B ((Sem.setObj r o k).events P w es)):=by
  intro c a d p n g;have l:(Sem.setObj r o k).run P w=k.run P {w with heap:=w.heap.setIfInBounds r o}:=by cases c<;>first|exact absurd trivial n|simp only[Sem.run,d]
  have s:(Sem.setObj r o k).run Q v=k.run Q {v with heap:=v.heap.setIfInBounds r o}:=by cases a<;>first|exact absurd trivial g|simp only[Sem.run,p]
  have z:(Sem.setObj r o k).events P w es=k.events P {w with heap:=w.heap.setIfInBounds r o} (es.push ⟨.obj r,true,o.isChan⟩):=by cases c<;>first|exact absurd trivial n|simp only[Sem.events,Sem.runT,d]
  rw[l] at m i;rw[l,s,z];exact(A _ _ _ B b.rel (dL C (show Clean Z B ⟨.obj r,_,_⟩ from aAy (aAu.1 d).1 (aAw b.grow (aAw (fT P _ _).size i)))) (fA.on b m) i).imp id fun t=>⟨t.1.on b,t.2⟩
 have e:=j.look r;cases h:w.heap[r]? with
 |none=>
  rw[h] at e;cases f:v.heap[r]? with
  |none=>left;simp only[Sem.run,f];trivial
  |some a=>rw[f] at e;cases e
 |some c=>
  cases f:v.heap[r]? with
  |none=>rw[h,f] at e;cases e
  |some a=>
   by_cases g:dE a
   .cases a<;>first|exact g.elim| (left;simp only[Sem.run,f];trivial)
   .refine go c a h f ?_ g;rw[h,f] at e;cases e with
    |gP=>exact absurd trivial g
    |shut _ d=>exact d
    |view d _=>cases c<;>first|exact id|exact d.elim
    |same=>exact g
def HL{j:Type}{Z:dX}{q:Question}{k:Nat->Sem j}(g:∀n,iQ P Q Z (k n)):iQ P Q Z (.choose q k):=by
 intro w v es B f h b d;cases c:q.forced with
 |true=>
  simp only[Sem.run,c,if_true] at b d;simp only[Sem.run,Sem.events,Sem.runT,c,if_true];exact g 0 w v es B f h b d
 |false=>
  simp only[Sem.run,c,aBU,if_false] at b d;have e:=(fT P (k (q.cut (w.tape w.drawn q))) {w with drawn:=w.drawn+1}).drawn;have i:v.tape v.drawn=w.tape w.drawn:=by have:=b 0 (by simp only[aBd];exact e);simpa using this
  have a:=On.draw f;simp only[Sem.run,Sem.events,Sem.runT,c,aBU,if_false,i];exact(g (q.cut (w.tape w.drawn q)) _ _ es B a.rel h (fA.on a b) d).imp id fun t=>⟨t.1.on a,t.2⟩
def EL{f:Type}{Z:dX}{k:K5->Sem f}(c:k P=k Q)(d:iQ P Q Z (k Q)):iQ P Q Z (.program k):=by intro w v es B e g a b;have h:=d;simp only[Sem.run] at a b;simp only[Sem.run,Sem.events,Sem.runT];rw[c] at a b⊢;exact h w v es B e g a b
def BY{e:Type}{Z:dX}{m:Mark}{k:Sem e}(a:(∃f,m=.extern f)\/m=.noRoom)(b:iQ P Q Z k):iQ P Q Z (.mark m k):=by intro w v es B d h c g;exact b w v _ B d (dL h a) c g
def iG{c:Type}{Z:dX}(h:Halt)(a:EK h\/yw h):iQ P Q Z (.halt h:Sem c):=by
 intro w v es B b d _ _;rcases a with a|a
 .exact .inr ⟨⟨rfl,a,.refl b⟩,d⟩
 .exact .inl a
def BZ{m r:Type}{Z:dX}{x:Sem m}{f:m->Sem r}(q:iQ P Q Z x)(n:∀a,iQ P Q Z (f a)):iQ P Q Z (x.bind f):=by
 intro w v es B p u i j;rw[Sem.run_bind'] at i j;rw[Sem.run_bind',Sem.run_bind',Sem.events_bind'];have e:(tC (x.run P w)).drawn<=(tC ((x.run P w).andThen fun a d=>(f a).run P d)).drawn/\(tC (x.run P w)).heap.size<=(tC ((x.run P w).andThen fun a d=>(f a).run P d)).heap.size:=by
  cases x.run P w with
  |ok a d=>exact⟨(fT P (f a) d).drawn,(fT P (f a) d).size⟩
  |halt h d=>exact⟨aAz _,aAz _⟩
 have h:=q w v es B p u (i.less e.1) (aAw e.2 j);clear e;revert i j h;cases y:x.run P w with
 |ok a d=>
  cases s:x.run Q v with
  |ok b l=>
   intro i j h;rcases h with h| ⟨⟨rfl,c⟩,g⟩
   .exact h.elim
   .exact(n a d l _ B c.rel g (fA.on c i) j).imp id fun t=>⟨t.1.on c,t.2⟩
  |halt h l=>
   intro _ _ h;rcases h with h| ⟨h,_⟩
   .exact .inl h
   .exact h.elim
 |halt h d=>
  cases s:x.run Q v with
  |ok b l=>
   intro _ _ h;rcases h with h| ⟨h,_⟩
   .exact h.elim
   .exact h.elim
  |halt k l=>
   intro _ _ h;rcases h with h| ⟨⟨rfl,o,c⟩,g⟩
   .exact .inl h
   .exact .inr ⟨⟨rfl,o,c⟩,g⟩
abbrev strip(P:K5)(F:yg):K5:={P with funcs:=F}
structure Lk {α:Type}(P:K5)(F:yg)(Z:dX)(s:Sem α):Prop where
 ok:iQ P (strip P F) Z s
def pO{p:Prop}(h:p:=by
 repeat' first
  |assumption
  | (with_reducible first
     |exact aW _
     |exact aY _
     |exact gK _
     |exact rD _
     |exact dG _
     |exact iS _
     |exact EM _ _
     |exact XX _
     |exact oT _
     |exact EN _ _
     |exact pR _ _ _
     |exact XY _ _ _
     |exact SR _ _
     |exact SS _ _
     |exact CB _
     |exact MF _
     |exact bS _
     |exact oU _
     |exact jB
     |exact MG _
     |exact SU
     |exact HM _ _ _
     |exact EO _
     |exact HN _
     |exact SX _
     |exact CC _
     |exact SY _ _ _
     |exact HP _
     |exact qH _ _
     |exact pS _ _
     |exact xL _ _ _ _
     |exact AS _ _ _
     |exact xM _ _ _ _ _ _
     |exact tJ _
     |exact XZ _ _ _ _ _
     |exact iT _
     |exact SZ _ _
     |exact MH _
     |exact YA _
     |exact oV _ _ _
     |exact HQ _ _
     |exact TA _
     |exact vC _ _
     |exact xN _ _ _ _
     |exact pT _ _ _ _
     |exact MI _ _ _
     |exact vD _ _ _ _
     |exact wF _ _
     |exact TB _ _ _
     |exact TC _ _ _
     |exact MJ _ _ _ _ _
     |exact MK _ _ _ _
     |exact HS _ _ _ _
     |exact AT _ _ _
     |exact YB _
     |exact rE _ _ _ _
     |exact EP _ _
     |exact HT _ _
     |exact rF _ _ _ _
     |exact AU _ _ _ _
     |exact nG _
     |exact rG _
     |exact ER _ _
     |exact AV _ _ _ _
     |exact HU _ _ _ _
     |exact CE _
     |exact wG _ _ _
     |exact nf _ _
     |exact nh _ _
     |exact nj _ _
     |exact ES _ _ _ _ _
     |exact nk _ _
     |exact y8 _ _ _ _
     |exact HV _ _ _ _
     |exact ML _ _ _ _
     |exact np _ _ _
     |exact nN _ _ _ _
     |exact ET _ _ _ _ _ _
     |exact MM _ _ _
     |exact MN _ _ _
     |exact MO _ _ _
     |exact wH _ _ _
     |exact xO _ _ _
     |exact HW _ _ _
     |exact TD _ _ _
     |exact YC _ _ _ _ _
     |exact TE _ _ _ _
     |exact HX _ _ _
     |exact HY _ _ _ _ _ _
     |exact mL _ _
     |exact HZ _ _ _ _ _
     |exact MP _ _
     |exact pU _ _ _ _
     |exact tK _ _ _
     |exact MQ _
     |exact xP _ _
     |exact qI _
     |exact TF _
     |exact tL _ _
     |exact MR _
     |exact TG _
     |exact MT _
     |exact QF _
     |exact tM _ _
     |exact vE _
     |exact y9 _ _ _
     |exact YD _
     |exact nO _
     |exact YE _
     |exact tN _
     |exact AW _ _
     |exact TH _ _
     |exact iM _ _
     |exact xQ _
     |exact rH _)
  | (with_reducible refine YF (fun _ _ _=>rfl) (fun _=>?_))
  | (with_reducible refine oW (fun _ _=>?_))
  | (with_reducible refine oX (fun _ _=>?_))
  | (with_reducible refine IA (fun _=>?_))
  | ((with_reducible refine cQ ?_ ?_);· exact O5)
  | ((with_reducible refine cQ ?_ ?_);· exact O6)
  | ((with_reducible refine cQ ?_ ?_);· exact O7)
  | ((with_reducible refine cQ ?_ ?_);· exact P2)
  | ((with_reducible refine cQ ?_ ?_);· exact P3)
  | (with_reducible refine kX ?_ ?_)
  | ((with_reducible refine cQ ?_ ?_);· exact rfl)
  | (with_reducible refine CF ?_ ?_)
  | ((with_reducible refine mM (fun _ _=>?_) ?_)<;>exact fun _=>trivial)
  | (with_reducible refine aX ?_ (fun _=>?_))
  | (with_reducible refine YG ?_)
  |split
  |dsimp only
  |intro _
 ):p:=h
def eU{p:Prop}(h:p:=by (try dsimp only);exact pO):p:=h
def aX{b c:Type}{Z:dX}{x:Sem b}{f:b->Sem c}(e:Lk P F Z x)(d:∀a,Lk P F Z (f a)):Lk P F Z (x>>=f):=⟨BZ e.ok fun a=>(d a).ok⟩
def YG{a b:Type}{Z:dX}{x:Sem a}{f:a->b}(c:Lk P F Z x):Lk P F Z (Functor.map f x):=⟨BZ c.ok (fun _=>cW _)⟩
def aY{b:Type}{Z:dX}(a:b):Lk P F Z (pure a:Sem b):=⟨cW a⟩
def CF{d:Type}{Z:dX}{f:Obj->Sem d}(c:∀o,¬eZ o->Lk P F Z (f o))(a:∀o,QD o->kW (strip P F) (f o)):Lk P F Z (getObj r>>=f):=⟨uZ (k:=f) (fun o b _=>(c o b).ok) a⟩
def xR{e:Type}{Z:dX}{f:Obj->Sem e}(d:∀o,¬eZ o->kF Z o->Lk P F Z (f o))(a:∀o,QD o->kW (strip P F) (f o)):Lk P F Z (getObj r>>=f):=⟨uZ (k:=f) (fun o c b=>(d o c b).ok) a⟩
def cQ{c:Type}{Z:dX}{f:K5->Sem c}(a:f P=f (strip P F))(b:Lk P F Z (f (strip P F))):Lk P F Z (program>>=f):=⟨EL (k:=f) a b.ok⟩
def XY{Z:dX}(c:Ff)(e:Fh)(f:Nat×Nat):Lk P F Z (newObj (.cells c e f)):=⟨jR ⟨id,trivial⟩ (fun r=>cW r)⟩
def SZ{Z:dX}(es:Array MapEntry)(n:Nat):Lk P F Z (newObj (.map es n)):=⟨jR ⟨id,trivial⟩ (fun r=>cW r)⟩
def xS{Z:dX}(m:Option Nat)(a:Nat)(s:Array Nat)(b:Nat):Lk P F Z (newObj (.mapIter m a s b)):=⟨jR ⟨id,trivial⟩ (fun r=>cW r)⟩
def TI{Z:dX}(s:Lp)(n:Nat):Lk P F Z (newObj (.stringIter s n)):=⟨jR ⟨id,trivial⟩ (fun r=>cW r)⟩
def TB{Z:dX}(r:Nat)(es:Array MapEntry)(n:Nat):Lk P F Z (setObj r (.map es n)):=⟨iR ⟨id,trivial⟩ id (fun e=>by cases e) (cW ())⟩
def MJ{Z:dX}(r:Nat)(m:Option Nat)(a:Nat)(s:Array Nat)(b:Nat):Lk P F Z (setObj r (.mapIter m a s b)):=⟨iR ⟨id,trivial⟩ id (fun e=>by cases e) (cW ())⟩
def TC{Z:dX}(r:Nat)(s:Lp)(n:Nat):Lk P F Z (setObj r (.stringIter s n)):=⟨iR ⟨id,trivial⟩ id (fun e=>by cases e) (cW ())⟩
def oU{Z:dX}(q:Question):Lk P F Z (choose q):=⟨HL (fun n=>cW n)⟩
def EN{Z:dX}(a:Addr)(m:Mode):Lk P F Z (load a m):=⟨BX (fun x=>cW x)⟩
def YH{Z:dX}(a:Addr)(x:vZ)(m:Mode):Lk P F Z (store a x m):=⟨ME (cW ())⟩
def TA{Z:dX}(a:Addr):Lk P F Z (frozen a):=⟨HK (fun b=>cW b)⟩
def SU{Z:dX}:Lk P F Z (mark .noRoom):=⟨BY (.inr rfl) (cW ())⟩
def mM{d:Type}{f:Obj->Sem d}(h:∀a u,kW (strip P F) (f (.view a u)))(b:kW (strip P F) (f (.coro none))):∀o,QD o->kW (strip P F) (f o):=by
 rintro o (c|rfl)
 .cases o<;>first|exact c.elim|exact h _ _
 .exact b
def aW{a:Type}{Z:dX}(s:String):Lk P F Z (stuck s:Sem a):=⟨iG _ (.inr trivial)⟩
def bO{a:Type}{Z:dX}(u:Unsupported)(h:∀g,u≠.initOrder g:=by first|assumption| (intro g b;cases b)):Lk P F Z (unsupported u:Sem a):=⟨iG _ (.inl (by cases u<;>first|exact trivial|exact absurd rfl (h _)))⟩
def iS{a:Type}{Z:dX}(s:String):Lk P F Z (unsupported (.noEntry s):Sem a):=⟨iG _ (.inl trivial)⟩
def rG{a:Type}{Z:dX}(s:String):Lk P F Z (unsupported (.unsafePointer s):Sem a):=⟨iG _ (.inl trivial)⟩
def rD{a:Type}{Z:dX}(s:String):Lk P F Z (unsupported (.resourceLimit s):Sem a):=⟨iG _ (.inl trivial)⟩
def jB{a:Type}{Z:dX}:Lk P F Z (unsupported .addressObserved:Sem a):=⟨iG _ (.inl trivial)⟩
def MF{a:Type}{Z:dX}(x:vZ):Lk P F Z (goPanic x:Sem a):=⟨iG _ (.inl trivial)⟩
def gK{Z:dX}(t:Fh):Lk P F Z (typeInfo t):=by unfold typeInfo;exact pO
def dG{Z:dX}(t:Fh):Lk P F Z (underlying t):=by unfold underlying;exact pO
def EO{Z:dX}(t:Fh):Lk P F Z (zeroValue t):=by unfold zeroValue;exact pO
def oT{Z:dX}(t:Fh):Lk P F Z (sizeOf t):=by unfold sizeOf;exact pO
def XX{Z:dX}(t:Fh):Lk P F Z (isAgg t):=by unfold isAgg;exact pO
def qI{Z:dX}(t:Fh):Lk P F Z (typeStr t):=by unfold typeStr;exact pO
def CB{Z:dX}(t:Fh):Lk P F Z (elemOf t):=by unfold elemOf;exact pO
section
variable{P:K5}{F:yg}{Z:dX}
theorem lI(a:Addr):∀(n i:Nat) (b:Ff),Lk P F Z (loadCellsFrom a i n b)
 |0,_,_=>aY _
 |n+1,_,_=>aX (EN _ _) (fun _=>lI a n _ _)
end
def EM{Z:dX}(a:Addr)(n:Nat):Lk P F Z (loadCells a n):=lI a n 0 #[]
section
variable{P:K5}{F:yg}{Z:dX}
theorem pR(a:Addr):∀(c:K3) (i:Nat),Lk P F Z (storeCells a c i)
 | [],_=>aY _
 |_::b,_=>aX (YH _ _ _) (fun _=>pR a b _)
end
def qH{Z:dX}(t:Fh)(a:Addr):Lk P F Z (loadVar t a):=by unfold loadVar;exact eU
def HM{Z:dX}(t:Fh)(a:Addr)(x:vZ):Lk P F Z (storeVar t a x):=by unfold storeVar;exact eU
def SR{Z:dX}(t:Fh)(c:Ff):Lk P F Z (newRow t c):=by unfold newRow;exact eU
def SS{Z:dX}(t:Fh)(x:vZ):Lk P F Z (newVar t x):=by unfold newVar;exact eU
def oV{Z:dX}(t:Fh)(c:Ff)(n:Nat):Lk P F Z (part t c n):=by unfold part;exact eU
def bS{a:Type}{Z:dX}(e:RuntimeError):Lk P F Z (runtimePanic e:Sem a):=by unfold runtimePanic;exact eU
def xL{a:Type}{Z:dX}(k:IntKind)(x y:Int)(c:BoundsCode):Lk P F Z (boundsPanic k x y c:Sem a):=by unfold boundsPanic;exact eU
def MG{Z:dX}(x:vZ):Lk P F Z (asIntOf x):=by unfold asIntOf;exact eU
def iT{Z:dX}(x:vZ):Lk P F Z (asInt x):=by unfold asInt;exact eU
def CE{Z:dX}(x:vZ):Lk P F Z (asBool x):=by unfold asBool;exact eU
def YA{Z:dX}(x:vZ):Lk P F Z (asAgg x):=by unfold asAgg;exact eU
def tJ{Z:dX}(x:vZ):Lk P F Z (asAddr x):=by unfold asAddr;exact eU
def MH{Z:dX}(n:Nat):Lk P F Z (askRoom n):=by unfold askRoom;exact eU
def YI{Z:dX}(t:TypeId)(b:Bool)(x:Value):Lk P F Z (Instr.alloc t b x):=by unfold Instr.alloc;exact eU
def za{Z:dX}(t:Fh)(x:vZ):Lk P F Z (Instr.box t x):=by unfold Instr.box;exact eU
def IB{b:Type}{Z:dX}{s:Sem b}(h:∀w v es B,Rel Z w v->cV Z B es->w.heap.size<=B->HH (s.run (strip P F) v)\/(Alike Z w v (s.run P w) (s.run (strip P F) v)/\cV Z B (s.events P w es))):Lk P F Z s:=
 ⟨fun w v es B a d _ c=>h w v es B a d (aAw (fT P s w).size c)⟩
def YF{f:Type}{Z:dX}{k:Option (Fh×Nat)->Sem f}(d:∀e n m,k (some (e,n))=k (some (e,m)))(i:∀s,Lk P F Z (k s)):Lk P F Z (shape r>>=k):=by
 refine⟨fun w v es B b q j p=>?_⟩;have e:k (v.shape? r)=k (w.shape? r):=by
  have l:=b.look r;unfold World.shape?;revert l;generalize w.heap[r]?=x;generalize v.heap[r]?=y;intro l;cases l with
  |gP _=>exact d _ _ _
  | @shut o _ a _ _=>cases o<;>first|exact absurd trivial a|rfl
  | @view o g a c=>cases o<;>first|exact a.elim| (cases g<;>first|exact c.elim|rfl)
  |same _=>rfl
 have h:=(i (w.shape? r)).ok w v es B b q j p;show HH ((k (v.shape? r)).run (strip P F) v)\/(Alike Z w v ((k (w.shape? r)).run P w) ((k (v.shape? r)).run (strip P F) v)/\cV Z B ((k (w.shape? r)).events P w es));rw[e];exact h
def xU(a:Addr)(w:WR):(noView a).run P w=match w.heap[a.block]? with
  |none=>.halt (.stuck "getObj: no such block") w
  |some (.view _ _)=>.halt (.unsupported (.unsafePointer "memory seen as another type")) w
  |some _=>.ok () w:=by
 cases h:w.heap[a.block]? with
 |none=>simp[noView,viewAt,shape,Go.getObj,Sem.run,World.shape?,h]
 |some o=>cases o<;>simp[noView,viewAt,shape,Go.getObj,Sem.run,World.shape?,h,unsupported]
def TJ(a:Addr)(w:WR)(es:aA):(noView a).events P w es=match w.heap[a.block]? with
  |none=>es
  |some (.cells ..)=>es
  |some o=>es.push ⟨.obj a.block,false,o.isChan⟩:=by
 cases h:w.heap[a.block]? with
 |none=>simp[noView,viewAt,shape,Go.getObj,World.shape?,h,Sem.events,Sem.runT, -Sem.runT_eq,bind,Sem.bind]
 |some o=>cases o<;>simp[noView,viewAt,shape,Go.getObj,World.shape?,h,unsupported,Sem.events,Sem.runT, -Sem.runT_eq,bind,Sem.bind,pure]
def rJ(r:Nat)(w:WR):(numberAt r).run P w=match w.heap[r]? with
  |none=>.halt (.stuck "getObj: no such block") w
  |some (.number a l)=>.ok (some (a,l)) w
  |some _=>.ok none w:=by
 cases h:w.heap[r]? with
 |none=>simp[numberAt,shape,Go.getObj,Sem.run,World.shape?,h]
 |some o=>cases o<;>simp[numberAt,shape,Go.getObj,Sem.run,World.shape?,h]
def IC(r:Nat)(w:WR)(es:aA):(numberAt r).events P w es=match w.heap[r]? with
  |none=>es
  |some (.cells ..)=>es
  |some o=>es.push ⟨.obj r,false,o.isChan⟩:=by
 cases h:w.heap[r]? with
 |none=>simp[numberAt,shape,Go.getObj,World.shape?,h,Sem.events,Sem.runT, -Sem.runT_eq,bind,Sem.bind]
 |some o=>cases o<;>simp[numberAt,shape,Go.getObj,World.shape?,h,Sem.events,Sem.runT, -Sem.runT_eq,bind,Sem.bind,pure]
def SX{Z:dX}(a:Addr):Lk P F Z (noView a):=by
 refine IB fun w v es B g e j=>?_;have l:=g.look a.block;have c:∀o,w.heap[a.block]?=some o->a.block<B:=fun o h=>aAy (aAu.1 h).1 j;have d:=On.refl g;rw[xU,xU,TJ];revert l c;generalize w.heap[a.block]?=x;generalize v.heap[a.block]?=y;intro l c;cases l with
 |gP _=>exact .inr ⟨⟨rfl,d⟩,e⟩
 | @shut o _ b f _=>cases o<;>first|exact absurd trivial b|exact absurd trivial f|exact .inr ⟨⟨rfl,d⟩,dL e (show Clean Z B ⟨.obj a.block,_,_⟩ from c _ rfl)⟩
 | @view o i b f=>cases o<;>first|exact b.elim| (cases i<;>first|exact f.elim|exact .inl trivial)
 |same b=>
  cases x with
  |none=>exact .inl trivial
  |some o=>cases o<;>first|exact absurd trivial (b _ rfl).1|exact .inr ⟨⟨rfl,d⟩,e⟩|exact .inr ⟨⟨rfl,d⟩,dL e (show Clean Z B ⟨.obj a.block,_,_⟩ from c _ rfl)⟩
def HN{Z:dX}(r:Nat):Lk P F Z (numberAt r):=by
 refine IB fun w v es B f d i=>?_;have l:=f.look r;have a:∀o,w.heap[r]?=some o->r<B:=fun o g=>aAy (aAu.1 g).1 i;have b:=On.refl f;rw[rJ,rJ,IC];revert l a;generalize w.heap[r]?=x;generalize v.heap[r]?=y;intro l a;cases l with
 |gP _=>exact .inr ⟨⟨rfl,b⟩,d⟩
 | @shut o _ c e h3=>cases o<;>first|exact absurd trivial c|exact absurd trivial e|exact absurd rfl (h3 _ _)|exact .inr ⟨⟨rfl,b⟩,dL d (show Clean Z B ⟨.obj r,_,_⟩ from a _ rfl)⟩
 | @view o h c e=>cases o<;>first|exact c.elim| (cases h<;>first|exact e.elim|exact .inr ⟨⟨rfl,b⟩,dL d (show Clean Z B ⟨.obj r,_,_⟩ from a _ rfl)⟩)
 |same c=>
  cases x with
  |none=>exact .inl trivial
  |some o=>cases o<;>first|exact absurd trivial (c _ rfl).1|exact .inr ⟨⟨rfl,b⟩,d⟩|exact .inr ⟨⟨rfl,b⟩,dL d (show Clean Z B ⟨.obj r,_,_⟩ from a _ rfl)⟩
section
variable{c:Type}{P:K5}{F:yg}{Z:dX}
theorem tO{d:Type}(f:d->c->Sem (ForInStep c))(h:∀a b,Lk P F Z (f a b)):∀(l:List d) (b:c),Lk P F Z (forIn l b f)
 | [],b=>by rw[List.forIn_nil];exact aY _
 |a::l,b=>by
  rw[List.forIn_cons];refine aX (h a b) fun x=>?_;cases x with
  |done b=>exact aY _
  |yield b=>exact tO f h l b
end
def oW{c:Type}{Z:dX}{d:Type}{f:d->c->Sem (ForInStep c)}{l:Array d}{b:c}(h:∀a b,Lk P F Z (f a b)):Lk P F Z (forIn l b f):=by rw[<-Array.forIn_toList];exact tO f h _ _
def oX{c:Type}{Z:dX}{f:Nat->c->Sem (ForInStep c)}{r:Std.Legacy.Range}{b:c}(h:∀a b,Lk P F Z (f a b)):Lk P F Z (forIn r b f):=by rw[Std.Legacy.Range.forIn_eq_forIn_range'];exact tO f h _ _
section
variable{c:Type}{P:K5}{F:yg}{Z:dX}
theorem ID{b:Type}(f:b->Sem c)(h:∀a,Lk P F Z (f a)):∀l:List b,Lk P F Z (l.mapM f)
 | []=>by rw[List.mapM_nil];exact aY _
 |a::l=>by rw[List.mapM_cons];exact aX (h a) fun _=>aX (ID f h l) (fun _=>aY _)
end
def IA{c:Type}{Z:dX}{b:Type}{f:b->Sem c}{l:Array b}(h:∀a,Lk P F Z (f a)):Lk P F Z (l.mapM f):=by rw[Array.mapM_eq_mapM_toList];exact YG (ID f h _)
def nG{Z:dX}(a:Addr):Lk P F Z (behindNumber a):=by unfold behindNumber;exact eU
section
variable{P:K5}{F:yg}
theorem iH:∀(d:Nat) (e:Fh) (n:Nat),byteOfCell (strip P F) d e n=byteOfCell P d e n
 |0,_,_=>rfl
 |d+1,e,n=>by have a:byteOfCell (strip P F) d=byteOfCell P d:=funext fun e=>funext fun n=>iH d e n;simp only[byteOfCell,a];rfl
end
def CC{Z:dX}(a:Addr):Lk P F Z (byteOf a):=by
 unfold byteOf;split
 .exact aY _
 refine cQ ?_ ?_
 .simp only[iH];rfl
 exact pO
def SY{Z:dX}(a:Addr)(n m:Nat):Lk P F Z (partAt a n m):=by unfold partAt;exact eU
def pS{Z:dX}(a:Addr)(f:Field):Lk P F Z (fieldPlace a f):=by unfold fieldPlace;exact eU
def YJ{Z:dX}(t:Fh)(x:Array (Nat×vZ)):Lk P F Z (Instr.build t x):=by unfold Instr.build;exact eU
def AX{Z:dX}(t:Fh)(n:Nat)(x:Array (Nat×vZ)):Lk P F Z (Instr.buildSlice t n x):=by unfold Instr.buildSlice;exact eU
def HP{Z:dX}(x:vZ):Lk P F Z (Instr.sureAddr x):=by unfold Instr.sureAddr;exact eU
def TK{Z:dX}(t:Fh)(x:vZ):Lk P F Z (Instr.loadAt t x):=by unfold Instr.loadAt;exact eU
def MU{Z:dX}(t:Fh)(x y:vZ):Lk P F Z (Instr.storeAt t x y):=by unfold Instr.storeAt;exact eU
def MV{Z:dX}(t:Fh)(x:vZ)(n:Nat):Lk P F Z (Instr.fieldAt t x n):=by unfold Instr.fieldAt;exact eU
def MW{Z:dX}(t:Fh)(x y:vZ):Lk P F Z (Instr.indexAt t x y):=by unfold Instr.indexAt;exact eU
def AS{Z:dX}(x:vZ)(n:Nat)(c:BoundsCode):Lk P F Z (Instr.sliceBound x n c):=by unfold Instr.sliceBound;exact eU
def xM{Z:dX}(b:Bool)(n m:Nat)(x y z:Option vZ):Lk P F Z (Instr.sliceBounds b n m x y z):=by unfold Instr.sliceBounds;exact eU
def XZ{Z:dX}(t:Fh)(x:vZ)(l h m:Option vZ):Lk P F Z (Instr.slice t x l h m):=by unfold Instr.slice;exact eU
def MX{Z:dX}(t:Fh)(x:vZ)(l h m:Option vZ):Lk P F Z (Instr.sliceAt t x l h m):=by unfold Instr.sliceAt;exact eU
def tP{Z:dX}(t:Fh)(x:vZ):Lk P F Z (Instr.makeInterface t x):=by unfold Instr.makeInterface;exact eU
def IE{Z:dX}(f:Fn)(x y:Ff):Lk P F Z (Instr.makeFunc f x y):=by unfold Instr.makeFunc;exact eU
def MY{Z:dX}(t:Fh)(x:Option vZ):Lk P F Z (Instr.makeMap t x):=by unfold Instr.makeMap;exact eU
def EU{Z:dX}(t:Fh)(x y:vZ):Lk P F Z (Instr.makeSlice t x y):=by unfold Instr.makeSlice;exact eU
def YK{Z:dX}(t:Fh)(x:vZ)(n:Nat):Lk P F Z (Instr.field t x n):=by unfold Instr.field;exact eU
def YL{Z:dX}(t:Fh)(x y:vZ):Lk P F Z (Instr.index t x y):=by unfold Instr.index;exact eU
def MZ{Z:dX}(x:vZ)(n:Nat):Lk P F Z (Instr.extract x n):=by unfold Instr.extract;exact eU
def AY{Z:dX}(x:vZ)(t u:Fh)(b:Bool):Lk P F Z (Instr.typeAssert x t u b):=by unfold Instr.typeAssert;exact eU
def wI(w:WR)(a:Addr):Bool:=w.frozen? a||(match w.shape? a.block with
 |some (_,n)=>w.frozen? {block:=a.block,off:=n}
 |none=>false)
def YM(w:WR)(a:Addr):Bool:=match w.shape? a.block with
 |some (_,0)=>true
 |_=>false
def pV(a:Addr)(w:WR):(stringish a).run P w=.ok (wI w a) w:=by
 unfold stringish wI;cases h:w.frozen? a with
 |true=>simp[frozen,Sem.run,h]
 |false=>
  cases b:w.shape? a.block with
  |none=>simp[frozen,shape,Sem.run,h,b]
  |some x=>have⟨e,n⟩:=x;simp[frozen,shape,Sem.run,h,b]
def EV(a:Addr)(w:WR)(es:aA):(stringish a).events P w es=es:=by
 unfold stringish;cases h:w.frozen? a with
 |true=>simp[frozen,Sem.events,Sem.runT, -Sem.runT_eq,bind,Sem.bind,h,pure]
 |false=>
  cases b:w.shape? a.block with
  |none=>simp[frozen,shape,Sem.events,Sem.runT, -Sem.runT_eq,bind,Sem.bind,h,b,pure]
  |some x=>have⟨e,n⟩:=x;simp[frozen,shape,Sem.events,Sem.runT, -Sem.runT_eq,bind,Sem.bind,h,b]
def rK(a b:Addr)(w:WR):(mayBeOne a b).run P w=.ok ((wI w a && wI w b)||(wI w a && YM w a)||(wI w b && YM w b)) w:=by unfold mayBeOne;simp only[Sem.run_bind,pV,Result.andThen_ok,shape,Sem.run];rfl
def IF(a b:Addr)(w:WR)(es:aA):(mayBeOne a b).events P w es=es:=by unfold mayBeOne;simp only[Sem.events_bind,EV,pV,Result.evThen_ok,shape,Sem.run_bind,Sem.run,Result.andThen_ok];rfl
def CG{Z:dX}(h:Rel Z w v)(a:Addr):wI v a=wI w a/\(wI w a=true->YM v a=YM w a):=by
 have d:=fun x=>h.frozen x;have l:=h.look a.block;unfold wI YM;simp only[d];unfold World.shape? World.frozen?;dsimp only;revert l;generalize w.heap[a.block]?=x;generalize v.heap[a.block]?=y;intro l;cases l with
 |gP _=>simp
 | @shut o _ b _ _=>cases o<;>first|exact absurd trivial b|exact⟨rfl,fun _=>rfl⟩
 | @view o e b c=>cases o<;>first|exact b.elim| (cases e<;>first|exact c.elim|exact⟨rfl,fun _=>rfl⟩)
 |same _=>exact⟨rfl,fun _=>rfl⟩
def HQ{Z:dX}(a b:Addr):Lk P F Z (mayBeOne a b):=by
 refine IB fun w v es B c j k=>?_;rw[rK,rK,IF];refine .inr ⟨⟨?_,.refl c⟩,j⟩;have⟨g,d⟩:=CG c a;have⟨f,e⟩:=CG c b;rw[g,f];cases h:wI w a<;>cases i:wI w b<;>simp[h,i] at d e⊢
 .rw[e]
 .rw[d]
def vC{Z:dX}(a b:Addr):Lk P F Z (sameAddr a b):=by unfold sameAddr;exact eU
def xV{Z:dX}(a b:yj):Lk P F Z (samePointer a b):=by unfold samePointer;exact eU
section
variable{P:K5}{F:yg}
theorem vF:∀(d:Nat) (t u:Fh),(strip P F).alikeButTags d t u=P.alikeButTags d t u
 |0,_,_=>rfl
 |d+1,t,u=>by have a:(strip P F).alikeButTags d=P.alikeButTags d:=funext fun t=>funext fun u=>vF d t u;simp only[Program.alikeButTags,a];try rfl
end
def rL(d:Nat):(strip P F).alikeButTags d=P.alikeButTags d:=funext fun t=>funext fun u=>vF d t u
def jE(t:Fh):(strip P F).packed t=P.packed t:=by simp only[Program.packed,Program.packedAs,rL];rfl
section
variable{P:K5}{F:yg}
theorem gQ:∀(d:Nat) (t:Fh),(strip P F).holdsPacked d t=P.holdsPacked d t
 |0,_=>rfl
 |d+1,t=>by have a:(strip P F).holdsPacked d=P.holdsPacked d:=funext fun t=>gQ d t;simp only[Program.holdsPacked,a,jE];rfl
end
def gR(t:Fh):(strip P F).stoodInHeld t=P.stoodInHeld t:=by simp only[Program.stoodInHeld,Program.stoodInAs,rL];rfl
def kK:(strip P F).depth=P.depth:=rfl
section
variable{P:K5}{F:yg}
theorem kL:∀(d:Nat) (t:Fh),(strip P F).eqGuardType d t=P.eqGuardType d t
 |0,_=>rfl
 |d+1,t=>by have a:(strip P F).eqGuardType d=P.eqGuardType d:=funext fun t=>kL d t;simp only[Program.eqGuardType,a];rfl
end
def O5{a:Type}{A B:Sem a}:(program>>=fun q=>if P.holdsPacked q.depth t=true then A else B)=(program>>=fun q=>if(strip P F).holdsPacked q.depth t=true then A else B):=by simp only[gQ]
def O6{a:Type}{A B:Sem a}:(if(strip P F).holdsPacked P.depth t=true then A else B)=(if(strip P F).holdsPacked (strip P F).depth t=true then A else B):=by rw[kK (P:=P) (F:=F)]
def O7{a:Type}{A B:Sem a}:(if P.stoodInHeld t=true then A else B)=(if(strip P F).stoodInHeld t=true then A else B):=by rw[gR (P:=P) (F:=F)]
def P2{a:Type}{A B:Sem a}:(program>>=fun q=>if(!P.eqGuardType q.depth t)=true then A else B)=(program>>=fun q=>if(!(strip P F).eqGuardType q.depth t)=true then A else B):=by simp only[kL]
def P3{a:Type}{A B:Sem a}:(if(!(strip P F).eqGuardType P.depth t)=true then A else B)=(if(!(strip P F).eqGuardType (strip P F).depth t)=true then A else B):=by rw[kK (P:=P) (F:=F)]
section
variable{P:K5}{F:yg}{Z:dX}
theorem xN:∀(d:Nat) (t:Fh) (x y:vZ),Lk P F Z (Op.equalIn d t x y)
 |0,_,_,_=>bO _
 |d+1,t,x,y=>by
  have a:=xN d;unfold Op.equalIn;repeat' first
   |assumption
   | (with_reducible exact a _ _ _)
   | (with_reducible exact xV _ _)
   | (with_reducible exact vC _ _)
   | (with_reducible exact CC _)
   | (with_reducible exact nG _)
   | (with_reducible exact bS _)
   | (with_reducible exact oV _ _ _)
   | (with_reducible exact qI _)
   | (with_reducible exact oT _)
   | (with_reducible exact dG _)
   | (with_reducible exact gK _)
   | (with_reducible exact oU _)
   | (with_reducible exact jB)
   | (with_reducible exact iS _)
   | (with_reducible exact aW _)
   | (with_reducible exact aY _)
   | (with_reducible refine oW (fun _ _=>?_))
   | (with_reducible refine oX (fun _ _=>?_))
   | ((with_reducible refine cQ ?_ ?_);· exact O5)
   | ((with_reducible refine cQ ?_ ?_);· exact O6)
   | ((with_reducible refine cQ ?_ ?_);· exact O7)
   | ((with_reducible refine cQ ?_ ?_);· exact rfl)
   | (with_reducible refine aX ?_ (fun _=>?_))
   |split
   |dsimp only
   |intro _
end
def HX{Z:dX}(t:Fh)(x y:vZ):Lk P F Z (Op.equal t x y):=by unfold Op.equal;exact eU
section
variable{P:K5}{F:yg}{Z:dX}
theorem rE:∀(d:Nat) (t:Fh) (x y:vZ),Lk P F Z (Op.eqGuardIn d t x y)
 |0,_,_,_=>bO _
 |d+1,t,x,y=>by
  have a:=rE d;unfold Op.eqGuardIn;repeat' first
   |assumption
   | (with_reducible exact a _ _ _)
   | (with_reducible exact oV _ _ _)
   | (with_reducible exact oT _)
   | (with_reducible exact dG _)
   | (with_reducible exact aY _)
   | (with_reducible refine oW (fun _ _=>?_))
   | (with_reducible refine oX (fun _ _=>?_))
   | (with_reducible refine aX ?_ (fun _=>?_))
   |split
   |dsimp only
   |intro _
end
section
variable{P:K5}{F:yg}{Z:dX}
theorem vD(b:Bool):∀(d:Nat) (t:Fh) (x:vZ),Lk P F Z (Instr.checkKey b d t x)
 |0,_,_=>bO _
 |d+1,t,x=>by
  have a:=vD b d;unfold Instr.checkKey;repeat' first
   |assumption
   | (with_reducible exact a _ _)
   | (with_reducible exact bS _)
   | (with_reducible exact oV _ _ _)
   | (with_reducible exact qI _)
   | (with_reducible exact oT _)
   | (with_reducible exact dG _)
   | (with_reducible exact gK _)
   | (with_reducible exact aW _)
   | (with_reducible exact aY _)
   | (with_reducible refine oW (fun _ _=>?_))
   | (with_reducible refine oX (fun _ _=>?_))
   | (with_reducible refine aX ?_ (fun _=>?_))
   |split
   |dsimp only
   |intro _
end
section
variable{P:K5}{F:yg}{Z:dX}
theorem pT(t:Fh)(x:vZ):∀(l:List MapEntry) (i:Nat),Lk P F Z (Instr.findAsking t x l i)
 | [],_=>aY _
 |e::l,i=>by
  have a:=pT t x l;unfold Instr.findAsking;repeat' first
   |assumption
   | (with_reducible exact a _)
   | (with_reducible exact HX _ _ _)
   | (with_reducible exact aY _)
   | (with_reducible refine aX ?_ (fun _=>?_))
   |split
   |dsimp only
   |intro _
end
end Go.Lift
